import Derived.Test.YtkgbdddkcjpgfaaGreatDoorC06
namespace Go.Proofs.YtkgbdddkcjpgfaaGreatDoor
set_option maxHeartbeats 2000000
set_option maxRecDepth 100000
open Go.Proofs.Tryz
section
open Go.RowKit
variable {n b dep dpst dpk:Nat} {w:World} {g gk:Bool} {r:List (List UInt8)} {rest v items:Value} {t:List UInt8} {vs:List Value}
def OkT(t:List UInt8):Prop:=(cE t<4\/Pl.isNum t=true\/Pl.noDig t=true)/\0<t.length/\t.length<=1000
def PDPost(n:Nat)(w:World)(b dep dpst:Nat)(g:Bool)(l:List (List UInt8))(e:Ending)(w':World):Prop :=
 w.grownBy w' (some b) /\
 match Pl.pd n l with
 | none=>∃s,e=.returned (.tuple #[.nilIface,aY s 2])
 | some p=>∃v rest',e=.returned (.tuple #[v,.nilIface])/\RepP (fun k=>w.heap.size<=k) n w' v p.t/\PRd w' b rest' dep ((max dpst (dep+p.dp):Nat):Int) (g||p.gr)/\TkSl w' rest' p.q
def PDSaid(n:Nat):Prop:=∀(w:World)(b:Nat)(rest:Value) (l:List (List UInt8)) (dep dpst:Nat) (g:Bool),PRd w b rest dep dpst g->TkSl w rest l->GE w->6<b->l.length<=n->l.length<=1000->dep+l.length<=2000->dep<=dpst->(∀t∈l,OkT t) ->
 Calls prog 148 #[.pointer (some ⟨b,0,none⟩)] w fun e w'=>PDPost n w b dep dpst g l e w'
structure PInv(n:Nat)(w wr:World)(b:Nat)(r:List (List UInt8))(dep dpst:Nat)(g:Bool)(q:List (List UInt8))(rest items:Value)(ts:List Tr)(vs:List Value)(dpk:Nat)(gk:Bool):Prop where
 suf:q <:+ r
 len:ts.length+q.length<=r.length
 lf:Pl.LF (Pl.pd n) r ts dpk gk q
 rd:PRd wr b rest ((dep+1:Nat):Int) ((max dpst (dep+1+dpk):Nat):Int) (g||gk)
 tk:TkSl wr rest q
 row:wr.ownsRow w.heap.size PT 1 items ts.length vs
 kid:∀(i:Nat)(u:Value)(x:Tr),vs[i]?=some u->ts[i]?=some x->RepP (fun k=>w.heap.size<=k/\items.ownBlock≠some k) n wr u x
 one:∀u∈vs,u.oneCell'=true
 grown:w.grownBy wr (some b)
 ge:GE wr
 bw:b<w.heap.size
theorem PInv.start{w1:World}(h:PRd w1 b rest ((dep+1:Nat):Int) ((max dpst (dep+1):Nat):Int) g)(ht:TkSl w1 rest r)(hg:w.grownBy w1 (some b))(hge:GE w1)(hb:b<w.heap.size)(o:Obj)(ho:o=.cells #[] PT (0,0)) :PInv n w (w1.alloc o) b r dep dpst g r rest (.slice (some ⟨w1.heap.size,0,none⟩) 0 0) [] [] 0 false where
 suf:=List.suffix_refl _
 len:=by simp
 lf:=Pl.LF.start _ _
 rd:=(h.alloc o).cast rfl (by omega) (by simp)
 tk:=ht.below ((Below.refl _ _).alloc (Nat.le_refl _) o)
 row:=⟨rfl,.inr ⟨w1.heap.size,0,#[],rfl,hg.size,by rw [ho];exact heap_alloc_new _ _,Nat.le_refl _,by unfold maxLen;omega,rfl,rfl⟩⟩
 kid:=fun i u x hu=>by simp at hu
 one:=fun u hu=>by simp at hu
 grown:=aC hg (World.grownBy_alloc _ _ _)
 ge:=hge.below ((Below.refl _ _).alloc (Nat.le_refl _) o)
 bw:=hb
structure PMid(n:Nat)(w w2:World)(b:Nat)(r:List (List UInt8))(dep dpst:Nat)(g:Bool)(p:Pl.PR)(rest items:Value)(ts:List Tr)(vs:List Value)(v:Value)(dpk:Nat)(gk:Bool):Prop where
 suf:p.q <:+ r
 len:ts.length+1+p.q.length<=r.length
 lf:Pl.LF (Pl.pd n) r (ts++[p.t]) (max dpk p.dp) (gk||p.gr) p.q
 rd:PRd w2 b rest ((dep+1:Nat):Int) ((max dpst (dep+1+max dpk p.dp):Nat):Int) (g||(gk||p.gr))
 tk:TkSl w2 rest p.q
 row:w2.ownsRow w.heap.size PT 1 items ts.length vs
 kid:∀(i:Nat)(u:Value)(x:Tr),vs[i]?=some u->ts[i]?=some x->RepP (fun k=>w.heap.size<=k/\items.ownBlock≠some k) n w2 u x
 new:RepP (fun k=>w.heap.size<=k/\items.ownBlock≠some k) n w2 v p.t
 one:∀u∈vs,u.oneCell'=true
 grown:w.grownBy w2 (some b)
 ge:GE w2
 bw:b<w.heap.size
theorem PInv.call{wr w2:World}{q0:List (List UInt8)}{rest':Value}{ts:List Tr}{p:Pl.PR}(hb2:6<b)
  (h:PInv n w wr b r dep dpst g (t::q0) rest items ts vs dpk gk) (ht:¬t=[41]) (hp:Pl.pd n (t::q0)=some p) (hg:wr.grownBy w2 (some b)) (hrep:RepP (fun k=>wr.heap.size<=k) n w2 v p.t)
  (hrd:PRd w2 b rest' ((dep+1:Nat):Int) ((max (max dpst (dep+1+dpk)) (dep+1+p.dp):Nat):Int) ((g||gk)||p.gr)) (htk:TkSl w2 rest' p.q) :
  PMid n w w2 b r dep dpst g p rest' items ts vs v dpk gk:=by
 have htl:=Pl.pd_tail n _ _ hp;have hK:∀ok,KeepP ok wr w2:=fun ok=>KeepP.of_grown hg h.rd (by decide);have hlen:=h.len;have hq:=htl.2;simp only [List.length_cons] at hlen hq;refine⟨htl.1.trans h.suf,by omega,h.lf.more ht hp htl.2,hrd.cast rfl (by omega) (by rw [Bool.or_assoc]),htk,?_,?_,?_,h.one,aC h.grown hg,h.ge.grown hg hb2,h.bw⟩
 ·refine h.row.kept hg ?_;by_cases hk:items.ownBlock=some b
  ·have:=(h.row.lt b hk).1;have:=h.bw;omega
  ·exact .inr hk
 ·exact fun i u x hu hx=>RepP.keep (hK _) _ _ _ (h.kid i u x hu hx)
 ·refine RepP.mono (fun k _ hk=>?_) _ _ _ hrep;have:=h.grown.size;refine⟨by omega,fun e=>?_⟩;have:=(h.row.lt k e).2;omega
theorem PMid.push{w2 w3:World}{ts:List Tr}{p:Pl.PR}{o:Obj}{g' cap':Nat}(hb2:6<b)
  (h:PMid n w w2 b r dep dpst g p rest items ts vs v dpk gk) (hv1:v.oneCell'=true) (hown:w3.ownsRow w.heap.size PT 1 (.slice (some ⟨g',0,none⟩) (ts.length+1) cap') (ts.length+1) (vs++[v])) (hg:(w2.alloc o).grownBy w3 items.ownBlock) (hat:items.ownBlock=some g'\/g'=w2.heap.size+1) :
  PInv n w w3 b r dep dpst g p.q rest (.slice (some ⟨g',0,none⟩) (ts.length+1) cap') (ts++[p.t]) (vs++[v]) (max dpk p.dp) (gk||p.gr):=by
 have hrl:=h.row.lt;have hsz:=h.grown.size;have hbw:=h.bw;have hob:∀k,k<w2.heap.size->items.ownBlock≠some k->w3.heap[k]?=w2.heap[k]? := fun k hk hne=>(hg.block k (by simp;omega) (fun e=>hne e.symm)).trans (Below.heap_alloc _ _ _ hk);have hold:∀k,k<w.heap.size->w3.heap[k]?=w2.heap[k]? := fun k hk=>hob k (by omega) (fun e=>by have:=(hrl k e).1;omega);generalize hk':Value.slice (some ⟨g',0,none⟩) (ts.length+1) cap'=items' at *;have hkb:items'.ownBlock=some g':=by rw [<- hk'];rfl
 have hkeep:KeepP (fun k=>w.heap.size<=k/\items.ownBlock≠some k) w2 w3:=fun k cur hok hk=>by rw [hob k (aB hk) hok.2];exact hk
 have hrep:∀(u:Value)(x:Tr),RepP (fun k=>w.heap.size<=k/\items.ownBlock≠some k) n w2 u x->RepP (fun k=>w.heap.size<=k/\items'.ownBlock≠some k) n w3 u x:=by
  intro u x hr
  have h1:RepP (fun k=>(w.heap.size<=k/\items.ownBlock≠some k)/\items'.ownBlock≠some k) n w2 u x:=by
   refine RepP.mono (fun k hk hok=>⟨hok,?_⟩) _ _ _ hr;rw [hkb];intro e;obtain rfl:=Option.some.inj e;rcases hat with h1 | h1
   ·exact hok.2 h1
   ·omega
  have h2:=RepP.keep (w':=w3) (ok:=fun k=>(w.heap.size<=k/\items.ownBlock≠some k)/\items'.ownBlock≠some k) (fun k cur hok hk=>hkeep k cur hok.1 hk) _ _ _ h1;exact RepP.mono (fun k _ hok=>⟨hok.1.1,hok.2⟩) _ _ _ h2
 refine⟨h.suf,by have:=h.len;simp;omega,h.lf,?_,?_,by simpa using hown,?_,?_,?_,?_,hbw⟩
 ·show w3.heap[b]?=_;rw [hold b hbw];exact h.rd
 ·refine h.tk.keep fun k cur hk=>?_;rw [hob k (aB hk) ?_];exact hk;intro e;rcases h.row.2 with⟨hv,_⟩ | ⟨y,_,_,hv,_,hy,_⟩
  ·rw [hv] at e;simp [Value.ownBlock] at e
  ·rw [hv] at e;simp only [Value.ownBlock,Option.some.injEq] at e;subst e;rw [hy] at hk;simp only [Option.some.injEq,Obj.cells.injEq] at hk;have:=hk.2.1;simp [PT,PK] at this
 ·intro i u x hu hx;have hvl:=h.row.1;by_cases hi:i<vs.length
  ·rw [List.getElem?_append_left hi] at hu;rw [List.getElem?_append_left (by omega)] at hx;exact hrep u x (h.kid i u x hu hx)
  ·have e:i=vs.length:=by
    have:=(List.getElem?_eq_some_iff.1 hu).1;simp at this;omega
   subst e;rw [List.getElem?_append_right (Nat.le_refl _)] at hu;rw [List.getElem?_append_right (by omega)] at hx;have e2:vs.length-ts.length=0:=by omega
   rw [e2] at hx;simp at hu hx;subst hu hx;exact hrep _ _ h.new
 ·intro u hu;rcases List.mem_append.1 hu with h1 | h1
  ·exact h.one u h1
  ·simp at h1;subst h1;exact hv1
 ·refine⟨hg.os.trans h.grown.os,hg.tape.trans h.grown.tape,hg.output.trans h.grown.output,by have:=hg.size;simp at this;omega,fun k hk hne=>?_⟩;rw [hold k hk];exact h.grown.block k hk hne
 ·obtain⟨ev,hc,he⟩:=h.ge;exact⟨ev,(World.cell?_of_block (w:=w2) (hold 6 (by omega))).trans hc,he⟩
theorem PInv.done{wr:World}{q:List (List UInt8)}{ts:List Tr}(h:PInv n w wr b r dep dpst g q rest items ts vs dpk gk)(hr:r.length<=1000){w':World}(hg:wr.grownBy w' (some b)) :RepP (fun k=>w.heap.size<=k) (n+1) w' (.iface 115 items) (.agg ts):=by have hK:∀ok,KeepP ok wr w':=fun ok=>KeepP.of_grown hg h.rd (by decide);refine RepP.keep (hK _) _ _ _ ⟨items,vs,rfl,fun r hr=>(h.row.lt r hr).1,⟨h.row.1,h.row.2.imp id (fun⟨g,cap,cur,a,b,c⟩=>⟨g,cap,cur,a,Nat.zero_le _,c⟩)⟩,?_,by have:=h.len;omega⟩;intro i u x hu hx;exact RepP.mono (fun k _ hok=>hok.1) _ _ _ (h.kid i u x hu hx)
theorem Tryz.infoPT:(prog.info? 109).map (fun i=>(i.zero,i.size,i.bytes))=some (some .nilIface,1,16):=by kernel_rfl
def PLPost(n:Nat)(w:World)(b dep dpst:Nat)(g:Bool)(r:List (List UInt8))(e:Ending)(w':World):Prop :=
 w.grownBy w' (some b) /\
 match Pl.pls (Pl.pd n) r.length r with
 | none=>∃s,e=.returned (.tuple #[.nilIface,aY s 2])
 | some p=>∃v rest',e=.returned (.tuple #[v,.nilIface])/\RepP (fun k=>w.heap.size<=k) (n+1) w' v (.agg p.ts)/\PRd w' b rest' dep ((max dpst (dep+1+p.dp):Nat):Int) (g||p.gr)/\TkSl w' rest' p.q
theorem kind1(t:List UInt8):(cE t==1)=(t==[41]):=by
 unfold cE;by_cases h:t=[41]
 ·subst h;rfl
 ·rw [beq_eq_false_iff_ne.2 h];by_cases h0:t=[40]
  ·subst h0;rfl
  ·rw [if_neg h0,if_neg h];split
   ·rfl
   ·split
    ·rfl
    ·split<;>rfl
def tkLen:Value->Nat | .slice _ n _=>n | _=>0
theorem p_list(n:Nat)(ih:PDSaid n)(w:World)(b:Nat)(rest:Value)(r:List (List UInt8))(dep dpst:Nat)(g:Bool)(h:PRd w b rest dep dpst g)(ht:TkSl w rest r)(hge:GE w)(hb2:6<b)(hn:r.length<=n)(hr:r.length<=1000)(hd:dep+1+r.length<=2000)(hdd:dep<=dpst)(hok:∀t∈r,OkT t) :Calls prog 186 #[.pointer (some ⟨b,0,none⟩)] w fun e w'=>PLPost n w b dep dpst g r e w':=by
 obtain⟨i0,hi0,hz0,hz1,hz2⟩:=info_parts Tryz.infoPT;have hbw:b<w.heap.size:=aB h;have HI:Hid (PDSaid n):=ih;have HH:Hid (PRd w b rest dep dpst g):=h;have HT:Hid (TkSl w rest r):=ht;have HGe:Hid (GE w):=hge;have HOk:Hid (∀t∈r,OkT t):=hok;clear ih h ht hge hok;go_enter func186,ntmps186;go_wp2_with fail;refine(u7 w b rest dep dpst g HH.out (by omega)).mono ?_;rintro e w1 ⟨rfl,hg1,hrd1⟩;have HS:Hid (∀o:Obj,o=.cells #[] PT (0,0)->PInv n w (w1.alloc o) b r dep dpst g r rest (.slice (some ⟨w1.heap.size,0,none⟩) 0 0) [] [] 0 false):=fun o ho=>PInv.start hrd1 (HT.out.grown hg1 HH.out) hg1 (HGe.out.grown hg1 hb2) hbw o ho;clear hg1 hrd1;go_wp2_with fail
 go_loopw [4] (fun items wr=>∃q rst ts vs dpk gk,Hid (PInv n w wr b r dep dpst g q rst items ts vs dpk gk)) (fun _ wr=>tkLen ((wr.cell? ⟨b,0,none⟩).getD undef))
 case atStart=>exact⟨_,_,_,_,_,_,HS.out _ rfl⟩
 case round =>
  obtain⟨q,rst,ts,vs,dpk,gk,HP⟩:=hrel;go_wp2_with fail;refine(yY wr b rst _ _ _ q HP.out.rd HP.out.tk).mono ?_;rintro e wz ⟨rfl,rfl⟩;have hql:=HP.out.suf.length_le;have hln:=HP.out.len;have HOq:Hid (∀t∈q,OkT t):=fun t ht=>HOk.out t (HP.out.suf.subset ht);have hm0:tkLen ((wr.cell? ⟨b,0,none⟩).getD undef)=q.length:=by rw [HP.out.rd.cells.1];obtain⟨ao,cap,hv,_⟩:=HP.out.tk;rw [hv];rfl
  cases q with
  | nil =>
   have hpls:Hid (Pl.pls (Pl.pd n) r.length r=none):=HP.out.lf.none_;have hpn:Pl.pd n []=none:=by cases n<;>rfl
   go_wp2_with fail
   refine(HI.out wr b rst [] (dep+1) (max dpst (dep+1+dpk)) (g||gk) HP.out.rd HP.out.tk HP.out.ge hb2 (by simp) (by simp) (by simp;omega) (by omega) (by simp)).mono ?_;rintro e w2 ⟨hg2,hpost⟩;rw [hpn] at hpost;obtain⟨s,rfl⟩:=hpost;have HG:Hid (w.grownBy w2 (some b)):=aC HP.out.grown hg2;unfold aY;clear hg2 hpn;go_wp2_with fail;go_ret2;refine⟨HG.out,?_⟩;rw [hpls.out];exact⟨s,rfl⟩
  | cons t q0 =>
   simp only [List.head?_cons,Option.any_some,kind1];by_cases h41:t=[41]
   ·subst h41;have hpls:Hid (Pl.pls (Pl.pd n) r.length r=some ⟨ts,q0,dpk,gk⟩):=HP.out.lf.close;obtain⟨g0,off,cap,hrst,hcap,hg0,_,_,htl⟩:=HP.out.tk.cons;subst hrst;have HTl:Hid (∀(ao:Option Addr)(c:Nat),q0.length<=c->(q0.length≠0->ao=some ⟨g0,off+2,none⟩)->TkSl wr (.slice ao q0.length c) q0):=htl;obtain⟨c0,c1,c2,c3⟩:=HP.out.rd.cells;have f0:=aF HP.out.rd 0;obtain⟨aoi,capi,hit,_⟩:=bC HP.out.row;subst hit;clear htl hm0 HOq;have e1:([41]==([41]:List UInt8))=true:=by decide
    go_wp2_with fail
    ·refine(oW _ b _ _ _ _ (HP.out.rd.set0 _) (by omega)).mono ?_;rintro e w3 ⟨rfl,hg3,hrd3⟩;have HG3:Hid (wr.grownBy w3 (some b)):=aC (aE _ _ _ _) hg3;have HR3:Hid (PRd w3 b _ _ _ _):=hrd3;clear hg3 hrd3 c0 c1 c2 c3 f0;go_wp2_with fail;go_ret2;refine⟨aC HP.out.grown HG3.out,?_⟩;rw [hpls.out];refine⟨_,_,rfl,HP.out.done hr HG3.out,HR3.out.cast (by omega) rfl rfl,?_⟩;exact(HTl.out _ _ (by omega) (by intro hh;first | rfl | (exfalso;omega))).grown HG3.out HP.out.rd
    ·refine(oW _ b _ _ _ _ (HP.out.rd.set0 _) (by omega)).mono ?_;rintro e w3 ⟨rfl,hg3,hrd3⟩;have HG3:Hid (wr.grownBy w3 (some b)):=aC (aE _ _ _ _) hg3;have HR3:Hid (PRd w3 b _ _ _ _):=hrd3;clear hg3 hrd3 c0 c1 c2 c3 f0;go_wp2_with fail;go_ret2;refine⟨aC HP.out.grown HG3.out,?_⟩;rw [hpls.out];refine⟨_,_,rfl,HP.out.done hr HG3.out,HR3.out.cast (by omega) rfl rfl,?_⟩;exact(HTl.out _ _ (by omega) (by intro hh;first | rfl | (exfalso;omega))).grown HG3.out HP.out.rd
   ·have e41:(t==[41])=false:=by simpa using h41
    go_wp2_with fail
    refine(HI.out wr b rst (t::q0) (dep+1) (max dpst (dep+1+dpk)) (g||gk) HP.out.rd HP.out.tk HP.out.ge hb2 (by omega) (by omega) (by omega) (by omega) HOq.out).mono ?_;rintro e w2 ⟨hg2,hpost⟩
    cases hp:Pl.pd n (t::q0) with
    | none =>rw [hp] at hpost;obtain⟨s,rfl⟩:=hpost;have hpls:Hid (Pl.pls (Pl.pd n) r.length r=none):=HP.out.lf.fail h41 hp;have HG:Hid (w.grownBy w2 (some b)):=aC HP.out.grown hg2;unfold aY;clear hg2 hp;go_wp2_with fail;go_ret2;refine⟨HG.out,?_⟩;rw [hpls.out];exact⟨s,rfl⟩
    | some p =>
     rw [hp] at hpost;obtain⟨v,rst',rfl,hrep,hrd2,htk2⟩:=hpost;have HM:Hid _:=HP.out.call hb2 h41 hp hg2 hrep hrd2 htk2;obtain⟨T,x,rfl,hv1⟩:=hrep.iface;have hq2:=(Pl.pd_tail n _ _ hp).2;have hw2:=HM.out.grown.size;clear hp hg2 hrep hrd2 htk2 HP;go_wp2_with (first | (at_builtin;refine wpList_append_lies _ rfl _ _ 115 rfl w.heap.size 109 i0 .nilIface 1 16 underlying115 hi0 hz0 hz1 hz2 rfl (by decide) u4 ts.length vs rfl (HM.out.row.alloc _) ⟨w2.heap.size,0,none⟩ 1 1 [.iface T x] rfl rfl (cell_one_new _ _ _) (fun y hy=>by simp at hy;subst hy;exact hv1) (by decide) (by unfold maxLen;omega) (by omega) (by simp;omega) (w2.heap.size+1) (by simp) ?_;intro g3 cap3 w3 hown3 hgrow3 hat3 _));have HP3:Hid _:=HM.out.push hb2 hv1 hown3 hgrow3 hat3
     go_roundw
     case rel=>exact⟨_,_,_,_,_,_,HP3⟩
     case measure =>rw [hm0,HP3.out.rd.cells.1];obtain⟨ao,cap,hv,_⟩:=HP3.out.tk;rw [hv];exact hq2
def PQPost(n:Nat)(w:World)(b dep dpst:Nat)(g:Bool)(r:List (List UInt8))(e:Ending)(w':World):Prop :=
 w.grownBy w' (some b) /\
 match Pl.pd n r with
 | none=>∃s,e=.returned (.tuple #[.nilIface,aY s 2])
 | some p=>∃v rest',e=.returned (.tuple #[v,.nilIface])/\RepP (fun k=>w.heap.size<=k) (n+1) w' v (.agg [.lit (.string Pl.quoteW),p.t])/\PRd w' b rest' dep ((max dpst (dep+1+p.dp):Nat):Int) (g||p.gr)/\TkSl w' rest' p.q
theorem rS{ok:Nat->Prop}{t:Tr}(h:RepP ok (n+1) w v t)(hok:∀k,w.heap.size<=k->ok k)(o:Obj)(ho:o=.cells #[.iface 117 (.string ⟨#[113,117,111,116,101]⟩),v] PT (0,0)) :RepP ok (n+2) (w.alloc o) (.iface 115 (.slice (some ⟨w.heap.size,0,none⟩) 2 2)) (.agg [.lit (.string Pl.quoteW),t]):=by
 refine⟨_,[.iface 117 (.string ⟨#[113,117,111,116,101]⟩),v],rfl,?_,⟨rfl,.inr ⟨w.heap.size,2,_,rfl,Nat.zero_le _,by rw [ho];exact heap_alloc_new _ _,by simp,by simp [maxLen],rfl,rfl⟩⟩,?_,by simp⟩
 ·intro r hr;simp only [Value.ownBlock,Option.some.injEq] at hr;exact hok r (by omega)
 ·intro i u x hu hx
  match i,hu,hx with
  | 0,hu,hx =>simp only [List.getElem?_cons_zero,Option.some.injEq] at hu hx;subst hu hx;exact RepP.up 1 _ _ _ (by omega) rfl
  | 1,hu,hx =>simp only [List.getElem?_cons_succ,List.getElem?_cons_zero,Option.some.injEq] at hu hx;subst hu hx;exact h.later ((Below.refl _ _).alloc (Nat.le_refl _) o)
  | (i+2),hu,hx=>simp at hu
theorem uJ{l:List (List UInt8)}{p:Pl.PR}(h:Pl.pd n l=some p):∃m,n=m+1:=by
 cases n with
 | zero=>simp [Pl.pd] at h
 | succ m=>exact⟨m,rfl⟩
theorem qM(n:Nat)(ih:PDSaid n)(w:World)(b:Nat)(rest:Value)(r:List (List UInt8))(dep dpst:Nat)(g:Bool)(h:PRd w b rest dep dpst g)(ht:TkSl w rest r)(hge:GE w)(hb2:6<b)(hn:r.length<=n)(hr:r.length<=1000)(hd:dep+1+r.length<=2000)(hdd:dep<=dpst)(hok:∀t∈r,OkT t) :Calls prog 187 #[.pointer (some ⟨b,0,none⟩)] w fun e w'=>PQPost n w b dep dpst g r e w':=by
 have HI:Hid (PDSaid n):=ih;have HH:Hid (PRd w b rest dep dpst g):=h;have HT:Hid (TkSl w rest r):=ht;have HGe:Hid (GE w):=hge;have HOk:Hid (∀t∈r,OkT t):=hok;clear ih h ht hge hok;go_enter func187,ntmps187;go_wp2_with fail;refine(u7 w b rest dep dpst g HH.out (by omega)).mono ?_;rintro e w1 ⟨rfl,hg1,hrd1⟩;have HG1:Hid (w.grownBy w1 (some b)):=hg1;have HR1:Hid (PRd w1 b _ _ _ _):=hrd1;clear hg1 hrd1;go_wp2_with fail;refine(HI.out w1 b rest r (dep+1) (max dpst (dep+1)) g HR1.out (HT.out.grown HG1.out HH.out) (HGe.out.grown HG1.out hb2) hb2 hn hr (by omega) (by omega) HOk.out).mono ?_;rintro e w2 ⟨hg2,hpost⟩;have HG2:Hid (w.grownBy w2 (some b)):=aC HG1.out hg2
 cases hp:Pl.pd n r with
 | none =>rw [hp] at hpost;obtain⟨s,rfl⟩:=hpost;have HPd:Hid (Pl.pd n r=none):=hp;unfold aY;clear hg2 hp;go_wp2_with fail;go_ret2;refine⟨HG2.out,?_⟩;rw [HPd.out];exact⟨s,rfl⟩
 | some p =>rw [hp] at hpost;obtain⟨v,rst',rfl,hrep,hrd2,htk2⟩:=hpost;have HPd:Hid (Pl.pd n r=some p):=hp;obtain⟨m,rfl⟩:=uJ hp;obtain⟨T,x,rfl,hv1⟩:=hrep.iface;have hs1:=HG1.out.size;have HRp:Hid (RepP (fun k=>w.heap.size<=k) (m+1) w2 (.iface T x) p.t):=RepP.mono (fun k _ hk=>Nat.le_trans hs1 hk) _ _ _ hrep;have HR2:Hid (PRd w2 b _ _ _ _):=hrd2;have HT2:Hid (TkSl w2 rst' p.q):=htk2;clear hp hg2 hrep hrd2 htk2 hv1;go_wp2_with fail;refine(oW _ b _ _ _ _ HR2.out (by omega)).mono ?_;rintro e w3 ⟨rfl,hg3,hrd3⟩;have HG3:Hid (w2.grownBy w3 (some b)):=hg3;have HR3:Hid (PRd w3 b _ _ _ _):=hrd3;have HRp3:Hid (RepP (fun k=>w.heap.size<=k) (m+1) w3 (.iface T x) p.t):=RepP.keep (KeepP.of_grown hg3 HR2.out (by decide)) _ _ _ HRp.out;have hs3:w.heap.size<=w3.heap.size:=Nat.le_trans HG2.out.size hg3.size;clear hg3 hrd3;go_wp2_with fail;go_ret2;refine⟨aC HG2.out (aC HG3.out (World.grownBy_alloc _ _ _)),?_⟩;rw [HPd.out];refine⟨_,_,rfl,rS HRp3.out (fun k hk=>Nat.le_trans hs3 hk) _ rfl,(HR3.out.alloc _).cast (by omega) (by omega) rfl,?_⟩;exact(HT2.out.grown HG3.out HR2.out).below ((Below.refl _ _).alloc (Nat.le_refl _) _)
theorem cY{w':World}{l:List (List UInt8)}{p:Pl.PR}{rest':Value}{d:Int}{g':Bool}(hpd:Pl.pd n l=some p)(hg:w.grownBy w' (some b))(hrep:RepP (fun k=>w.heap.size<=k) n w' v p.t)(hrd:PRd w' b rest' dep d g')(hd:d=((max dpst (dep+p.dp):Nat):Int))(hgr:g'=(g||p.gr))(htk:TkSl w' rest' p.q):PDPost n w b dep dpst g l (.returned (.tuple #[v,.nilIface])) w':=by refine⟨hg,?_⟩;rw [hpd];exact⟨v,rest',rfl,hrep,hrd.cast rfl hd hgr,htk⟩
theorem jH(n:Nat)(w:World)(b:Nat)(rest:Value)(dep dpst:Nat)(g:Bool)(h:PRd w b rest dep dpst g)(ht:TkSl w rest []) :Calls prog 148 #[.pointer (some ⟨b,0,none⟩)] w fun e w'=>PDPost n w b dep dpst g [] e w':=by
 obtain⟨ao,cap,rfl,_⟩:=ht;obtain⟨c0,c1,c2,c3⟩:=h.cells;have hpd:Hid (Pl.pd n []=none):=by cases n<;>rfl
 simp only [List.length_nil] at c0;clear h;go_enter func148,ntmps148;go_wp2_with (go_at_call 78;refine(bJ _ _ _).mono ?_;rintro e w' ⟨rfl,rfl⟩);go_ret2;refine⟨World.grownBy.refl _ _,?_⟩;rw [hpd.out];exact⟨_,rfl⟩
theorem bU{x:Value}{o:Obj}:w.grownBy ((w.setCell ⟨b,0,none⟩ x).alloc o) (some b):=aC (aE _ _ _ _) (World.grownBy_alloc _ _ _)
theorem nJ(n:Nat)(w:World)(b:Nat)(rest:Value)(r:List (List UInt8))(dep dpst:Nat)(g:Bool)(h:PRd w b rest dep dpst g)(ht:TkSl w rest ([35,116]::r))(hdd:dep<=dpst) :Calls prog 148 #[.pointer (some ⟨b,0,none⟩)] w fun e w'=>PDPost (n+1) w b dep dpst g ([35,116]::r) e w':=by
 have hpd:Hid (_=_):=Pl.pd_true n [35,116] r rfl;obtain⟨g0,off,cap,hrst,hcap,hg0,k0,k1,htl⟩:=ht.cons;subst hrst;have HTl:Hid (∀(ao:Option Addr)(c:Nat),r.length<=c->(r.length≠0->ao=some ⟨g0,off+2,none⟩)->TkSl w (.slice ao r.length c) r):=htl;have HH:Hid (PRd w b _ dep dpst g):=h;obtain⟨c0,c1,c2,c3⟩:=h.cells;have f0:=aF h 0;have hbw:b<w.heap.size:=aB h;have hz:((r.length:Int)+1==0)=false:=by simp;omega
 clear htl h ht;rw [show cE [35,116]=3 from rfl] at k0;go_enter func148,ntmps148;go_wp2_with fail
 ·go_ret2;exact cY hpd.out (aC (aE _ _ _ _) (World.grownBy_alloc _ _ _)) (RepP.up 1 _ _ _ (by omega) rfl) ((HH.out.set0 _).alloc _) (by dsimp only;omega) (by simp) (((HTl.out _ _ (by omega) (by intro hh;first | rfl | (exfalso;omega))).grown (aE _ _ _ _) HH.out).below ((Below.refl _ _).alloc (Nat.le_refl _) _))
 ·go_ret2;exact cY hpd.out (aC (aE _ _ _ _) (World.grownBy_alloc _ _ _)) (RepP.up 1 _ _ _ (by omega) rfl) ((HH.out.set0 _).alloc _) (by dsimp only;omega) (by simp) (((HTl.out _ _ (by omega) (by intro hh;first | rfl | (exfalso;omega))).grown (aE _ _ _ _) HH.out).below ((Below.refl _ _).alloc (Nat.le_refl _) _))
theorem lW(n:Nat)(w:World)(b:Nat)(rest:Value)(r:List (List UInt8))(dep dpst:Nat)(g:Bool)(h:PRd w b rest dep dpst g)(ht:TkSl w rest ([35,102]::r))(hdd:dep<=dpst) :Calls prog 148 #[.pointer (some ⟨b,0,none⟩)] w fun e w'=>PDPost (n+1) w b dep dpst g ([35,102]::r) e w':=by
 have hpd:Hid (_=_):=Pl.pd_false n [35,102] r rfl;obtain⟨g0,off,cap,hrst,hcap,hg0,k0,k1,htl⟩:=ht.cons;subst hrst;have HTl:Hid (∀(ao:Option Addr)(c:Nat),r.length<=c->(r.length≠0->ao=some ⟨g0,off+2,none⟩)->TkSl w (.slice ao r.length c) r):=htl;have HH:Hid (PRd w b _ dep dpst g):=h;obtain⟨c0,c1,c2,c3⟩:=h.cells;have f0:=aF h 0;have hbw:b<w.heap.size:=aB h;have hz:((r.length:Int)+1==0)=false:=by simp;omega
 clear htl h ht;rw [show cE [35,102]=3 from rfl] at k0;go_enter func148,ntmps148;go_wp2_with fail
 ·go_ret2;exact cY hpd.out (aC (aE _ _ _ _) (World.grownBy_alloc _ _ _)) (RepP.up 1 _ _ _ (by omega) rfl) ((HH.out.set0 _).alloc _) (by dsimp only;omega) (by simp) (((HTl.out _ _ (by omega) (by intro hh;first | rfl | (exfalso;omega))).grown (aE _ _ _ _) HH.out).below ((Below.refl _ _).alloc (Nat.le_refl _) _))
 ·go_ret2;exact cY hpd.out (aC (aE _ _ _ _) (World.grownBy_alloc _ _ _)) (RepP.up 1 _ _ _ (by omega) rfl) ((HH.out.set0 _).alloc _) (by dsimp only;omega) (by simp) (((HTl.out _ _ (by omega) (by intro hh;first | rfl | (exfalso;omega))).grown (aE _ _ _ _) HH.out).below ((Below.refl _ _).alloc (Nat.le_refl _) _))
theorem lX(n:Nat)(w:World)(b:Nat)(rest:Value)(r:List (List UInt8))(dep dpst:Nat)(g:Bool)(h:PRd w b rest dep dpst g)(ht:TkSl w rest ([41]::r)) :Calls prog 148 #[.pointer (some ⟨b,0,none⟩)] w fun e w'=>PDPost (n+1) w b dep dpst g ([41]::r) e w':=by
 have hpd:Hid (_=_):=Pl.pd_close n [41] r rfl;obtain⟨g0,off,cap,hrst,hcap,hg0,k0,k1,htl⟩:=ht.cons;subst hrst;have HTl:Hid (∀(ao:Option Addr)(c:Nat),r.length<=c->(r.length≠0->ao=some ⟨g0,off+2,none⟩)->TkSl w (.slice ao r.length c) r):=htl;have HH:Hid (PRd w b _ dep dpst g):=h;obtain⟨c0,c1,c2,c3⟩:=h.cells;have f0:=aF h 0;have hbw:b<w.heap.size:=aB h;have hz:((r.length:Int)+1==0)=false:=by simp;omega
 clear htl h ht;rw [show cE [41]=1 from rfl] at k0;go_enter func148,ntmps148;go_wp2_with (go_at_call 78;refine(bJ _ _ _).mono ?_;rintro e w' ⟨rfl,rfl⟩)
 ·go_ret2;refine⟨bU,?_⟩;rw [hpd.out];exact⟨_,rfl⟩
 ·go_ret2;refine⟨bU,?_⟩;rw [hpd.out];exact⟨_,rfl⟩
theorem nK(n:Nat)(ih:PDSaid n)(w:World)(b:Nat)(rest:Value)(r:List (List UInt8))(dep dpst:Nat)(g:Bool)(h:PRd w b rest dep dpst g)(ht:TkSl w rest ([40]::r))(hge:GE w)(hb2:6<b)(hn:([40]::r).length<=n+1)(hr:([40]::r).length<=1000)(hd:dep+([40]::r).length<=2000)(hdd:dep<=dpst)(hok:∀t∈[40]::r,OkT t) :Calls prog 148 #[.pointer (some ⟨b,0,none⟩)] w fun e w'=>PDPost (n+1) w b dep dpst g ([40]::r) e w':=by
 have hpd:=Pl.pd_open n [40] r rfl;obtain⟨g0,off,cap,hrst,hcap,hg0,k0,k1,htl⟩:=ht.cons;subst hrst;have HTl:Hid (∀(ao:Option Addr)(c:Nat),r.length<=c->(r.length≠0->ao=some ⟨g0,off+2,none⟩)->TkSl w (.slice ao r.length c) r):=htl;have HH:Hid (PRd w b _ dep dpst g):=h;obtain⟨c0,c1,c2,c3⟩:=h.cells;have f0:=aF h 0;have hbw:b<w.heap.size:=aB h;have hz:((r.length:Int)+1==0)=false:=by simp;omega
 clear htl h ht;have HGe:Hid (GE w):=hge;have HOk:Hid (∀t∈[40]::r,OkT t):=hok;clear hge hok;rw [show cE [40]=0 from rfl] at k0;go_enter func148,ntmps148;go_wp2_with fail
 ·refine(p_list n ih _ b _ r dep dpst g ((HH.out.set0 _).alloc _) ((((HTl.out _ _ (by omega) (by intro hh;first | rfl | (exfalso;omega))).grown (aE _ _ _ _) HH.out).below ((Below.refl _ _).alloc (Nat.le_refl _) _))) (HGe.out.grown bU hb2) hb2 (by simp at hn;omega) (by simp at hr;omega) (by simp at hd;omega) hdd (fun t ht=>HOk.out t (List.mem_cons_of_mem _ ht))).mono ?_;rintro e w2 ⟨hg2,hpost⟩;have HG2:Hid (w.grownBy w2 (some b)):=aC bU hg2
  cases hp:Pl.pls (Pl.pd n) r.length r with
  | none =>rw [hp] at hpost hpd;obtain⟨s,rfl⟩:=hpost;clear hg2 hp;have hpd2:Hid (_=_):=hpd;clear hpd;unfold aY;go_wp2_with fail;go_ret2;refine⟨HG2.out,?_⟩;rw [hpd2.out];exact⟨s,rfl⟩
  | some p =>rw [hp] at hpost hpd;obtain⟨v,rst',rfl,hrep,hrd2,htk2⟩:=hpost;have HRp:Hid (RepP _ _ _ _ _):=hrep;have HR2:Hid (PRd _ _ _ _ _ _):=hrd2;have HT2:Hid (TkSl _ _ _):=htk2;have hpd2:Hid (_=_):=hpd;clear hg2 hrep hrd2 htk2 hp hpd;go_wp2_with fail;go_ret2;exact cY hpd2.out HG2.out (RepP.mono (fun k _ hk=>by simp at hk;omega) _ _ _ HRp.out) HR2.out (by dsimp only;omega) rfl HT2.out
 ·refine(p_list n ih _ b _ r dep dpst g ((HH.out.set0 _).alloc _) ((((HTl.out _ _ (by omega) (by intro hh;first | rfl | (exfalso;omega))).grown (aE _ _ _ _) HH.out).below ((Below.refl _ _).alloc (Nat.le_refl _) _))) (HGe.out.grown bU hb2) hb2 (by simp at hn;omega) (by simp at hr;omega) (by simp at hd;omega) hdd (fun t ht=>HOk.out t (List.mem_cons_of_mem _ ht))).mono ?_;rintro e w2 ⟨hg2,hpost⟩;have HG2:Hid (w.grownBy w2 (some b)):=aC bU hg2
  cases hp:Pl.pls (Pl.pd n) r.length r with
  | none =>rw [hp] at hpost hpd;obtain⟨s,rfl⟩:=hpost;clear hg2 hp;have hpd2:Hid (_=_):=hpd;clear hpd;unfold aY;go_wp2_with fail;go_ret2;refine⟨HG2.out,?_⟩;rw [hpd2.out];exact⟨s,rfl⟩
  | some p =>rw [hp] at hpost hpd;obtain⟨v,rst',rfl,hrep,hrd2,htk2⟩:=hpost;have HRp:Hid (RepP _ _ _ _ _):=hrep;have HR2:Hid (PRd _ _ _ _ _ _):=hrd2;have HT2:Hid (TkSl _ _ _):=htk2;have hpd2:Hid (_=_):=hpd;clear hg2 hrep hrd2 htk2 hp hpd;go_wp2_with fail;go_ret2;exact cY hpd2.out HG2.out (RepP.mono (fun k _ hk=>by simp at hk;omega) _ _ _ HRp.out) HR2.out (by dsimp only;omega) rfl HT2.out
theorem lV(n:Nat)(ih:PDSaid n)(w:World)(b:Nat)(rest:Value)(r:List (List UInt8))(dep dpst:Nat)(g:Bool)(h:PRd w b rest dep dpst g)(ht:TkSl w rest ([39]::r))(hge:GE w)(hb2:6<b)(hn:([39]::r).length<=n+1)(hr:([39]::r).length<=1000)(hd:dep+([39]::r).length<=2000)(hdd:dep<=dpst)(hok:∀t∈[39]::r,OkT t) :Calls prog 148 #[.pointer (some ⟨b,0,none⟩)] w fun e w'=>PDPost (n+1) w b dep dpst g ([39]::r) e w':=by
 have hpd:=Pl.pd_quote n [39] r rfl;obtain⟨g0,off,cap,hrst,hcap,hg0,k0,k1,htl⟩:=ht.cons;subst hrst;have HTl:Hid (∀(ao:Option Addr)(c:Nat),r.length<=c->(r.length≠0->ao=some ⟨g0,off+2,none⟩)->TkSl w (.slice ao r.length c) r):=htl;have HH:Hid (PRd w b _ dep dpst g):=h;obtain⟨c0,c1,c2,c3⟩:=h.cells;have f0:=aF h 0;have hbw:b<w.heap.size:=aB h;have hz:((r.length:Int)+1==0)=false:=by simp;omega
 clear htl h ht;have HGe:Hid (GE w):=hge;have HOk:Hid (∀t∈[39]::r,OkT t):=hok;clear hge hok;rw [show cE [39]=2 from rfl] at k0;go_enter func148,ntmps148;go_wp2_with fail
 ·refine(qM n ih _ b _ r dep dpst g ((HH.out.set0 _).alloc _) ((((HTl.out _ _ (by omega) (by intro hh;first | rfl | (exfalso;omega))).grown (aE _ _ _ _) HH.out).below ((Below.refl _ _).alloc (Nat.le_refl _) _))) (HGe.out.grown bU hb2) hb2 (by simp at hn;omega) (by simp at hr;omega) (by simp at hd;omega) hdd (fun t ht=>HOk.out t (List.mem_cons_of_mem _ ht))).mono ?_;rintro e w2 ⟨hg2,hpost⟩;have HG2:Hid (w.grownBy w2 (some b)):=aC bU hg2
  cases hp:Pl.pd n r with
  | none =>rw [hp] at hpost hpd;obtain⟨s,rfl⟩:=hpost;clear hg2 hp;have hpd2:Hid (_=_):=hpd;clear hpd;unfold aY;go_wp2_with fail;go_ret2;refine⟨HG2.out,?_⟩;rw [hpd2.out];exact⟨s,rfl⟩
  | some p =>rw [hp] at hpost hpd;obtain⟨v,rst',rfl,hrep,hrd2,htk2⟩:=hpost;have HRp:Hid (RepP _ _ _ _ _):=hrep;have HR2:Hid (PRd _ _ _ _ _ _):=hrd2;have HT2:Hid (TkSl _ _ _):=htk2;have hpd2:Hid (_=_):=hpd;clear hg2 hrep hrd2 htk2 hp hpd;go_wp2_with fail;go_ret2;exact cY hpd2.out HG2.out (RepP.mono (fun k _ hk=>by simp at hk;omega) _ _ _ HRp.out) HR2.out (by dsimp only;omega) rfl HT2.out
 ·refine(qM n ih _ b _ r dep dpst g ((HH.out.set0 _).alloc _) ((((HTl.out _ _ (by omega) (by intro hh;first | rfl | (exfalso;omega))).grown (aE _ _ _ _) HH.out).below ((Below.refl _ _).alloc (Nat.le_refl _) _))) (HGe.out.grown bU hb2) hb2 (by simp at hn;omega) (by simp at hr;omega) (by simp at hd;omega) hdd (fun t ht=>HOk.out t (List.mem_cons_of_mem _ ht))).mono ?_;rintro e w2 ⟨hg2,hpost⟩;have HG2:Hid (w.grownBy w2 (some b)):=aC bU hg2
  cases hp:Pl.pd n r with
  | none =>rw [hp] at hpost hpd;obtain⟨s,rfl⟩:=hpost;clear hg2 hp;have hpd2:Hid (_=_):=hpd;clear hpd;unfold aY;go_wp2_with fail;go_ret2;refine⟨HG2.out,?_⟩;rw [hpd2.out];exact⟨s,rfl⟩
  | some p =>rw [hp] at hpost hpd;obtain⟨v,rst',rfl,hrep,hrd2,htk2⟩:=hpost;have HRp:Hid (RepP _ _ _ _ _):=hrep;have HR2:Hid (PRd _ _ _ _ _ _):=hrd2;have HT2:Hid (TkSl _ _ _):=htk2;have hpd2:Hid (_=_):=hpd;clear hg2 hrep hrd2 htk2 hp hpd;go_wp2_with fail;go_ret2;exact cY hpd2.out HG2.out (RepP.mono (fun k _ hk=>by simp at hk;omega) _ _ _ HRp.out) HR2.out (by dsimp only;omega) rfl HT2.out
theorem sZ(h:¬cE t<4):¬t=[41]/\¬t=[35,116]/\¬t=[35,102]/\¬t=[39]/\¬t=[40]/\cE t=if Pl.isNum t then 4 else 5:=by
 unfold cE at h ⊢;by_cases h1:t=[40]
 ·exact absurd (by simp [h1]) h
 by_cases h2:t=[41]
 ·exact absurd (by simp [h2]) h
 by_cases h3:t=[39]
 ·exact absurd (by simp [h3]) h
 by_cases h4:t=[35,116]
 ·exact absurd (by simp [h4]) h
 by_cases h5:t=[35,102]
 ·exact absurd (by simp [h5]) h
 rw [if_neg h1,if_neg h2,if_neg h3,if_neg (by simp [h4,h5])];exact⟨h2,h4,h5,h3,h1,rfl⟩
theorem z8(h:cE t<4):t=[41]\/t=[35,116]\/t=[35,102]\/t=[39]\/t=[40]:=by
 unfold cE at h;by_cases h1:t=[40]
 ·exact .inr (.inr (.inr (.inr h1)))
 by_cases h2:t=[41]
 ·exact .inl h2
 by_cases h3:t=[39]
 ·exact .inr (.inr (.inr (.inl h3)))
 by_cases h4:t=[35,116]
 ·exact .inr (.inl h4)
 by_cases h5:t=[35,102]
 ·exact .inr (.inr (.inl h5))
 rw [if_neg h1,if_neg h2,if_neg h3,if_neg (by simp [h4,h5])] at h;split at h<;>omega
theorem nL(n:Nat)(w:World)(b:Nat)(rest:Value)(t:List UInt8)(r:List (List UInt8))(dep dpst:Nat)(g:Bool)(h:PRd w b rest dep dpst g)(ht:TkSl w rest (t::r))(hdd:dep<=dpst)(hk:cE t=5)(hp0:Pl.pd (n+1) (t::r)=some ⟨.lit (.string t),r,0,false⟩) :Calls prog 148 #[.pointer (some ⟨b,0,none⟩)] w fun e w'=>PDPost (n+1) w b dep dpst g (t::r) e w':=by
 have hpd:Hid (_=_):=hp0;clear hp0;obtain⟨g0,off,cap,hrst,hcap,hg0,k0,k1,htl⟩:=ht.cons;subst hrst;have HTl:Hid (∀(ao:Option Addr)(c:Nat),r.length<=c->(r.length≠0->ao=some ⟨g0,off+2,none⟩)->TkSl w (.slice ao r.length c) r):=htl;have HH:Hid (PRd w b _ dep dpst g):=h;obtain⟨c0,c1,c2,c3⟩:=h.cells;have f0:=aF h 0;have hbw:b<w.heap.size:=aB h;have hz:((r.length:Int)+1==0)=false:=by simp;omega
 clear htl h ht;rw [hk] at k0;clear hk;go_enter func148,ntmps148;go_wp2_with fail
 ·go_ret2;exact cY hpd.out (aC (aE _ _ _ _) (World.grownBy_alloc _ _ _)) (RepP.up 1 _ _ _ (by omega) rfl) ((HH.out.set0 _).alloc _) (by dsimp only;omega) (by simp) (((HTl.out _ _ (by omega) (by intro hh;first | rfl | (exfalso;omega))).grown (aE _ _ _ _) HH.out).below ((Below.refl _ _).alloc (Nat.le_refl _) _))
 ·go_ret2;exact cY hpd.out (aC (aE _ _ _ _) (World.grownBy_alloc _ _ _)) (RepP.up 1 _ _ _ (by omega) rfl) ((HH.out.set0 _).alloc _) (by dsimp only;omega) (by simp) (((HTl.out _ _ (by omega) (by intro hh;first | rfl | (exfalso;omega))).grown (aE _ _ _ _) HH.out).below ((Below.refl _ _).alloc (Nat.le_refl _) _))
theorem o0(n:Nat)(w:World)(b:Nat)(rest:Value)(t:List UInt8)(r:List (List UInt8))(dep dpst:Nat)(g:Bool)(h:PRd w b rest dep dpst g)(ht:TkSl w rest (t::r))(hge:GE w)(hb2:6<b)(hdd:dep<=dpst)(hk:cE t=4)(hn:Pl.isNum t=true)(hl0:0<t.length)(hl1:t.length<=1000)(hp0:Pl.pd (n+1) (t::r)=some ⟨.lit (.int .i64 (Pl.sval t)),r,0,Pl.great t⟩) :Calls prog 148 #[.pointer (some ⟨b,0,none⟩)] w fun e w'=>PDPost (n+1) w b dep dpst g (t::r) e w':=by
 have hpd:Hid (_=_):=hp0;have HN:Hid (_=_):=hn;have HGe:Hid (GE w):=hge;clear hp0 hn hge;obtain⟨g0,off,cap,hrst,hcap,hg0,k0,k1,htl⟩:=ht.cons;subst hrst;have HTl:Hid (∀(ao:Option Addr)(c:Nat),r.length<=c->(r.length≠0->ao=some ⟨g0,off+2,none⟩)->TkSl w (.slice ao r.length c) r):=htl;have HH:Hid (PRd w b _ dep dpst g):=h;obtain⟨c0,c1,c2,c3⟩:=h.cells;have f0:=aF h 0;have hbw:b<w.heap.size:=aB h;have hz:((r.length:Int)+1==0)=false:=by simp;omega
 clear htl h ht;rw [hk] at k0;clear hk;go_enter func148,ntmps148;go_wp2_with fail
 ·refine(qO _ b _ dep dpst g _ ((HH.out.set0 _).alloc _) (HGe.out.grown bU hb2) (by simpa [ByteArray.size] using hl1) (by simpa [ByteArray.size] using hl0) (by simpa using HN.out)).mono ?_;rintro e w2 ⟨k,rfl,hk2,hg2,hrd2⟩;have HK:Hid (_->_):=hk2;have HG:Hid (World.grownBy _ w2 (some b)):=hg2;have HR:Hid (PRd w2 b _ _ _ _):=hrd2;clear hk2 hg2 hrd2;go_wp2_with fail;go_ret2;refine cY hpd.out (aC bU HG.out) ⟨_,rfl,HK.out⟩ HR.out (by dsimp only;omega) (by simp) ?_;exact((((HTl.out _ _ (by omega) (by intro hh;first | rfl | (exfalso;omega))).grown (aE _ _ _ _) HH.out).below ((Below.refl _ _).alloc (Nat.le_refl _) _))).grown HG.out ((HH.out.set0 _).alloc _)
 ·refine(qO _ b _ dep dpst g _ ((HH.out.set0 _).alloc _) (HGe.out.grown bU hb2) (by simpa [ByteArray.size] using hl1) (by simpa [ByteArray.size] using hl0) (by simpa using HN.out)).mono ?_;rintro e w2 ⟨k,rfl,hk2,hg2,hrd2⟩;have HK:Hid (_->_):=hk2;have HG:Hid (World.grownBy _ w2 (some b)):=hg2;have HR:Hid (PRd w2 b _ _ _ _):=hrd2;clear hk2 hg2 hrd2;go_wp2_with fail;go_ret2;refine cY hpd.out (aC bU HG.out) ⟨_,rfl,HK.out⟩ HR.out (by dsimp only;omega) (by simp) ?_;exact((((HTl.out _ _ (by omega) (by intro hh;first | rfl | (exfalso;omega))).grown (aE _ _ _ _) HH.out).below ((Below.refl _ _).alloc (Nat.le_refl _) _))).grown HG.out ((HH.out.set0 _).alloc _)
theorem vB:∀n,PDSaid n
 | 0=>by intro w b rest l dep dpst g h ht hge hb2 hn hr hd hdd hok;obtain rfl:=List.eq_nil_of_length_eq_zero (Nat.le_zero.1 hn);exact jH 0 w b rest dep dpst g h ht
 | n+1=>by
  intro w b rest l dep dpst g h ht hge hb2 hn hr hd hdd hok;have ih:=vB n
  cases l with
  | nil=>exact jH _ w b rest dep dpst g h ht
  | cons t r =>
   by_cases hlow:cE t<4
   ·rcases z8 hlow with h1 | h1 | h1 | h1 | h1<;>subst h1
    ·exact lX n w b rest r dep dpst g h ht
    ·exact nJ n w b rest r dep dpst g h ht hdd
    ·exact lW n w b rest r dep dpst g h ht hdd
    ·exact lV n ih w b rest r dep dpst g h ht hge hb2 hn hr hd hdd hok
    ·exact nK n ih w b rest r dep dpst g h ht hge hb2 hn hr hd hdd hok
   ·obtain⟨h1,h2,h3,h4,h5,hk⟩:=sZ hlow;have hpd:=Pl.pd_word n t r h1 h2 h3 h4 h5;obtain⟨hc,hl0,hl1⟩:=hok t (List.mem_cons_self ..);unfold Pl.pw at hpd;by_cases hN:Pl.isNum t=true
    ·rw [if_pos hN] at hk hpd;exact o0 n w b rest t r dep dpst g h ht hge hb2 hdd hk hN hl0 hl1 hpd
    ·have hD:Pl.noDig t=true:=by
      rcases hc with hc | hc | hc
      ·exact absurd hc hlow
      ·exact absurd hc hN
      ·exact hc
     rw [if_neg hN] at hk hpd;rw [if_pos hD] at hpd;exact nL n w b rest t r dep dpst g h ht hdd hk hpd
def PWPost(n:Nat)(w:World)(b dpst:Nat)(g:Bool)(l:List (List UInt8))(e:Ending)(w':World):Prop :=
 w.grownBy w' (some b) /\
 ((∃s,e=.returned (.tuple #[.nilIface,aY s 2])/\∀p,Pl.pd n l=some p->p.q≠[]) \/
  ∃p v rest',Pl.pd n l=some p/\p.q=[]/\e=.returned (.tuple #[v,.nilIface])/\RepP (fun k=>w.heap.size<=k) n w' v p.t/\PRd w' b rest' 0 ((max dpst p.dp:Nat):Int) (g||p.gr))
theorem p_whole(n:Nat)(w:World)(b:Nat)(rest:Value)(l:List (List UInt8))(g:Bool)(h:PRd w b rest 0 0 g)(ht:TkSl w rest l)(hge:GE w)(hb2:6<b)(hn:l.length<=n)(hr:l.length<=1000)(hok:∀t∈l,OkT t) :Calls prog 109 #[.pointer (some ⟨b,0,none⟩)] w fun e w'=>PWPost n w b 0 g l e w':=by
 have HH:Hid (PRd w b rest 0 0 g):=h;have HT:Hid (TkSl w rest l):=ht;have HGe:Hid (GE w):=hge;have HOk:Hid (∀t∈l,OkT t):=hok;clear h ht hge hok;go_enter func109,ntmps109;go_wp2_with fail;refine(vB n w b rest l 0 0 g HH.out HT.out HGe.out hb2 hn hr (by omega) (by omega) HOk.out).mono ?_;rintro e w2 ⟨hg2,hpost⟩;have HG2:Hid (w.grownBy w2 (some b)):=hg2;clear hg2
 cases hp:Pl.pd n l with
 | none =>rw [hp] at hpost;obtain⟨s,rfl⟩:=hpost;unfold aY;have HP:Hid (_=_):=hp;clear hp;go_wp2_with fail;go_ret2;exact⟨HG2.out,.inl ⟨_,rfl,fun p hq=>by rw [HP.out] at hq;simp at hq⟩⟩
 | some p =>
  rw [hp] at hpost;obtain⟨v,rst',rfl,hrep,hrd2,htk2⟩:=hpost;obtain⟨T,x,rfl,hv1⟩:=hrep.iface;have HP:Hid (_=_):=hp;have HRp:Hid (RepP _ _ _ _ _):=hrep;have HR2:Hid (PRd _ _ _ _ _ _):=hrd2;obtain⟨c0,c1,c2,c3⟩:=hrd2.cells;obtain⟨ao,cap,rfl,_⟩:=htk2;clear hrep hrd2 hp hv1;by_cases hq:p.q=[]
  ·have hlen:(p.q.length:Int)=0:=by simp [hq]
   have hgt:((0:Int)<(p.q.length:Int))=False:=by simp [hq]
   have HQ:Hid (_=_):=hq;clear hq;go_wp2_with fail;go_ret2;exact⟨HG2.out,.inr ⟨p,_,_,HP.out,HQ.out,rfl,HRp.out,HR2.out.cast (by simp) (by simp) rfl⟩⟩
  ·have hgt:(0:Int)<(p.q.length:Int):=by have:=List.length_pos_iff.2 hq;omega
   have HQ:Hid _:=hq;clear hq;go_wp2_with (go_at_call 78;refine(bJ _ _ _).mono ?_;rintro e w' ⟨rfl,rfl⟩);go_ret2;exact⟨HG2.out,.inl ⟨_,rfl,fun p' hq=>by rw [HP.out] at hq;obtain rfl:=Option.some.inj hq;exact HQ.out⟩⟩
end
end Go.Proofs.YtkgbdddkcjpgfaaGreatDoor
