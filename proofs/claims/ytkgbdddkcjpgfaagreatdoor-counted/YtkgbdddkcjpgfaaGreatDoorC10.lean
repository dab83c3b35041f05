import Derived.Test.YtkgbdddkcjpgfaaGreatDoorC09
import Derived.BigQuiet
import Derived.Deep.RegionWith
import Derived.Deep.DeepCutAuto
import Derived.LaidEql
import Derived.Test.YtkgbdddkcjpgfaaGreatDoorC03
namespace Go.Proofs.YtkgbdddkcjpgfaaGreatDoor
set_option maxHeartbeats 2000000
set_option maxRecDepth 100000
open Go.Proofs.Tryz
open Pl (PV PF FR formOf tsz mkF fmF)
section
open Go.RowKit
variable {w:World} {M:Nat->Prop} {v:Value} {tb mb:Nat} {us:List Value}
theorem Tryz.infoFm:(prog.info? 61).map (fun i=>(i.zero,i.size,i.bytes))=some (some .nilIface,1,16):=by kernel_rfl
def FmsPost(M:Nat->Prop)(w:World)(s:Sg)(tb mb:Nat)(ps:List (PV×PV))(o:Option (List PF×List (PV×PV)))(len z:Nat)(e:Ending)(w':World):Prop :=
 w.grownBy w' (some mb)/\∃t,SgR s t/\t.ns.length<=s.ns.length+z /\
  ((∃r v us,o=some r/\e=.returned (.tuple #[v,.nilIface])/\Rdr M w' t tb mb (ps++r.2)/\Sl M w' TForm 1 v len us/\us.length=len/\All2 (RFm M w' t) us r.1) \/
   (o=none/\t.pb=s.pb/\Rdr M w' t tb mb ps/\∃v es,e=.returned (.tuple #[v,aY es 5])))
def Mr(M:Nat->Prop)(v:Value)(k:Nat):Prop:=M k\/v.ownBlock=some k
structure FsInv(M:Nat->Prop)(w wr:World)(s t:Sg)(tb mb:Nat)(ps:List (PV×PV))(Fs:List (Nat->FR))(zs:List Nat)(k:Nat)(rv:Value)(us:List Value)(fs:List PF)(new:List (PV×PV)):Prop where
 row:wr.ownsRow w.heap.size TForm 1 rv k us
 ul:us.length=k
 fl:fs.length=k
 rd:Rdr (Mr M rv) wr t tb mb (ps++new)
 stp:Stp M w (Mr M rv) wr
 gm:w.grownBy wr (some mb)
 sg:SgR s t
 nl:t.ns.length<=s.ns.length+(zs.take k).sum
 rep:∀(i:Nat)(u:Value)(x:PF),us[i]?=some u->fs[i]?=some x->RFm (Mr M rv) wr t u x
 left:Pl.Left Fs ps.length k fs new
theorem FsInv.start{w1:World}{s:Sg}{ps:List (PV×PV)}(Fs:List (Nat->FR))(zs:List Nat)(h:Rdr M w s tb mb ps)(hb:Below w.heap.size w w1):FsInv M w w1 s s tb mb ps Fs zs 0 (.slice none 0 0) [] [] []:=by
 have hm:∀k,Mr M (.slice none 0 0) k↔M k:=fun k=>by simp [Mr,Value.ownBlock]
 have hr:=h.below hb;have hs:Stp M w (Mr M (.slice none 0 0)) w1:=⟨hb.os,hb.tape,hb.output,hb.size,fun k hk hn=>⟨hb.block k hk,fun x=>hn ((hm k).1 x)⟩⟩
 refine⟨World.ownsRow_nil _ _ _ _,rfl,rfl,⟨hr.tab,?_,(hm _).2 hr.mmb,fun x=>hr.mtb ((hm _).1 x),fun k hk=>hr.mlt k ((hm k).1 hk)⟩,hs,aI hb,SgR.refl s,by simp,fun i u x hu=>by simp at hu,Pl.Left.start _ _⟩;rw [List.append_nil];exact hr.pairs.weaken (fun k hk=>(hm k).1 hk)
theorem FsInv.push{wr w2 w3:World}{s t t2:Sg}{ps:List (PV×PV)}{Fs:List (Nat->FR)}{zs:List Nat}{k z:Nat}{rv u:Value}{fs:List PF}{new:List (PV×PV)}{F:Nat->FR}{p:PF×List (PV×PV)}{g' cap':Nat}{o:Obj}
  (h:FsInv M w wr s t tb mb ps Fs zs k rv us fs new) (hM:∀k,M k->k<w.heap.size) (hF:Fs[k]?=some F) (hp:F (ps++new).length=some p) (hz:zs[k]?=some z)
  (hg2:wr.grownBy w2 (some mb)) (hsg:SgR t t2) (hnl:t2.ns.length<=t.ns.length+z) (hrd:Rdr (Mr M rv) w2 t2 tb mb ((ps++new)++p.2)) (hrep:RFm (Mr M rv) w2 t2 u p.1)
  (hown:w3.ownsRow w.heap.size TForm 1 (.slice (some ⟨g',0,none⟩) (k+1) cap') (k+1) (us++[u])) (hg:(w2.alloc o).grownBy w3 rv.ownBlock) (hat:rv.ownBlock=some g'\/g'=w2.heap.size+1) :
  FsInv M w w3 s t2 tb mb ps Fs zs (k+1) (.slice (some ⟨g',0,none⟩) (k+1) cap') (us++[u]) (fs++[p.1]) (new++p.2):=by
 have hge:∀j,rv.ownBlock=some j->w.heap.size<=j:=fun j hj=>(h.row.lt j hj).1;have hs2:Stp (Mr M rv) wr (Mr M rv) w2:=eL hg2 h.rd.mmb;have hw2:w.heap.size<=w2.heap.size:=Nat.le_trans h.stp.size hs2.size
 have hg'ge:w.heap.size<=g':=by
  rcases hat with h1 | h1
  ·exact hge _ h1
  ·omega
 have st1:Stp (Mr M rv) w2 (Mr M (.slice (some ⟨g',0,none⟩) (k+1) cap')) w3:=by
  have hb:Below w2.heap.size w2 (w2.alloc o):=(Below.refl _ _).alloc (Nat.le_refl _) _;refine⟨hg.os.trans hb.os,hg.tape.trans hb.tape,hg.output.trans hb.output,Nat.le_trans hb.size hg.size,fun j hj hn=>⟨?_,?_⟩⟩
  ·rw [hg.block j (Nat.lt_of_lt_of_le hj hb.size) (fun e=>hn (.inr e.symm)),hb.block j hj]
  ·rintro(x | x)
   ·exact hn (.inl x)
   ·simp only [Value.ownBlock,Option.some.injEq] at x;subst x;rcases hat with h1 | h1
    ·exact hn (.inr h1)
    ·omega
 have hmb:∀j,some j=rv.ownBlock->j≠mb:=fun j hj e=>by
  have:=hM mb (h.rd.mmb.elim id (fun x=>by
   subst e
   exact absurd x (by
    intro x;have h1:=hge _ x;obtain⟨D,⟨es,cl,hb,_⟩,_⟩:=h.rd.tab.map;rcases h.row.2 with⟨hv,_⟩ | ⟨g,cap,cur,hv,_,hgc,_⟩
    ·rw [hv] at x;simp [Value.ownBlock] at x
    ·rw [hv] at x;simp only [Value.ownBlock,Option.some.injEq] at x;subst x;rw [hgc] at hb;simp at hb)))
  have:=hge j hj.symm;omega
 have hlt2:=hrd.tab.lt;have hb:Below w2.heap.size w2 (w2.alloc o):=(Below.refl _ _).alloc (Nat.le_refl _) _;refine⟨hown,by simp [h.ul],by simp [h.fl],⟨?_,?_,?_,?_,?_⟩,(h.stp.trans hs2).trans st1,?_,h.sg.trans hsg,?_,?_,?_⟩
 ·refine hrd.tab.keep (st1.block tb hlt2.1 hrd.mtb).1 ?_;rw [hg.block mb (Nat.lt_of_lt_of_le hlt2.2 hb.size) (fun e=>hmb mb e rfl),hb.block mb hlt2.2]
 ·rw [<- List.append_assoc];exact hrd.pairs.stp st1
 ·exact .inl (h.rd.mmb.elim id (fun x=>absurd rfl (hmb mb x.symm)))
 ·exact(st1.block tb hlt2.1 hrd.mtb).2
 ·rintro j (x | x)
  ·exact Nat.lt_of_lt_of_le (hM j x) (Nat.le_trans hw2 st1.size)
  ·exact(hown.lt j x).2
 ·have g1:=aM h.gm hg2;refine⟨hg.os.trans (hb.os.trans g1.os),hg.tape.trans (hb.tape.trans g1.tape),hg.output.trans (hb.output.trans g1.output),Nat.le_trans g1.size (Nat.le_trans hb.size hg.size),fun j hj hn=>?_⟩;have hj2:=Nat.lt_of_lt_of_le hj g1.size;rw [hg.block j (Nat.lt_of_lt_of_le hj2 hb.size) (fun e=>by have:=hge j e.symm;omega),hb.block j hj2,g1.block j hj hn]
 ·rw [Pl.sum_take zs k z hz];have:=h.nl;omega
 ·intro i u' x hu hx;rcases p5 hu with hu | ⟨hi,rfl⟩
  ·rw [List.getElem?_append_left (by have:=(List.getElem?_eq_some_iff.1 hu).1;have:=h.ul;have:=h.fl;omega)] at hx;exact(h.rep i u' x hu hx).go (hs2.trans st1) hsg.le
  ·rw [hi,h.ul,<-h.fl] at hx;simp at hx;subst hx;exact hrep.go st1 (Sg.Le.refl _)
 ·have:=h.left.more hF (by rw [<- List.length_append];exact hp);exact this
theorem FsInv.done{wr:World}{s t:Sg}{ps:List (PV×PV)}{Fs:List (Nat->FR)}{zs:List Nat}{k:Nat}{rv:Value}{fs:List PF}{new:List (PV×PV)}
  (h:FsInv M w wr s t tb mb ps Fs zs k rv us fs new) (h0:Rdr M w s tb mb ps) (hk:k=Fs.length):w.grownBy wr (some mb)/\Rdr M wr t tb mb (ps++new)/\Sl M wr TForm 1 rv k us/\All2 (RFm M wr t) us fs/\Pl.seqL Fs ps.length=some (fs,new):=by
 subst hk;refine⟨h.gm,⟨h.rd.tab,h.rd.pairs.weaken (fun _ x=>.inl x),h0.mmb,h0.mtb,fun j hj=>h.rd.mlt j (.inl hj)⟩,?_,⟨by rw [h.ul,h.fl],fun i u x hu hx=>(h.rep i u x hu hx).weaken (fun _ y=>.inl y)⟩,h.left.done⟩;refine⟨h.row.1,?_⟩;rcases h.row.2 with⟨hv,h0'⟩ | ⟨g,cap,cur,hv,hge,hg,hc,_,_,ht⟩
 ·exact⟨none,0,by rw [h0'];exact hv,by omega,.inl h0'⟩
 ·refine⟨some ⟨g,0,none⟩,cap,hv,hc,.inr ⟨g,0,cur,rfl,fun x=>by have:=h0.mlt g x;omega,hg,?_⟩⟩;intro i u hu;rw [Nat.zero_add];rw [<- ht,List.getElem?_take] at hu;split at hu
  ·simpa using hu
  ·cases hu
theorem u3(M:Nat->Prop)(w:World)(s:Sg)(tb mb:Nat)(ps:List (PV×PV))(sl:Value)(vs:List Value)(Fs:List (Nat->FR))(zs:List Nat)(hR:Rdr M w s tb mb ps)(hS:DRow M w sl vs)(hl:vs.length=Fs.length)(hzl:zs.length=Fs.length)(hlen:Fs.length<=2000)(hz:s.ns.length+zs.sum<=NsMax)(hv1:∀v∈vs,∃T x,v=.iface T x)
  (hF:∀(i:Nat)(v:Value)(F:Nat->FR)(z:Nat),vs[i]?=some v->Fs[i]?=some F->zs[i]?=some z->FCall M w v F z) :
  Calls prog 189 #[rdV tb,sl] w fun e w'=>FmsPost M w s tb mb ps (Pl.seqL Fs ps.length) Fs.length zs.sum e w':=by
 obtain⟨i0,hi0,hz0,hz1,hz2⟩:=info_parts Tryz.infoFm;have HR:Hid (Rdr M w s tb mb ps):=hR;have HS:Hid (DRow M w sl vs):=hS;obtain⟨_,ao,cap,rfl,hcap,_⟩:=hS;rw [hl] at hcap ⊢;have HV:Hid (vs.length=Fs.length):=hl;have HZ:Hid (zs.length=Fs.length):=hzl;have HN:Hid (s.ns.length+zs.sum<=NsMax):=hz;have HFm:Hid (∀(i:Nat)(v:Value)(F:Nat->FR)(z:Nat),vs[i]?=some v->Fs[i]?=some F->zs[i]?=some z->FCall M w v F z):=hF;have HI:Hid (∀v∈vs,∃T x,v=.iface T x):=hv1;have HB1:Hid (Below w.heap.size w (w.alloc (rdO tb))):=(Below.refl _ _).alloc (Nat.le_refl _) _;have HR1:Hid (Rdr M (w.alloc (rdO tb)) s tb mb ps):=hR.below HB1.out;have hw1:(w.alloc (rdO tb)).heap[w.heap.size]?=some (rdO tb):=heap_alloc_new _ _;have HW1:Hid _:=hw1;have hnm:¬M w.heap.size:=fun hm=>by have:=hR.mlt _ hm;omega
 have HNM:Hid (¬M w.heap.size):=hnm;unfold rdV;clear hF hl hzl hz hv1 hR hw1 hnm;go_enter func189,ntmps189;go_wp2_with fail
 go_loopw [6,13] (fun sv i wr=>∃(k:Nat)(us:List Value)(t:Sg)(fs:List PF) (new:List (PV×PV)),k<=Fs.length/\i=.int .i64 k/\Hid (FsInv M (w.alloc (rdO tb)) wr s t tb mb ps Fs zs k sv us fs new)) (fun _ i _=>Fs.length-(intOf i).toNat)
 case atStart=>exact⟨0,[],s,[],[],Nat.zero_le _,rfl,FsInv.start Fs zs HR1.out (Below.refl _ _)⟩
 case round =>
  obtain⟨k,us,t,fs,new,hk,rfl,HQ⟩:=hrel;by_cases hlt:k<Fs.length
  ·obtain⟨u,hu⟩:∃u,vs[k]?=some u:=⟨vs[k]'(by have:=HV.out;omega),List.getElem?_eq_getElem (by have:=HV.out;omega)⟩
   obtain⟨F,hF⟩:∃x,Fs[k]?=some x:=⟨Fs[k],List.getElem?_eq_getElem hlt⟩
   obtain⟨z,hzk⟩:∃x,zs[k]?=some x:=⟨zs[k]'(by have:=HZ.out;omega),List.getElem?_eq_getElem (by have:=HZ.out;omega)⟩
   have hst:Stp M w (Mr M u6) wr:=(Stp.of_below HB1.out).trans HQ.out.stp;have hS2:=(Sl.stp hst HS.out).slOf;obtain⟨ao',cap',e',_,hcc⟩:=hS2;simp only [Value.slice.injEq] at e';obtain⟨rfl,_,rfl⟩:=e';obtain⟨g,off,rfl,hg,hc⟩:=hcc k u hu;have c0:wr.cell? ⟨w.heap.size,0,none⟩=some (.pointer (some ⟨tb,0,none⟩)):=by have:=(HQ.out.stp.block w.heap.size (by simp) HNM.out).1.trans HW1.out;exact aA this 0
   have HC:Hid (FCall (Mr M u6) wr u F z):=(HFm.out k u F z hu hF hzk).go hst;obtain⟨T,y,rfl⟩:=HI.out u (List.mem_of_getElem? hu);have HFk:Hid (Fs[k]?=some F):=hF;have HZk:Hid (zs[k]?=some z):=hzk;have HNl:Hid (t.ns.length+z<=NsMax):=show _<=_ from by have h1:=HQ.out.nl;have h2:=Pl.sum_take zs k z hzk;have h3:=Pl.take_sum_le zs (k+1);have h4:=HN.out;omega
   have hlt2:(k:Int)<(Fs.length:Int):=by omega
   clear hcc hst hu hF hzk hlt;go_wp2_with fail;refine(HC.out _ wr t tb mb _ (Stp.refl _ _) HQ.out.rd HNl.out).mono ?_;rintro e w2 ⟨hg2,t2,hsg,hnl,⟨r,v,hr,rfl,hrd,hrep⟩ | ⟨hr,hpb,hrd,v,es,rfl⟩⟩
   ·have HP:Hid (∀(w3:World)(g' cap':Nat)(o:Obj),w3.ownsRow (w.alloc (rdO tb)).heap.size TForm 1 (.slice (some ⟨g',0,none⟩) (k+1) cap') (k+1) (us++[v])->(w2.alloc o).grownBy w3 u6.ownBlock->(u6.ownBlock=some g'\/g'=w2.heap.size+1) ->
      FsInv M (w.alloc (rdO tb)) w3 s t2 tb mb ps Fs zs (k+1) (.slice (some ⟨g',0,none⟩) (k+1) cap') (us++[v]) (fs++[r.1]) (new++r.2)):=fun w3 g' cap' o h1 h2 h3=>HQ.out.push HR1.out.mlt HFk.out hr HZk.out hg2 hsg hnl hrd hrep h1 h2 h3
    have HO2:Hid (w2.ownsRow (w.heap.size+1) TForm 1 u6 k us):=show World.ownsRow _ _ _ _ _ _ _ from by
     have:=HQ.out.row.kept hg2 (.inr (fun e=>by
      have:=(HQ.out.row.lt mb e).1;have:=HR1.out.mlt mb HR1.out.mmb
      omega))
     rwa [show(w.alloc (rdO tb)).heap.size=w.heap.size+1 from by simp] at this
    have hw2:w.heap.size+1<=w2.heap.size:=by have h1:=HQ.out.gm.size;have h2:=hg2.size;rw [show(w.alloc (rdO tb)).heap.size=w.heap.size+1 from by simp] at h1;omega
    rw [show(w.alloc (rdO tb)).heap.size=w.heap.size+1 from by simp] at HP;obtain⟨Tf,xf,rfl⟩:=hrep.iface;clear hg2 hsg hnl hr hrd hrep c0 hc;go_wp2_with (first | (at_builtin;refine wpList_append_lies _ rfl _ _ 345 rfl (w.heap.size+1) 61 i0 .nilIface 1 16 underlying345 hi0 hz0 hz1 hz2 rfl (by decide) u6 k us rfl (HO2.out.alloc _) ⟨w2.heap.size,0,none⟩ 1 1 [.iface Tf xf] rfl rfl (cell_one_new _ _ _) (fun x hx=>by simp at hx;subst hx;rfl) (by decide) (by unfold maxLen;omega) (by omega) (by simp;omega) (w2.heap.size+1) (by simp) ?_;intro g' cap' w3 hown' hgrow3 hat3 _))
    go_roundw
    case rel=>exact⟨k+1,_,_,_,_,by omega,by go_num,HP.out w3 g' cap' _ hown' hgrow3 hat3⟩
    case measure=>simp [intOf];omega
   ·have HE:Hid (Pl.seqL Fs ps.length=none):=HQ.out.left.none_ HFk.out (by rw [<- List.length_append];exact hr);have hgw:w.grownBy w2 (some mb):=aM (aI HB1.out) (aM HQ.out.gm hg2);obtain⟨t3,p1,p2,p3,p4⟩:=HR.out.fail hgw ⟨hrd.tab,hrd.pairs.weaken (fun _ x=>.inl x),HR.out.mmb,HR.out.mtb,fun j hj=>hrd.mlt j (.inl hj)⟩ (HQ.out.sg.trans hsg);have HT:Hid (t3.ns.length<=s.ns.length+zs.sum):=show _<=_ from by rw [p2];have h1:=HQ.out.nl;have h2:=Pl.sum_take zs k z HZk.out;have h3:=Pl.take_sum_le zs (k+1);omega
    have HP:Hid (t3.pb=s.pb/\SgR s t3/\Rdr M w2 t3 tb mb ps):=⟨p1,p3,p4⟩
    have HG:Hid (w.grownBy w2 (some mb)):=hgw;clear hg2 hsg hnl hr hrd hpb p1 p2 p3 p4 hgw c0 hc;unfold aY;go_wp2_with fail;go_ret2;exact⟨HG.out,t3,HP.out.2.1,HT.out,.inr ⟨HE.out,HP.out.1,HP.out.2.2,_,_,rfl⟩⟩
  ·have hk2:k=Fs.length:=by omega
   obtain⟨d1,d2,d3,d4,d5⟩:=HQ.out.done HR1.out hk2;have HD:Hid (w.grownBy wr (some mb)/\Rdr M wr t tb mb (ps++new)/\All2 (RFm M wr t) us fs/\Pl.seqL Fs ps.length=some (fs,new)):=⟨aM (aI HB1.out) d1,d2,d4,d5⟩
   have HX:Hid (SgR s t/\t.ns.length<=s.ns.length+zs.sum):=⟨HQ.out.sg,by
    have h1:=HQ.out.nl;have h3:=Pl.take_sum_le zs k
    omega⟩
   have HSl:Hid (Sl M wr TForm 1 u6 Fs.length us):=show Sl _ _ _ _ _ _ _ from by rw [<- hk2];exact d3
   have HUl:Hid (us.length=Fs.length):=show us.length=Fs.length from by rw [<- hk2];exact HQ.out.ul
   obtain⟨_,ao2,cap2,rfl,_⟩:=HSl.out;clear d1 d2 d3 d4 d5 hk2;go_wp2_with fail;go_ret2;exact⟨HD.out.1,t,HX.out.1,HX.out.2,.inl ⟨_,_,us,HD.out.2.2.2,rfl,HD.out.2.1,HSl.out,HUl.out,HD.out.2.2.1⟩⟩
theorem bB(w:World)(o:Obj):Below w.heap.size w (w.alloc o):=(Below.refl _ _).alloc (Nat.le_refl _) _
theorem mF{ok:Nat->Prop}:∀(n m:Nat)(v:Value)(t:Tr),RepP ok n w v t->cL n t->cL m t
 | 0,_,_,_,h,_=>h.elim
 | _+1,0,_,_,_,_=>trivial
 | n+1,m+1,v,t,h,hb=>by
  match t,h,hb with
  | .lit (.int _ _),_,hb=>exact hb
  | .lit (.bool _),_,_=>trivial
  | .lit (.string _),_,hb=>exact hb
  | .agg ts,h,hb =>obtain⟨sl,vs,_,_,h3,h4,_⟩:=h;intro x hx;obtain⟨i,hi⟩:=List.mem_iff_getElem?.1 hx;have hl:vs.length=ts.length:=h3.1.trans (Nat.mul_one _);have hlt:=(List.getElem?_eq_some_iff.1 hi).1;exact mF n m _ x (h4 i vs[i] x (List.getElem?_eq_getElem (by omega)) hi) (hb x hx)
theorem vL{α:Type}{l:List α}(h:l.length=1):∃a,l=[a]:=by
 match l,h with
 | [a],_=>exact⟨a,rfl⟩
theorem fO{α:Type}{l:List α}(h:l.length=2):∃a b,l=[a,b]:=by
 match l,h with
 | [a,b],_=>exact⟨a,b,rfl⟩
theorem pZ{α:Type}{l:List α}(h:l.length=3):∃a b c,l=[a,b,c]:=by
 match l,h with
 | [a,b,c],_=>exact⟨a,b,c,rfl⟩
abbrev AllD(M:Nat->Prop)(n:Nat)(w:World)(vs:List Value)(ts:List Tr):Prop:=All2 (RepP (fun k=>¬M k) n w) vs ts
theorem AllD.iface{n:Nat}{vs:List Value}{ts:List Tr}(h:AllD M n w vs ts):∀v∈vs,∃T x,v=.iface T x:=by
 intro v hv;obtain⟨i,hi⟩:=List.mem_iff_getElem?.1 hv;have hlt:i<ts.length:=by have:=(List.getElem?_eq_some_iff.1 hi).1;have:=h.1;omega
 obtain⟨T,x,rfl,_⟩:=(h.2 i v ts[i] hi (List.getElem?_eq_getElem hlt)).iface;exact⟨T,x,rfl⟩
theorem p_quote(n:Nat)(hn:n<=1000)(M:Nat->Prop)(w:World)(s:Sg)(tb mb:Nat)(ps:List (PV×PV))(sl:Value)(vs:List Value)(ts:List Tr)(k:Tr)(hR:Rdr M w s tb mb ps)(hS:DRow M w sl vs)(hA:AllD M n w vs ts)(hB:∀x∈ts,cL n x)(o:FR)(ho:o=fmF (if ts.length==1 then some (mkF .const [] (.agg (k::ts)) [] []) else none) ps.length) :Calls prog 150 #[rdV tb,sl] w fun e w'=>FmPost M w s tb mb ps o 0 e w':=by
 have HR:Hid (Rdr M w s tb mb ps):=hR;have hvl:=hA.1;unfold rdV;by_cases h1:ts.length=1
 ·obtain⟨x,rfl⟩:=vL h1;obtain⟨u,rfl⟩:=vL (hvl.trans h1);have hr:=hA.2 0 u x rfl rfl;have HRp:Hid (RepP (fun k=>¬M k) 1000 w u x):=RepP.up _ _ _ _ hn hr;have HBg:Hid (cL 1000 x):=mF n 1000 u x hr (hB x (by simp));obtain⟨T,y,rfl,_⟩:=hr.iface;obtain⟨g,off,cap,rfl,hcap,hg,c0,_⟩:=(Sl.slOf hS).cell0;simp only [List.length_nil,Nat.zero_add] at hcap ⊢;have HO:Hid (o=some (Pl.PF.mk .const [] (.agg [k,x]) (Pl.made 1000 ps.length x).1 [] [],(Pl.made 1000 ps.length x).2)):=show o=_ from by rw [ho];simp [fmF,mkF,Pl.settle_const,Pl.quoted]
  clear hS hA hB hR hr h1 hvl ho;go_enter func150,ntmps150;go_wp2_with fail;have HR1:=HR.out.below (bB w (rdO tb));refine(p_of 1000 M _ _ s ps _ x HR1.pairs HR1.mlt (HRp.out.later (bB w (rdO tb))) HBg.out).mono ?_;rintro e w2 ⟨v,t,rfl,k1,k2,k3,k4⟩;have HK:Hid (RV t v (Pl.made 1000 ps.length x).1):=k1;have HP:Hid (Rdr M w2 t tb mb (ps++(Pl.made 1000 ps.length x).2)):=show Rdr _ _ _ _ _ _ from⟨by obtain⟨l,rfl⟩:=k4;exact HR1.tab.keep (k3.block _ HR1.tab.lt.1) (k3.block _ HR1.tab.lt.2),k2,HR1.mmb,HR1.mtb,fun j hj=>Nat.lt_of_lt_of_le (HR1.mlt j hj) k3.size⟩;have HG:Hid (w.grownBy w2 (some mb)):=aI ((bB w _).trans (k3.mono (bB w _).size));have HT:Hid (SgR s t/\t.ns.length<=s.ns.length+0):=⟨k4.r,by obtain⟨l,rfl⟩:=k4;exact Nat.le_refl _⟩
  obtain⟨T2,y2,rfl⟩:=k1.iface;clear k1 k2 k3 k4 HR1 c0;go_wp2_with fail;go_ret2;exact⟨HG.out,t,HT.out.1,HT.out.2,.inl ⟨_,_,HO.out,rfl,HP.out,.const _ true [] (.agg [k,x]) _ [] [] HK.out rfl⟩⟩
 ·have HE:Hid (o=none):=show o=none from by
   rw [ho,if_neg (by simpa using h1)];rfl
  obtain⟨ao,cap,rfl,_⟩:=Sl.slOf hS;have hne:((vs.length:Int)!=1)=true:=by simp;omega
  clear hS hA hB hR h1 hvl ho;go_enter func150,ntmps150;go_wp2_with (go_at_call 149;refine(aS _ _).mono ?_;rintro e w' ⟨rfl,rfl⟩);go_ret2;exact⟨aI (bB w _),s,SgR.refl _,Nat.le_add_right _ _,.inr ⟨HE.out,rfl,HR.out.below (bB w _),_,_,rfl⟩⟩
theorem rF(n:Nat)(hF:FSaid n)(M:Nat->Prop)(w:World)(s:Sg)(tb mb:Nat)(ps:List (PV×PV))(sl:Value)(vs:List Value)(ts:List Tr)(hR:Rdr M w s tb mb ps)(hS:DRow M w sl vs)(hA:AllD M n w vs ts)(hB:∀x∈ts,cL n x)(hlen:ts.length<=1000)(hz:s.ns.length+(ts.map (tsz n)).sum<=NsMax) :Calls prog 189 #[rdV tb,sl] w fun e w'=>FmsPost M w s tb mb ps ((Pl.allF (formOf n) ts).map fun l=>Pl.settleL l ps.length) ts.length (ts.map (tsz n)).sum e w':=by
 have:=u3 M w s tb mb ps sl vs (ts.map fun t=>fmF (formOf n t)) (ts.map (tsz n)) hR hS (by rw [hA.1];simp) (by simp) (by simp;omega) hz hA.iface (by
  intro i v F z hv hf hz;rw [List.getElem?_map,Option.map_eq_some_iff] at hf hz;obtain⟨t,ht,rfl⟩:=hf;obtain⟨t',ht',rfl⟩:=hz;rw [ht] at ht';obtain rfl:=Option.some.inj ht'
  exact hF M w v t (hA.2 i v t hv ht) (hB t (List.mem_of_getElem? ht)))
 rw [Pl.seqL_eq,List.length_map] at this;exact this
theorem p6{s:Sg}{fs:List PF}{n:Nat}(h:Sl M w TForm 1 v n us)(hl:us.length=n)(ha:All2 (RFm M w s) us fs):Sl M w TForm 1 v fs.length us:=by rw [<- ha.1,hl];exact h
theorem p_begin(n:Nat)(hF:FSaid n)(M:Nat->Prop)(w:World)(s:Sg)(tb mb:Nat)(ps:List (PV×PV))(sl:Value)(vs:List Value)(ts:List Tr)(hR:Rdr M w s tb mb ps)(hS:DRow M w sl vs)(hA:AllD M n w vs ts)(hB:∀x∈ts,cL n x)(hlen:ts.length<=1000)(hz:s.ns.length+(ts.map (tsz n)).sum<=NsMax)(o:FR)(ho:o=fmF (if !ts.isEmpty then(Pl.allF (formOf n) ts).map fun l=>mkF .begin [] .nil l [] else none) ps.length) :Calls prog 152 #[rdV tb,sl] w fun e w'=>FmPost M w s tb mb ps o (ts.map (tsz n)).sum e w':=by
 have HR:Hid (Rdr M w s tb mb ps):=hR;have HB1:=bB w (rdO tb);have HC:Hid (Calls prog 189 #[rdV tb,sl] (w.alloc (rdO tb)) fun e w'=>FmsPost M (w.alloc (rdO tb)) s tb mb ps ((Pl.allF (formOf n) ts).map fun l=>Pl.settleL l ps.length) ts.length (ts.map (tsz n)).sum e w') :=rF n hF M _ s tb mb ps sl vs ts (hR.below HB1) (Sl.stp (Stp.of_below HB1) hS) (hA.mono (fun _ _ h=>h.go (Stp.of_below HB1))) hB hlen hz;have hvl:=hA.1;obtain⟨ao,cap,rfl,_⟩:=Sl.slOf hS;unfold rdV at HC ⊢;by_cases h0:ts.length=0
 ·have HE:Hid (o=none):=show o=none from by
   obtain rfl:=List.eq_nil_of_length_eq_zero h0;exact ho
  have hz:((vs.length:Int)==0)=true:=beq_iff_eq.2 (by omega);clear hS hA hB hR h0 hvl HC HB1 hF ho;go_enter func152,ntmps152;go_wp2_with (go_at_call 149;refine(aS _ _).mono ?_;rintro e w' ⟨rfl,rfl⟩);go_ret2;exact⟨aI (bB w _),s,SgR.refl _,Nat.le_add_right _ _,.inr ⟨HE.out,rfl,HR.out.below (bB w _),_,_,rfl⟩⟩
 ·have HE:Hid (o=((Pl.allF (formOf n) ts).map fun l=>Pl.settleL l ps.length).map fun r=>(mkF .begin [] .nil r.1 [],r.2)):=show o=_ from by
   rw [ho,show ts.isEmpty=false from by cases ts<;>simp_all]
   cases Pl.allF (formOf n) ts with
   | none=>rfl
   | some l=>simp [fmF,mkF,Pl.settle_other]
  have HL:Hid (1<=ts.length/\ts.length<=1000):=⟨by omega,hlen⟩
  have hz:((vs.length:Int)==0)=false:=beq_eq_false_iff_ne.2 (by omega);have HG1:Hid (Below w.heap.size w (w.alloc (rdO tb))):=HB1;clear hS hA hB hR h0 hvl HB1 hF ho;go_enter func152,ntmps152;go_wp2_with fail;refine Calls.mono HC.out ?_;rintro e w2 ⟨hg,t,hsg,hnl,⟨r,v,us,hr,rfl,hrd,hsl,hul,hall⟩ | ⟨hr,hpb,hrd,v,es,rfl⟩⟩
  ·have HT:Hid (SgR s t/\t.ns.length<=s.ns.length+(ts.map (tsz n)).sum):=⟨hsg,hnl⟩
   have HG:Hid (w.grownBy w2 (some mb)):=aM (aI HG1.out) hg;have HX:Hid (Rdr M w2 t tb mb (ps++r.2)/\RFm M w2 t (.iface 347 (.agg #[v])) (mkF .begin [] .nil r.1 [])):=⟨hrd,.begin v us [] .nil .nothing r.1 [] (p6 hsl hul hall) hall.1 hall.2 (by rw [<- hall.1,hul];exact HL.out.1) (by rw [<- hall.1,hul];have:=HL.out.2;omega)⟩
   have HO:Hid (o=some (mkF .begin [] .nil r.1 [],r.2)):=show _=_ from by rw [HE.out,hr];rfl
   obtain⟨_,ao2,cap2,rfl,_⟩:=hsl;clear hg hsg hnl hr hrd hul hall;go_wp2_with fail;go_ret2;exact⟨HG.out,t,HT.out.1,HT.out.2,.inl ⟨_,_,HO.out,rfl,HX.out.1,HX.out.2⟩⟩
  ·have HT:Hid (SgR s t/\t.ns.length<=s.ns.length+(ts.map (tsz n)).sum):=⟨hsg,hnl⟩
   have HG:Hid (w.grownBy w2 (some mb)):=aM (aI HG1.out) hg;have HT2:Hid (t.pb=s.pb/\Rdr M w2 t tb mb ps):=⟨hpb,hrd⟩
   have HE2:Hid (o=none):=show _=_ from by rw [HE.out,hr];rfl
   clear hg hsg hnl hr hrd hpb;unfold aY;go_wp2_with fail;go_ret2;exact⟨HG.out,t,HT.out.1,HT.out.2,.inr ⟨HE2.out,HT2.out.1,HT2.out.2,_,_,rfl⟩⟩
theorem belN(w:World)(n:Nat):Below w.heap.size w (w.drewN n):=⟨rfl,rfl,rfl,Nat.le_refl _,fun _ _=>rfl⟩
theorem p_call(M:Nat->Prop)(w:World)(s:Sg)(tb mb:Nat)(ps:List (PV×PV))(sl:Value)(vs:List Value)(Fs:List (Nat->FR))(zs:List Nat)(hR:Rdr M w s tb mb ps)(hS:DRow M w sl vs)(hl:vs.length=Fs.length)(hzl:zs.length=Fs.length)(hlen:Fs.length<=2000)(hpos:1<=Fs.length)(hz:s.ns.length+zs.sum<=NsMax)(hv1:∀v∈vs,∃T x,v=.iface T x)
  (hF:∀(i:Nat)(v:Value)(F:Nat->FR)(z:Nat),vs[i]?=some v->Fs[i]?=some F->zs[i]?=some z->FCall M w v F z) (o:FR) (ho:o=(Pl.seqL Fs ps.length).map fun r=>(mkF .call [] .nil r.1 [],r.2)) :
  Calls prog 156 #[rdV tb,sl] w fun e w'=>FmPost M w s tb mb ps o zs.sum e w':=by
 have HR:Hid (Rdr M w s tb mb ps):=hR;have HB1:=bB w (rdO tb);have HC:Hid (Calls prog 189 #[rdV tb,sl] (w.alloc (rdO tb)) fun e w'=>FmsPost M (w.alloc (rdO tb)) s tb mb ps (Pl.seqL Fs ps.length) Fs.length zs.sum e w') :=u3 M _ s tb mb ps sl vs Fs zs (hR.below HB1) (Sl.stp (Stp.of_below HB1) hS) hl hzl hlen hz hv1 (fun i v F z h1 h2 h3=>(hF i v F z h1 h2 h3).go (Stp.of_below HB1));obtain⟨ao,cap,rfl,_⟩:=Sl.slOf hS;unfold rdV at HC ⊢;have HO:Hid (o=(Pl.seqL Fs ps.length).map fun r=>(mkF .call [] .nil r.1 [],r.2)):=ho;have HL:Hid (1<=Fs.length/\Fs.length<=2000):=⟨hpos,hlen⟩
 have HG1:Hid (Below w.heap.size w (w.alloc (rdO tb))):=HB1;clear hS hR HB1 hF ho hl hzl hlen hz hv1;go_enter func156,ntmps156;go_wp2_with fail;refine Calls.mono HC.out ?_;rintro e w2 ⟨hg,t,hsg,hnl,⟨r,v,us,hr,rfl,hrd,hsl,hul,hall⟩ | ⟨hr,hpb,hrd,v,es,rfl⟩⟩
 ·have HT:Hid (SgR s t/\t.ns.length<=s.ns.length+zs.sum):=⟨hsg,hnl⟩
  have HG:Hid (w.grownBy w2 (some mb)):=aM (aI HG1.out) hg;have HX:Hid (Rdr M w2 t tb mb (ps++r.2)/\RFm M w2 t (.iface 349 (.agg #[v])) (mkF .call [] .nil r.1 [])):=⟨hrd,.call v us [] .nil .nothing r.1 [] (p6 hsl hul hall) hall.1 hall.2 (by rw [<- hall.1,hul];exact HL.out.1) (by rw [<- hall.1,hul];exact HL.out.2)⟩
  have HO2:Hid (o=some (mkF .call [] .nil r.1 [],r.2)):=show _=_ from by rw [HO.out,hr];rfl
  obtain⟨_,ao2,cap2,rfl,_⟩:=hsl;clear hg hsg hnl hr hrd hul hall;go_wp2_with fail;go_ret2;exact⟨HG.out,t,HT.out.1,HT.out.2,.inl ⟨_,_,HO2.out,rfl,HX.out.1,HX.out.2⟩⟩
 ·have HT:Hid (SgR s t/\t.ns.length<=s.ns.length+zs.sum):=⟨hsg,hnl⟩
  have HG:Hid (w.grownBy w2 (some mb)):=aM (aI HG1.out) hg;have HT2:Hid (t.pb=s.pb/\Rdr M w2 t tb mb ps):=⟨hpb,hrd⟩
  have HE2:Hid (o=none):=show _=_ from by rw [HO.out,hr];rfl
  clear hg hsg hnl hr hrd hpb;unfold aY;go_wp2_with fail;go_ret2;exact⟨HG.out,t,HT.out.1,HT.out.2,.inr ⟨HE2.out,HT2.out.1,HT2.out.2,_,_,rfl⟩⟩
theorem yU(n:Nat)(hF:FSaid n)(M:Nat->Prop)(w:World)(s:Sg)(tb mb:Nat)(ps:List (PV×PV))(sl:Value)(vs:List Value)(ts:List Tr)(hR:Rdr M w s tb mb ps)(hS:DRow M w sl vs)(hA:AllD M n w vs ts)(hB:∀x∈ts,cL n x)(hlen:ts.length<=1000)(hz:s.ns.length+(ts.map (tsz n)).sum<=NsMax)(o:FR)(ho:o=fmF (if ts.length==3 then(Pl.allF (formOf n) ts).map fun l=>mkF .iff [] .nil l [] else none) ps.length) :Calls prog 151 #[rdV tb,sl] w fun e w'=>FmPost M w s tb mb ps o (ts.map (tsz n)).sum e w':=by
 have HR:Hid (Rdr M w s tb mb ps):=hR;have HB1:=bB w (rdO tb);have HC:Hid (Calls prog 189 #[rdV tb,sl] (w.alloc (rdO tb)) fun e w'=>FmsPost M (w.alloc (rdO tb)) s tb mb ps ((Pl.allF (formOf n) ts).map fun l=>Pl.settleL l ps.length) ts.length (ts.map (tsz n)).sum e w') :=rF n hF M _ s tb mb ps sl vs ts (hR.below HB1) (Sl.stp (Stp.of_below HB1) hS) (hA.mono (fun _ _ h=>h.go (Stp.of_below HB1))) hB hlen hz;have hvl:=hA.1;obtain⟨ao,cap,rfl,_⟩:=Sl.slOf hS;unfold rdV at HC ⊢;by_cases h0:ts.length=3
 ·have HE:Hid (o=((Pl.allF (formOf n) ts).map fun l=>Pl.settleL l ps.length).map fun r=>(mkF .iff [] .nil r.1 [],r.2)):=show o=_ from by
   rw [ho,if_pos (by simpa using h0)]
   cases Pl.allF (formOf n) ts with
   | none=>rfl
   | some l=>simp [fmF,mkF,Pl.settle_other]
  have hz:((vs.length:Int)!=3)=false:=by simp;omega
  have HL:Hid (ts.length=3):=h0;have HG1:Hid (Below w.heap.size w (w.alloc (rdO tb))):=HB1;clear hS hA hB hR h0 hvl HB1 hF ho;go_enter func151,ntmps151;go_wp2_with fail;refine Calls.mono HC.out ?_;rintro e w2 ⟨hg,t,hsg,hnl,⟨r,v,us,hr,rfl,hrd,hsl,hul,hall⟩ | ⟨hr,hpb,hrd,v,es,rfl⟩⟩
  ·have HT:Hid (SgR s t/\t.ns.length<=s.ns.length+(ts.map (tsz n)).sum):=⟨hsg,hnl⟩
   have HG:Hid (w.grownBy w2 (some mb)):=aM (aI HG1.out) hg;have hul3:=hul.trans HL.out;obtain⟨a,b,c,rfl⟩:=pZ hul3;obtain⟨x,y,z,hxyz⟩:=pZ (hall.1.symm.trans hul3);rw [hxyz] at hall;have h1:=hall.2 0 a x rfl rfl;have h2:=hall.2 1 b y rfl rfl;have h3:=hall.2 2 c z rfl rfl;have HX:Hid (Rdr M w2 t tb mb (ps++r.2)/\RFm M w2 t (.iface 335 (.agg #[a,b,c])) (mkF .iff [] .nil r.1 [])):=⟨hrd,by rw [hxyz];exact .iff a b c x y z [] .nil .nothing [] h1 h2 h3⟩
   have HO:Hid (o=some (mkF .iff [] .nil r.1 [],r.2)):=show _=_ from by rw [HE.out,hr];rfl
   obtain⟨Ta,xa,rfl⟩:=h1.iface;obtain⟨Tb,xb,rfl⟩:=h2.iface;obtain⟨Tc,xc,rfl⟩:=h3.iface;have hsl3:Sl M w2 TForm 1 v 3 [.iface Ta xa,.iface Tb xb,.iface Tc xc]:=by rw [HL.out] at hsl;exact hsl
   obtain⟨g,off,cap3,rfl,hcap3,hg3,k0,ks⟩:=(Sl.slOf (vs:=[.iface Ta xa,.iface Tb xb,.iface Tc xc]) hsl3).cell0;have k1:=ks 0 _ rfl;have k2:=ks 1 _ rfl;simp only [Nat.zero_add,List.length_cons,List.length_nil] at k1 k2 hcap3 ⊢;clear hg hsg hnl hr hrd hul hall h1 h2 h3 ks hsl hsl3 hxyz hul3;go_wp2_with fail
   go_quiet (fail)
   go_wp2_with fail
   go_ret2;exact⟨⟨HG.out.os,HG.out.tape,HG.out.output,HG.out.size,HG.out.block⟩,t,HT.out.1,HT.out.2,.inl ⟨_,_,HO.out,rfl,HX.out.1.below (belN _ _),HX.out.2.go (Stp.of_below (belN _ _)) (Sg.Le.refl _)⟩⟩
  ·have HT:Hid (SgR s t/\t.ns.length<=s.ns.length+(ts.map (tsz n)).sum):=⟨hsg,hnl⟩
   have HG:Hid (w.grownBy w2 (some mb)):=aM (aI HG1.out) hg;have HT2:Hid (t.pb=s.pb/\Rdr M w2 t tb mb ps):=⟨hpb,hrd⟩
   have HE2:Hid (o=none):=show _=_ from by rw [HE.out,hr];rfl
   clear hg hsg hnl hr hrd hpb;unfold aY;go_wp2_with fail;go_ret2;exact⟨HG.out,t,HT.out.1,HT.out.2,.inr ⟨HE2.out,HT2.out.1,HT2.out.2,_,_,rfl⟩⟩
 ·have HE:Hid (o=none):=show o=none from by
   rw [ho,if_neg (by simpa using h0)];rfl
  have hz:((vs.length:Int)!=3)=true:=by simp;omega
  clear hS hA hB hR h0 hvl HC HB1 hF ho;go_enter func151,ntmps151;go_wp2_with (go_at_call 149;refine(aS _ _).mono ?_;rintro e w' ⟨rfl,rfl⟩);go_ret2;exact⟨aI (bB w _),s,SgR.refl _,Nat.le_add_right _ _,.inr ⟨HE.out,rfl,HR.out.below (bB w _),_,_,rfl⟩⟩
def Eng(s:Sg):Prop:=(s.tq=330/\s.tc=522)\/(s.tq=465/\s.tc=477)
theorem Eng.le{s t:Sg}(h:Eng s)(l:Sg.Le s t):Eng t:=by unfold Eng at *;rw [l.tq,l.tc];exact h
theorem Tryz.sp_num(n:Int)(w:World):(Go.method 638 294 (.int .i64 n) "Spell").run prog w=.ok (354,.int .i64 n) w:=by kernel_rfl
theorem Tryz.sp_truth(b:Bool)(w:World):(Go.method 638 296 (.bool b) "Spell").run prog w=.ok (358,.bool b) w:=by kernel_rfl
theorem Tryz.sp_name(s:ByteArray)(w:World):(Go.method 638 297 (.string s) "Spell").run prog w=.ok (360,.string s) w:=by kernel_rfl
theorem Tryz.sp_empty(w:World):(Go.method 638 366 (.agg #[]) "Spell").run prog w=.ok (397,.agg #[]) w:=by kernel_rfl
theorem Tryz.sp_nothing(w:World):(Go.method 638 299 (.agg #[]) "Spell").run prog w=.ok (362,.agg #[]) w:=by kernel_rfl
theorem Tryz.sp_pair(b:Nat)(w:World):(Go.method 638 367 (.pointer (some ⟨b,0,none⟩)) "Spell").run prog w=.ok (399,.pointer (some ⟨b,0,none⟩)) w:=by kernel_rfl
theorem Tryz.sp_prim(n:Int)(w:World):(Go.method 638 246 (.int .i64 n) "Spell").run prog w=.ok (349,.int .i64 n) w:=by kernel_rfl
theorem Tryz.sp_callcc(w:World):(Go.method 638 243 (.agg #[]) "Spell").run prog w=.ok (346,.agg #[]) w:=by kernel_rfl
theorem dY(w:World)(a:Addr):(loadVar 331 a).run prog w=.ok (.agg #[]) w:=by kernel_rfl
theorem oM(w:World)(b:Nat)(cs:Array Value)(T:TypeId)(h:w.heap[b]?=some (.cells cs T (0,0)))(h1:prog.cellsOf T≠0)(h2:byteOfCell prog prog.depth T 0=some 0):(partAt ⟨b,0,none⟩ 0 0).run prog w=.ok ⟨b,0,none⟩ w:=by simp [partAt,byteOf,noView,viewAt,World.shape?,h,h1,h2]
theorem dX(n:Nat)(T E:TypeId)(w:World)(b:Nat)(cs:Array Value)(h:w.heap[b]?=some (.cells cs E (0,0)))
  (hm:((prog.info? T).bind fun i=>i.methods.find? fun m=>m.name == "Spell").map (fun m=>(m.path.toList,m.func))=some ([⟨E,0,true⟩],some (348,false)))
  (hf:(match prog.underlying E with | some (.struct fs)=>fs[0]?.map fun f=>(f.type,f.offset,f.byteOffset) | _=>none)=some (331,0,0))
  (h1:prog.cellsOf E≠0) (h2:byteOfCell prog prog.depth E 0=some 0) (hl:(loadVar 331 ⟨b,0,none⟩).run prog w=.ok (.agg #[]) w) :
  (Go.method (n+1) T (.pointer (some ⟨b,0,none⟩)) "Spell").run prog w=.ok (348,.agg #[]) w:=by
 obtain⟨m,hm1,hm2⟩:=Option.map_eq_some_iff.1 hm;obtain⟨i,hi,hm3⟩:=Option.bind_eq_some_iff.1 hm1;simp only [Prod.mk.injEq] at hm2
 cases hu:prog.underlying E with
 | none=>simp [hu] at hf
 | some d =>
  cases d with
  | struct fs =>
   simp only [hu] at hf;obtain⟨f,hf1,hf2⟩:=Option.map_eq_some_iff.1 hf;simp only [Prod.mk.injEq] at hf2;have hsz:(sizeOf 331).run prog w=.ok 0 w:=by kernel_rfl
   have hpa:=oM w b cs E h h1 h2;simp [Go.method,typeInfo,hi,hm3,hm2.1,hm2.2,follow,run_underlying hu,hf1,hf2.1,hf2.2.1,hf2.2.2,Place.get,asAddr,fieldPlace,hsz,hpa,receiverAt,run_underlying underlying331,hl]
  | _=>simp [hu] at hf
theorem Tryz.met_sq:((prog.info? 330).bind fun i=>i.methods.find? fun m=>m.name == "Spell").map (fun m=>(m.path.toList,m.func))=some ([⟨333,0,true⟩],some (348,false)):=by kernel_rfl
theorem Tryz.fld_sq:(match prog.underlying 333 with | some (.struct fs)=>fs[0]?.map fun f=>(f.type,f.offset,f.byteOffset) | _=>none)=some (331,0,0):=by kernel_rfl
theorem Tryz.cells_sq:prog.cellsOf 333≠0:=of_decide_eq_true (by kernel_rfl)
theorem Tryz.byte_sq:byteOfCell prog prog.depth 333 0=some 0:=by kernel_rfl
theorem Tryz.met_sc:((prog.info? 522).bind fun i=>i.methods.find? fun m=>m.name == "Spell").map (fun m=>(m.path.toList,m.func))=some ([⟨526,0,true⟩],some (348,false)):=by kernel_rfl
theorem Tryz.fld_sc:(match prog.underlying 526 with | some (.struct fs)=>fs[0]?.map fun f=>(f.type,f.offset,f.byteOffset) | _=>none)=some (331,0,0):=by kernel_rfl
theorem Tryz.cells_sc:prog.cellsOf 526≠0:=of_decide_eq_true (by kernel_rfl)
theorem Tryz.byte_sc:byteOfCell prog prog.depth 526 0=some 0:=by kernel_rfl
theorem Tryz.met_fq:((prog.info? 465).bind fun i=>i.methods.find? fun m=>m.name == "Spell").map (fun m=>(m.path.toList,m.func))=some ([⟨467,0,true⟩],some (348,false)):=by kernel_rfl
theorem Tryz.fld_fq:(match prog.underlying 467 with | some (.struct fs)=>fs[0]?.map fun f=>(f.type,f.offset,f.byteOffset) | _=>none)=some (331,0,0):=by kernel_rfl
theorem Tryz.cells_fq:prog.cellsOf 467≠0:=of_decide_eq_true (by kernel_rfl)
theorem Tryz.byte_fq:byteOfCell prog prog.depth 467 0=some 0:=by kernel_rfl
theorem Tryz.met_fc:((prog.info? 477).bind fun i=>i.methods.find? fun m=>m.name == "Spell").map (fun m=>(m.path.toList,m.func))=some ([⟨479,0,true⟩],some (348,false)):=by kernel_rfl
theorem Tryz.fld_fc:(match prog.underlying 479 with | some (.struct fs)=>fs[0]?.map fun f=>(f.type,f.offset,f.byteOffset) | _=>none)=some (331,0,0):=by kernel_rfl
theorem Tryz.cells_fc:prog.cellsOf 479≠0:=of_decide_eq_true (by kernel_rfl)
theorem Tryz.byte_fc:byteOfCell prog prog.depth 479 0=some 0:=by kernel_rfl
def tyE(T:TypeId):TypeId:=if T=330 then 333 else if T=522 then 526 else if T=465 then 467 else 479
theorem Tryz.sp_sq(w:World)(b:Nat)(cs:Array Value)(h:w.heap[b]?=some (.cells cs (tyE 330) (0,0))):(Go.method 638 330 (.pointer (some ⟨b,0,none⟩)) "Spell").run prog w=.ok (348,.agg #[]) w :=dX _ 330 333 w b cs h Tryz.met_sq Tryz.fld_sq Tryz.cells_sq Tryz.byte_sq (dY w _)
theorem Tryz.sp_sc(w:World)(b:Nat)(cs:Array Value)(h:w.heap[b]?=some (.cells cs (tyE 522) (0,0))):(Go.method 638 522 (.pointer (some ⟨b,0,none⟩)) "Spell").run prog w=.ok (348,.agg #[]) w :=dX _ 522 526 w b cs h Tryz.met_sc Tryz.fld_sc Tryz.cells_sc Tryz.byte_sc (dY w _)
theorem Tryz.sp_fq(w:World)(b:Nat)(cs:Array Value)(h:w.heap[b]?=some (.cells cs (tyE 465) (0,0))):(Go.method 638 465 (.pointer (some ⟨b,0,none⟩)) "Spell").run prog w=.ok (348,.agg #[]) w :=dX _ 465 467 w b cs h Tryz.met_fq Tryz.fld_fq Tryz.cells_fq Tryz.byte_fq (dY w _)
theorem Tryz.sp_fc(w:World)(b:Nat)(cs:Array Value)(h:w.heap[b]?=some (.cells cs (tyE 477) (0,0))):(Go.method 638 477 (.pointer (some ⟨b,0,none⟩)) "Spell").run prog w=.ok (348,.agg #[]) w :=dX _ 477 479 w b cs h Tryz.met_fc Tryz.fld_fc Tryz.cells_fc Tryz.byte_fc (dY w _)
theorem Eng.spq{s:Sg}(h:Eng s)(b:Nat)(w:World)(cs:Array Value)(hb:w.heap[b]?=some (.cells cs (tyE s.tq) (0,0))):(Go.method 638 s.tq (.pointer (some ⟨b,0,none⟩)) "Spell").run prog w=.ok (348,.agg #[]) w:=by
 rcases h with⟨h,_⟩ | ⟨h,_⟩<;>rw [h] at hb ⊢
 ·exact Tryz.sp_sq w b cs hb
 ·exact Tryz.sp_fq w b cs hb
theorem Eng.spc{s:Sg}(h:Eng s)(b:Nat)(w:World)(cs:Array Value)(hb:w.heap[b]?=some (.cells cs (tyE s.tc) (0,0))):(Go.method 638 s.tc (.pointer (some ⟨b,0,none⟩)) "Spell").run prog w=.ok (348,.agg #[]) w:=by
 rcases h with⟨_,h⟩ | ⟨_,h⟩<;>rw [h] at hb ⊢
 ·exact Tryz.sp_sc w b cs hb
 ·exact Tryz.sp_fc w b cs hb
theorem fC{T:TypeId}(v:Value)(w:World)(h:T=367\/T=294):(Instr.typeAssert (.iface T v) 161 T true).run prog w=.ok (.tuple #[v,.bool true]) w:=by rcases h with rfl | rfl<;>kernel_rfl
theorem Tryz.no_pair_296(v:Value)(w:World):(Instr.typeAssert (.iface 296 v) 161 367 true).run prog w=.ok (.tuple #[.pointer none,.bool false]) w:=by kernel_rfl
theorem Tryz.no_num_296(v:Value)(w:World):(Instr.typeAssert (.iface 296 v) 161 294 true).run prog w=.ok (.tuple #[.int .i64 0,.bool false]) w:=by kernel_rfl
theorem Tryz.no_pair_297(v:Value)(w:World):(Instr.typeAssert (.iface 297 v) 161 367 true).run prog w=.ok (.tuple #[.pointer none,.bool false]) w:=by kernel_rfl
theorem Tryz.no_num_297(v:Value)(w:World):(Instr.typeAssert (.iface 297 v) 161 294 true).run prog w=.ok (.tuple #[.int .i64 0,.bool false]) w:=by kernel_rfl
theorem Tryz.no_pair_366(v:Value)(w:World):(Instr.typeAssert (.iface 366 v) 161 367 true).run prog w=.ok (.tuple #[.pointer none,.bool false]) w:=by kernel_rfl
theorem Tryz.no_num_366(v:Value)(w:World):(Instr.typeAssert (.iface 366 v) 161 294 true).run prog w=.ok (.tuple #[.int .i64 0,.bool false]) w:=by kernel_rfl
theorem Tryz.no_pair_299(v:Value)(w:World):(Instr.typeAssert (.iface 299 v) 161 367 true).run prog w=.ok (.tuple #[.pointer none,.bool false]) w:=by kernel_rfl
theorem Tryz.no_num_299(v:Value)(w:World):(Instr.typeAssert (.iface 299 v) 161 294 true).run prog w=.ok (.tuple #[.int .i64 0,.bool false]) w:=by kernel_rfl
theorem Tryz.no_pair_246(v:Value)(w:World):(Instr.typeAssert (.iface 246 v) 161 367 true).run prog w=.ok (.tuple #[.pointer none,.bool false]) w:=by kernel_rfl
theorem Tryz.no_num_246(v:Value)(w:World):(Instr.typeAssert (.iface 246 v) 161 294 true).run prog w=.ok (.tuple #[.int .i64 0,.bool false]) w:=by kernel_rfl
theorem Tryz.no_pair_243(v:Value)(w:World):(Instr.typeAssert (.iface 243 v) 161 367 true).run prog w=.ok (.tuple #[.pointer none,.bool false]) w:=by kernel_rfl
theorem Tryz.no_num_243(v:Value)(w:World):(Instr.typeAssert (.iface 243 v) 161 294 true).run prog w=.ok (.tuple #[.int .i64 0,.bool false]) w:=by kernel_rfl
theorem Tryz.no_pair_330(v:Value)(w:World):(Instr.typeAssert (.iface 330 v) 161 367 true).run prog w=.ok (.tuple #[.pointer none,.bool false]) w:=by kernel_rfl
theorem Tryz.no_num_330(v:Value)(w:World):(Instr.typeAssert (.iface 330 v) 161 294 true).run prog w=.ok (.tuple #[.int .i64 0,.bool false]) w:=by kernel_rfl
theorem Tryz.no_pair_522(v:Value)(w:World):(Instr.typeAssert (.iface 522 v) 161 367 true).run prog w=.ok (.tuple #[.pointer none,.bool false]) w:=by kernel_rfl
theorem Tryz.no_num_522(v:Value)(w:World):(Instr.typeAssert (.iface 522 v) 161 294 true).run prog w=.ok (.tuple #[.int .i64 0,.bool false]) w:=by kernel_rfl
theorem Tryz.no_pair_465(v:Value)(w:World):(Instr.typeAssert (.iface 465 v) 161 367 true).run prog w=.ok (.tuple #[.pointer none,.bool false]) w:=by kernel_rfl
theorem Tryz.no_num_465(v:Value)(w:World):(Instr.typeAssert (.iface 465 v) 161 294 true).run prog w=.ok (.tuple #[.int .i64 0,.bool false]) w:=by kernel_rfl
theorem Tryz.no_pair_477(v:Value)(w:World):(Instr.typeAssert (.iface 477 v) 161 367 true).run prog w=.ok (.tuple #[.pointer none,.bool false]) w:=by kernel_rfl
theorem Tryz.no_num_477(v:Value)(w:World):(Instr.typeAssert (.iface 477 v) 161 294 true).run prog w=.ok (.tuple #[.int .i64 0,.bool false]) w:=by kernel_rfl
theorem Tryz.no_pair_n(v:Value)(w:World):(Instr.typeAssert (.iface 294 v) 161 367 true).run prog w=.ok (.tuple #[.pointer none,.bool false]) w:=by kernel_rfl
theorem Tryz.no_num_p(v:Value)(w:World):(Instr.typeAssert (.iface 367 v) 161 294 true).run prog w=.ok (.tuple #[.int .i64 0,.bool false]) w:=by kernel_rfl
theorem RV.asPair{s:Sg}{p:PV}(h:RV s v p)(he:Eng s):(∃k b,p=.pair k/\s.pb[k]?=some b/\v=.iface 367 (.pointer (some ⟨b,0,none⟩))) \/
  ((∀k,p≠.pair k)/\∃T x,v=.iface T x/\∀w,(Instr.typeAssert (.iface T x) 161 367 true).run prog w=.ok (.tuple #[.pointer none,.bool false]) w):=by
 cases h with
 | pair i b h=>exact .inl ⟨i,b,rfl,h,rfl⟩
 | num n=>exact .inr ⟨fun k e=>(by cases e),_,_,rfl,Tryz.no_pair_n _⟩
 | truth b=>exact .inr ⟨fun k e=>(by cases e),_,_,rfl,Tryz.no_pair_296 _⟩
 | name t=>exact .inr ⟨fun k e=>(by cases e),_,_,rfl,Tryz.no_pair_297 _⟩
 | empty=>exact .inr ⟨fun k e=>(by cases e),_,_,rfl,Tryz.no_pair_366 _⟩
 | nothing=>exact .inr ⟨fun k e=>(by cases e),_,_,rfl,Tryz.no_pair_299 _⟩
 | proc i b h =>
  refine .inr ⟨fun k e=>(by cases e),_,_,rfl,fun w=>?_⟩;rcases he with⟨e,_⟩ | ⟨e,_⟩<;>rw [e]
  ·exact Tryz.no_pair_330 _ w
  ·exact Tryz.no_pair_465 _ w
 | cont i b h =>
  refine .inr ⟨fun k e=>(by cases e),_,_,rfl,fun w=>?_⟩;rcases he with⟨_,e⟩ | ⟨_,e⟩<;>rw [e]
  ·exact Tryz.no_pair_522 _ w
  ·exact Tryz.no_pair_477 _ w
 | prim k t h hk=>exact .inr ⟨fun k e=>(by cases e),_,_,rfl,Tryz.no_pair_246 _⟩
 | callcc=>exact .inr ⟨fun k e=>(by cases e),_,_,rfl,Tryz.no_pair_243 _⟩
theorem RV.asNum{s:Sg}{p:PV}(h:RV s v p)(he:Eng s):(∃n,p=.num n/\v=.iface 294 (.int .i64 n)) \/
  ((∀k,p≠.num k)/\∃T x,v=.iface T x/\∀w,(Instr.typeAssert (.iface T x) 161 294 true).run prog w=.ok (.tuple #[.int .i64 0,.bool false]) w):=by
 cases h with
 | num n=>exact .inl ⟨n,rfl,rfl⟩
 | pair i b h=>exact .inr ⟨fun k e=>(by cases e),_,_,rfl,Tryz.no_num_p _⟩
 | truth b=>exact .inr ⟨fun k e=>(by cases e),_,_,rfl,Tryz.no_num_296 _⟩
 | name t=>exact .inr ⟨fun k e=>(by cases e),_,_,rfl,Tryz.no_num_297 _⟩
 | empty=>exact .inr ⟨fun k e=>(by cases e),_,_,rfl,Tryz.no_num_366 _⟩
 | nothing=>exact .inr ⟨fun k e=>(by cases e),_,_,rfl,Tryz.no_num_299 _⟩
 | proc i b h =>
  refine .inr ⟨fun k e=>(by cases e),_,_,rfl,fun w=>?_⟩;rcases he with⟨e,_⟩ | ⟨e,_⟩<;>rw [e]
  ·exact Tryz.no_num_330 _ w
  ·exact Tryz.no_num_465 _ w
 | cont i b h =>
  refine .inr ⟨fun k e=>(by cases e),_,_,rfl,fun w=>?_⟩;rcases he with⟨_,e⟩ | ⟨_,e⟩<;>rw [e]
  ·exact Tryz.no_num_522 _ w
  ·exact Tryz.no_num_477 _ w
 | prim k t h hk=>exact .inr ⟨fun k e=>(by cases e),_,_,rfl,Tryz.no_num_246 _⟩
 | callcc=>exact .inr ⟨fun k e=>(by cases e),_,_,rfl,Tryz.no_num_243 _⟩
theorem bD(w:World){T U:TypeId}(h:T≠U)(x y:Value):(binOp .eql 161 (.iface T x) (.iface U y)).run prog w=.ok (.bool false) w:=by
 simp only [binOp];have hE:∀d,(Op.equalIn (d+1) 161 (.iface T x) (.iface U y)).run prog w=.ok false w:=fun d=>by simp [Op.equalIn,run_underlying underlying161,h]
 have hE2:(Op.equal 161 (.iface T x) (.iface U y)).run prog w=.ok false w:=hE 9999;simp [hE2]
theorem neq_of{T U:TypeId}{x y:Value}{b:Bool}(h:(binOp .eql 161 (.iface T x) (.iface U y)).run prog w=.ok (.bool b) w):(binOp .neq 161 (.iface T x) (.iface U y)).run prog w=.ok (.bool (!b)) w:=by
 simp only [binOp] at h ⊢
 cases hr:(Op.equal 161 (.iface T x) (.iface U y)).run prog w with
 | ok c w1 =>simp only [Sem.run_bind,hr,Result.andThen_ok,Sem.run_pure,Result.ok.injEq,Value.bool.injEq] at h;obtain⟨rfl,rfl⟩:=h;simp only [Sem.run_bind,hr,Result.andThen_ok,Sem.run_pure]
 | _=>simp [hr] at h
theorem Tryz.eq_truth(a b:Bool)(w:World):(binOp .eql 161 (.iface 296 (.bool a)) (.iface 296 (.bool b))).run prog w=.ok (.bool (a==b)) w:=by kernel_rfl
theorem Tryz.eq_num(a b:Int)(w:World):(binOp .eql 161 (.iface 294 (.int .i64 a)) (.iface 294 (.int .i64 b))).run prog w=.ok (.bool (a==b)) w:=by kernel_rfl
theorem Tryz.eq_prim(a b:Int)(w:World):(binOp .eql 161 (.iface 246 (.int .i64 a)) (.iface 246 (.int .i64 b))).run prog w=.ok (.bool (a==b)) w:=by kernel_rfl
theorem Tryz.eq_name(a b:ByteArray)(w:World):(binOp .eql 161 (.iface 297 (.string a)) (.iface 297 (.string b))).run prog w=.ok (.bool (a==b)) w:=by kernel_rfl
theorem Tryz.eq_empty(w:World):(binOp .eql 161 (.iface 366 (.agg #[])) (.iface 366 (.agg #[]))).run prog w=.ok (.bool true) w:=by kernel_rfl
theorem Tryz.eq_nothing(w:World):(binOp .eql 161 (.iface 299 (.agg #[])) (.iface 299 (.agg #[]))).run prog w=.ok (.bool true) w:=by kernel_rfl
theorem Tryz.eq_callcc(w:World):(binOp .eql 161 (.iface 243 (.agg #[])) (.iface 243 (.agg #[]))).run prog w=.ok (.bool true) w:=by kernel_rfl
theorem RV.eqEmpty{s:Sg}{p:PV}(h:RV s v p)(he:Eng s)(w:World):(binOp .eql 161 v (.iface 366 (.agg #[]))).run prog w=.ok (.bool (decide (p=.empty))) w:=by
 cases h with
 | empty=>exact Tryz.eq_empty w
 | proc i b h=>rw [bD w (by rcases he with⟨e,_⟩ | ⟨e,_⟩<;>rw [e]<;>decide)];simp
 | cont i b h=>rw [bD w (by rcases he with⟨_,e⟩ | ⟨_,e⟩<;>rw [e]<;>decide)];simp
 | _=>rw [bD w (by decide)];simp
theorem RV.eqFalse{s:Sg}{p:PV}(h:RV s v p)(he:Eng s)(w:World):(binOp .eql 161 v (.iface 296 (.bool false))).run prog w=.ok (.bool (decide (p=.truth false))) w:=by
 cases h with
 | truth b=>rw [Tryz.eq_truth];cases b<;>rfl
 | proc i b h=>rw [bD w (by rcases he with⟨e,_⟩ | ⟨e,_⟩<;>rw [e]<;>decide)];simp
 | cont i b h=>rw [bD w (by rcases he with⟨_,e⟩ | ⟨_,e⟩<;>rw [e]<;>decide)];simp
 | _=>rw [bD w (by decide)];simp
end
end Go.Proofs.YtkgbdddkcjpgfaaGreatDoor
