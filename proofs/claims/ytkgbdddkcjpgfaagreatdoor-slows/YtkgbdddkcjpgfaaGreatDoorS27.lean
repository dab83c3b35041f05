import Derived.Test.YtkgbdddkcjpgfaaGreatDoorS23
import Derived.Test.YtkgbdddkcjpgfaaGreatDoorS24
import Derived.Test.YtkgbdddkcjpgfaaGreatDoorS25
import Derived.Test.YtkgbdddkcjpgfaaGreatDoorS26
namespace Go.Proofs.YtkgbdddkcjpgfaaGreatDoor
set_option maxHeartbeats 4000000
set_option maxRecDepth 100000
open Go.Proofs.Tryz
open Pl (PV PW PS PF PFr SR Byt Env prims applyB callccW)
section
open Go.RowKit
variable {w:World} {v:Value} {T:TypeId} {n sz:Nat} {xs:List Value}
theorem iW{P:Program}(t ty:TypeId)(e:TypeId)(i:TypeInfo)(ht:P.underlying t=some (.slice e))(hi:P.info? e=some i)(p:Option Addr)(c:Nat) :(Builtin.append_ #[t,t] ty #[.slice none 0 0,.slice p 0 c]).run P w=.ok (.slice none 0 0) w:=by cases p<;>simp [Builtin.append_,run_underlying ht,sizeOf,typeInfo,hi,Builtin.lenOf,Builtin.firstCells,loadCells,loadCellsFrom]
theorem dG{P:Program}{ops:Array Oper}{rest:List Oper}{o:Oper}{a:Act}{Q:Exit->Act->World->Prop}(hgd:o.guard=none)(s x:Operand)(t:TypeId)
  (ho:o.op=.call {callee:=.builtin .append,args:=#[s,x],argTypes:=#[t,t]})
  (e:TypeId) (i:TypeInfo) (ht:P.underlying t=some (.slice e)) (hi:P.info? e=some i)
  (p:Option Addr) (c:Nat) (hs:a.eval s=.slice none 0 0) (hx:a.eval x=.slice p 0 c)
  (h:wpList P ops Q rest (a.put o.dst (.slice none 0 0)) w):wpList P ops Q (o::rest) a w:=by
 refine wpList_plain hgd fun K hK=>?_;have hrun:=iW (P:=P) (w:=w) t o.type e i ht hi p c;unfold Oper.wp;simp [execOp,ho,resolve,invoke,builtin,hs,hx,hrun,Result.andThen];exact hK _ _ h
theorem RF.open_{f:PF}(h:RF w v f):∃b dv kv nv c0 c1 c2 us,v=.pointer (some ⟨b,0,none⟩) /\
  w.heap[b]?=some (.cells #[byV (fkS f.k),byV f.nm,dv,kv,nv,c0,c1,c2] TFo (0,0))/\w.ownsRow 0 TFP 1 kv f.ks.length us/\(∀(i:Nat)(u:Value)(x:PF),us[i]?=some u->f.ks[i]?=some x->RF w u x) /\
  w.ownsRow 0 TS 1 nv f.ns.length (f.ns.map byV)/\(f.k=.const->[c0,c1,c2]=cZ f.v)/\shape f.k f.ks.length/\f.ks.length<=1000/\f.ns.length<=1000:=by
 obtain⟨n,hn⟩:=h
 cases n with
 | zero=>exact hn.elim
 | succ n =>obtain⟨k,nm,d,pv,ks,ns⟩:=f;obtain⟨b,dv,kv,nv,c0,c1,c2,us,hv,hb,h1,h2,h3,h4,h5,h6,h7⟩:=hn;exact⟨b,dv,kv,nv,c0,c1,c2,us,hv,hb,h1,fun i u x hu hx=>⟨n,h2 i u x hu hx⟩,h3,fun e=>(h4 e).1,h5,h6,h7⟩
theorem row1(h:w.ownsRow 0 T 1 v n xs)(hn:0<n):∃g cap,v=.slice (some ⟨g,0,none⟩) n cap/\n<=cap/\(∃cur,w.heap[g]?=some (.cells cur T (0,0)))/\∀(i:Nat)(u:Value),xs[i]?=some u->w.cell? ⟨g,i,none⟩=some u:=by
 rcases h.2 with⟨_,h0⟩ | ⟨g,cap,cur,e,_,hg,hc,_⟩
 ·omega
 ·refine⟨g,cap,e,hc,⟨cur,hg⟩,fun i u hu=>?_⟩;have:=h.cells (g:=g) (by rw [e];rfl) i u hu
  rwa [Addr.add_lit,Nat.zero_add] at this
theorem dN{base:Nat}(h:w.ownsRow base T sz v n xs):∃ao cap,v=.slice ao n cap/\n<=cap:=by
 rcases h.2 with⟨e,h0⟩ | ⟨g,cap,cur,e,_,hg,hc,_⟩
 ·subst h0;exact⟨none,0,e,Nat.le_refl _⟩
 ·exact⟨_,cap,e,hc⟩
theorem pc_at{wb:Nat}{W:PW}{pv qv cv lv gv:Value}{qs cs:List Value}(h:RWs w wb W pv qv cv lv gv qs cs){i:Nat}{p:PF×Env}(hp:W.procs[i]?=some p):∃g cap fv ev,qv=.slice (some ⟨g,0,none⟩) W.procs.length cap/\W.procs.length<=cap/\g<w.heap.size/\w.cell? ⟨g,i*2,none⟩=some fv/\w.cell? ⟨g,i*2+1,none⟩=some ev/\RF w fv p.1/\p.1.k=.lambda/\EnvAt (Mof wb [pv,qv,cv,lv,gv]) w ev p.2:=by
 have hk:=(List.getElem?_eq_some_iff.1 hp).1;obtain⟨fv,ev,e1,e2,h1,h2,h3⟩:=h.pcs i p hp;rcases h.pc.2 with⟨_,h0⟩ | ⟨g,cap,cur,e,_,hg,hc,_⟩
 ·omega
 ·have hcell:=h.pc.cells (g:=g) (by rw [e];rfl);refine⟨g,cap,fv,ev,e,hc,aB hg,?_,?_,h1,h2,h3⟩
  ·have:=hcell _ _ e1;rwa [Addr.add_lit,Nat.zero_add] at this
  ·have:=hcell _ _ e2;rwa [Addr.add_lit,Nat.zero_add] at this
theorem xO{w':World}{base:Nat}(h:w.ownsRow base T sz v n xs)(hk:∀k cur,v.ownBlock=some k->w.heap[k]?=some (.cells cur T (0,0))->w'.heap[k]?=w.heap[k]?):w'.ownsRow base T sz v n xs:=by
 refine⟨h.1,?_⟩;rcases h.2 with hn | ⟨g,cap,cur,rfl,hb,hg,rest⟩
 ·exact .inl hn
 ·exact .inr ⟨g,cap,cur,rfl,hb,(hk g cur rfl hg).trans hg,rest⟩
theorem vM(l:List Byt)(s:Byt)(n:Nat):Pl.numb (l++[s]) n=Pl.numb l n++[(s,n+l.length)]:=by rw [Pl.numb_append];rfl
theorem qX(l:List Byt)(n:Nat):(Pl.numb l n).length=l.length:=by
 induction l generalizing n with
 | nil=>rfl
 | cons x l ih=>simp [Pl.numb,ih]
theorem wM(l:Env):(l.flatMap iM).length=l.length*2:=by
 induction l with
 | nil=>rfl
 | cons x l ih=>simp only [List.flatMap_cons,List.length_append,ih,iM,List.length_cons,List.length_nil];omega
theorem procB(W:PW)(S:PS)(i:Nat)(p:PF×Env)(l:List PV)(hp:W.procs[i]?=some p):applyB W S (.proc i) l=if l.length≠p.1.ns.length then⟨10,W,S⟩ else⟨0,{W with places:=W.places++l},S.work p.1.ks[0]? (p.2++Pl.numb p.1.ns W.places.length)⟩:=by show(match W.procs[i]? with | some p=>if l.length≠p.1.ns.length then(⟨10,W,S⟩:SR) else⟨0,{W with places:=W.places++l},S.work p.1.ks[0]? (p.2++Pl.numb p.1.ns W.places.length)⟩ | none=>⟨9,W,S⟩)=_;rw [hp]
theorem xU(w:World)(wb xb:Nat)(M:Nat->Prop)(W:PW)(S:PS)(i:Nat)(av:Value)(l:List PV)(hW:RW w wb M W)(hS:RS M w xb S)(ha:GotAt M w av l)(hi:i<W.procs.length)(hll:l.length<=1000)(h1:W.places.length<=100000000)(h2:∀p∈W.procs,p.2.length<=100000000) :Calls prog 131 #[.pointer (some ⟨wb,0,none⟩),.pointer (some ⟨xb,0,none⟩),bT (.proc i),av] w fun e w'=>Res M w wb xb (applyB W S (.proc i) l) e w':=by
 obtain⟨i0,hi0,hz0,hz1,hz2⟩:=info_parts Tryz.infoB;obtain⟨p,hp⟩:∃p,W.procs[i]?=some p:=⟨_,List.getElem?_eq_getElem hi⟩
 have HE:Hid _:=procB W S i p l hp;have hpe:=h2 p (List.mem_of_getElem? hp);have HW:Hid (RW w wb M W):=hW;have HS:Hid (RS M w xb S):=hS;have HA:Hid (GotAt M w av l):=ha;obtain⟨pv,qv,cv,lv,gv,qs,cs,hM,hws⟩:=hW;obtain⟨gq,capq,fv,ev,rfl,hcq,hgq,dq0,dq1,hF,hlam,hEn⟩:=pc_at hws hp;obtain⟨b,dv,kv,nv,c0,c1,c2,us,rfl,hb,hkr,hks,hnr,_,hsh,hkl,hnl⟩:=hF.open_;rw [hlam] at hsh;have hk1:p.1.ks.length=1:=hsh;obtain⟨ea,ecap,rfl,hec⟩:=hEn.shape;obtain⟨aa,acap,rfl,hac⟩:=ha.shape;obtain⟨na,ncap,rfl,hnc⟩:=dN hnr;have HF:Hid _:=hF;have HEn:Hid _:=hEn;have HWs:Hid _:=hws;have HM:Hid _:=hM;have HNr:Hid _:=hnr;have HKs:Hid _:=hks;have HKr:Hid _:=hkr;have HHb:Hid _:=hb;have hwb:=aB hws.blk;have hbl:=aB hb;have q1:w.cell? ⟨wb,1,none⟩=some (.slice (some ⟨gq,0,none⟩) W.procs.length capq):=aA hws.blk 1;have f4:w.cell? ⟨b,4,none⟩=some (.slice na p.1.ns.length ncap):=aA hb 4;have hil:(i:Int)<(W.procs.length:Int):=by omega
 have qA:∀(o:Obj)(k off:Nat),k<w.heap.size->(w.alloc o).cell? ⟨k,off,none⟩=w.cell? ⟨k,off,none⟩:=fun o k off hk=>((Below.refl _ _).alloc (Nat.le_refl _) o).cell (p:=⟨k,off,none⟩) hk;have qB:∀(o o2:Obj)(k off:Nat),k<w.heap.size->((w.alloc o).alloc o2).cell? ⟨k,off,none⟩=w.cell? ⟨k,off,none⟩:=fun o o2 k off hk=>(((Below.refl _ _).alloc (Nat.le_refl _) o).alloc (by simp) o2).cell (p:=⟨k,off,none⟩) hk;clear hp hS ha hM hws hF hEn hb hkr hks hnr hi h2 hsh hlam;unfold bT byV vK vN vS s5;go_enter func131,ntmps131;go_wp2_with fail
 go_upto_region 3 with fail
 go_cut [9] (fun p9 wx=>p9=.pointer (some ⟨w.heap.size+1,0,none⟩)/\Hid (Below w.heap.size w wx)/\Hid (wx.heap[w.heap.size+1]?=some (.cells #[.pointer (some ⟨b,0,none⟩),.slice ea p.2.length ecap] TPc (0,0))))
 case first =>
  go_region
  all_goals
   go_wp2_with fail
   go_meet
   exact⟨rfl,jV w _ _,zN w _ _ _⟩
 case rest =>
  obtain⟨rfl,HBc,HPc⟩:=hcut;have x0:wc.cell? ⟨w.heap.size+1,0,none⟩=some (.pointer (some ⟨b,0,none⟩)):=aA HPc.out 0;have x1:wc.cell? ⟨w.heap.size+1,1,none⟩=some (.slice ea p.2.length ecap):=aA HPc.out 1;have f4c:=(HBc.out.cell (p:=⟨b,4,none⟩) hbl).trans f4;clear qA qB q1 f4 dq0 dq1;by_cases hlen:l.length=p.1.ns.length
  ·rw [if_neg (by simpa using hlen)] at HE;have hne:((l.length:Int)!=(p.1.ns.length:Int))=false:=by simp;omega
   have HLn:Hid (l.length=p.1.ns.length):=hlen;clear hlen
   go_upto_region 7 with fail
   go_cut [10] (fun envv wx=>Hid (wx.ownsRow w.heap.size TB 2 envv p.2.length (p.2.flatMap iM))/\Hid (Below w.heap.size w wx)/\Hid (wx.heap[w.heap.size+1]?=some (.cells #[.pointer (some ⟨b,0,none⟩),.slice ea p.2.length ecap] TPc (0,0))))
   case first =>
    by_cases hz:p.2.length=0
    ·have HZ:Hid (p.2=[]):=List.eq_nil_of_length_eq_zero hz;have x1':wc.cell? ⟨w.heap.size+1,1,none⟩=some (.slice ea 0 ecap):=by rw [x1,hz]
     clear x1 hz;go_wp2_with (first | (at_builtin;refine dG rfl _ _ 94 rfl 249 i0 underlying94 hi0 ea ecap rfl rfl ?_))
     go_meet
     exact⟨by rw [HZ.out];exact World.ownsRow_nil _ _ _ _,HBc,HPc⟩
    ·obtain⟨ge,oe,rfl,hge,_,hce⟩:=Sl.cell HEn.out (by omega);have hce':∀(j:Nat)(u:Value),(p.2.flatMap iM)[j]?=some u->wc.cell? ((⟨ge,oe,none⟩:Addr).add j)=some u:=fun j u hu=>by rw [Addr.add_lit];exact(HBc.out.cell (p:=⟨ge,oe+j,none⟩) hge).trans (hce j u hu)
     have HCe:Hid _:=hce';have hszc:=HBc.out.size;clear hce hce';go_wp2_with (first | (at_builtin;refine wpList_append_lies _ rfl _ _ 94 rfl w.heap.size 249 i0 _ 2 24 underlying94 hi0 hz0 hz1 hz2 rfl (by decide) (.slice none 0 0) 0 [] rfl (World.ownsRow_nil _ _ _ _) ⟨ge,oe,none⟩ p.2.length ecap (p.2.flatMap iM) rfl (wM p.2) HCe.out (by intro u hu;obtain⟨bb,_,hb2⟩:=List.mem_flatMap.1 hu;simp only [iM,List.mem_cons,List.not_mem_nil,or_false] at hb2;rcases hb2 with rfl | rfl<;>rfl) (by omega) (by unfold maxLen;omega) (by omega) hszc wc.heap.size rfl ?_;intro g3 cap3 w3 hown3 hgrow3 hat3 hlt3));have HB3:Hid (Below wc.heap.size wc w3):=cS hgrow3
     go_meet
     refine⟨show World.ownsRow _ _ TB _ _ _ _ from(by have h:=hown3;simp only [Nat.zero_add,List.nil_append] at h;exact h),HBc.out.trans (HB3.out.mono hszc),(HB3.out.block _ (aB HPc.out)).trans HPc.out⟩
   case rest =>
    obtain⟨HEv,HBe,HPe⟩:=hcut;clear x0 x1 f4c HPc HBc;have HJ0:Hid _:=PlJ.start HWs.out HBe.out;go_wp2_with fail
    go_loopw [10,11] (fun envv iv wr=>∃(j:Nat)(lvj:Value),j<=l.length/\iv=.int .i64 j/\Hid (PlJ w wr wb W pv (.slice (some ⟨gq,0,none⟩) W.procs.length capq) cv lv gv qs cs (l.take j) lvj)/\Hid (wr.ownsRow w.heap.size TB 2 envv (p.2.length+j) ((p.2++Pl.numb (p.1.ns.take j) W.places.length).flatMap iM))/\Hid (wr.heap[w.heap.size+1]?=some (.cells #[.pointer (some ⟨b,0,none⟩),.slice ea p.2.length ecap] TPc (0,0)))) (fun _ iv _=>l.length-(intOf iv).toNat)
    case atStart=>exact⟨0,lv,Nat.zero_le _,rfl,by simpa [Hid] using HJ0.out,by simpa [Hid,Pl.numb] using HEv.out,HPe⟩
    case round =>
     obtain⟨j,lvj,hj,rfl,HJ,HRw,HP9⟩:=hrel;have hkeep:∀k off:Nat,k<w.heap.size->¬M k->wr.cell? ⟨k,off,none⟩=w.cell? ⟨k,off,none⟩:=fun k off hk hm=>World.cell?_of_block (HJ.out.done.2.block k hk (by rw [<- HM.out];exact hm)).1;have x0:wr.cell? ⟨w.heap.size+1,0,none⟩=some (.pointer (some ⟨b,0,none⟩)):=aA HP9.out 0;have nMb:¬M b:=HW.out.notM HHb.out (by decide);have hjn:=HRw.out.1;have hxlt:=aB HP9.out;by_cases hlt:j<l.length
     ·obtain⟨v,hv⟩:∃v,l[j]?=some v:=⟨_,List.getElem?_eq_getElem hlt⟩
      obtain⟨nm,hnm⟩:∃nm,p.1.ns[j]?=some nm:=⟨_,List.getElem?_eq_getElem (by have:=HLn.out;omega)⟩
      obtain⟨ga,oa,e1,hga,hma,hca⟩:=Sl.cell HA.out (by omega);have e1:aa=some ⟨ga,oa,none⟩:=e1;subst e1;have a0:=(hkeep ga (oa+j*3) hga hma).trans (hca (j*3) _ (aX cZ 3 (fun _=>rfl) l j 0 v hv (by decide)));have a1:=(hkeep ga (oa+(j*3+1)) hga hma).trans (hca (j*3+1) _ (aX cZ 3 (fun _=>rfl) l j 1 v hv (by decide)));have a2:=(hkeep ga (oa+(j*3+2)) hga hma).trans (hca (j*3+2) _ (aX cZ 3 (fun _=>rfl) l j 2 v hv (by decide)));rw [<- Nat.add_assoc] at a1 a2;unfold byV at a0 a2;have HVe:Hid (bT v=.agg #[.string ⟨(vK v).toArray⟩,.int .i64 (vN v),.string ⟨(vS v).toArray⟩]):=rfl;have hjlt:(j:Int)<(l.length:Int):=by omega
      have HTk:Hid (l.take (j+1)=l.take j++[v]):=show l.take (j+1)=_ from by rw [List.take_add_one,hv];rfl
      have HNk:Hid (Pl.numb (p.1.ns.take (j+1)) W.places.length=Pl.numb (p.1.ns.take j) W.places.length++[(nm,W.places.length+j)]):=show Pl.numb (p.1.ns.take (j+1)) W.places.length=_ from by rw [List.take_add_one,hnm];have hjl2:=HLn.out;have:=vM (p.1.ns.take j) nm W.places.length;rw [List.length_take,Nat.min_eq_left (by omega)] at this;exact this
      have HNm:Hid (p.1.ns[j]?=some nm):=hnm;have hjt:(l.take j).length=j:=by rw [List.length_take];omega
      have HJt:Hid ((l.take j).length=j):=hjt;clear hca hv hnm hjt hjn hkeep;generalize vK v=kk at *;generalize vN v=nn at *;generalize vS v=ss at *;go_wp2_with fail;rw [<- HVe.out];refine(rW w wr wb W pv _ cv lv gv qs cs (l.take j) lvj v HJ.out (by rw [HJt.out];omega)).mono ?_;rintro e w5 ⟨rfl,lvk,hJ5,hsz5,hk5,hat5⟩;rw [HJt.out];have HJ5:Hid (PlJ w w5 wb W pv (.slice (some ⟨gq,0,none⟩) W.procs.length capq) cv lv gv qs cs (l.take (j+1)) lvk):=show PlJ _ _ _ _ _ _ _ _ _ _ _ _ _ from by rw [HTk.out];exact hJ5
      have HRw5:Hid (w5.ownsRow w.heap.size TB 2 u10 (p.2.length+j) ((p.2++Pl.numb (p.1.ns.take j) W.places.length).flatMap iM)):=xO HRw.out (fun k cur h1 h2=>hk5 k (aB h2) (fun e=>by subst e;exact absurd (aK h2 HJ.out.blk).2 (by decide)) (fun e=>by obtain⟨c,hc⟩:=aN HJ.out.row k e;exact absurd (aK h2 hc).2 (by decide)));have HP5:Hid (w5.heap[w.heap.size+1]?=some (.cells #[.pointer (some ⟨b,0,none⟩),.slice ea p.2.length ecap] TPc (0,0))):=(hk5 _ hxlt (by omega) (fun e=>by obtain⟨c,hc⟩:=aN HJ.out.row _ e;exact absurd (aK HP9.out hc).2 (by decide))).trans HP9.out;have hkeep5:∀k off:Nat,k<w.heap.size->¬M k->w5.cell? ⟨k,off,none⟩=w.cell? ⟨k,off,none⟩:=fun k off hk hm=>World.cell?_of_block (HJ5.out.done.2.block k hk (by rw [<- HM.out];exact hm)).1;have y0:w5.cell? ⟨w.heap.size+1,0,none⟩=some (.pointer (some ⟨b,0,none⟩)):=aA HP5.out 0;have y4:w5.cell? ⟨b,4,none⟩=some (.slice na p.1.ns.length ncap):=(hkeep5 b 4 hbl nMb).trans (aA HHb.out 4);obtain⟨gn,cn2,e2,_,⟨curn,hgn⟩,hcn⟩:=row1 HNr.out (by have:=HLn.out;omega);simp only [Value.slice.injEq] at e2;obtain⟨rfl,_,rfl⟩:=e2;have yn:w5.cell? ⟨gn,j,none⟩=some (.string ⟨nm.toArray⟩):=(hkeep5 gn j (aB hgn) (HW.out.notM hgn (by decide))).trans (hcn j (byV nm) (by rw [List.getElem?_map,HNm.out];rfl));have hjn2:(j:Int)<(p.1.ns.length:Int):=by have:=HLn.out;omega
      have hpn:p.2.length+j<=200000000:=by omega
      have hs5:w.heap.size<=w5.heap.size:=by omega
      have hx5:=aB HP5.out;clear hJ5 hk5 hat5 hkeep5 hcn a0 a1 a2 x0;go_wp2_with (first | (at_builtin;refine wpList_append_lies _ rfl _ _ 94 rfl w.heap.size 249 i0 _ 2 24 underlying94 hi0 hz0 hz1 hz2 rfl (by decide) u10 (p.2.length+j) ((p.2++Pl.numb (p.1.ns.take j) W.places.length).flatMap iM) rfl (HRw5.out.alloc _) ⟨w5.heap.size,0,none⟩ 1 1 (iM (nm,W.places.length+j)) rfl rfl (World.news_of_block (cs:=#[byV nm,.int .i64 (W.places.length+j:Nat)]) (t:=249) (fr:=(0,0)) (heap_alloc_new w5 _)) (by simp [Value.oneCell',iM,byV]) (by decide) (by unfold maxLen;omega) (by omega) (by simp;omega) (w5.heap.size+1) (by simp) ?_;intro g3 cap3 w3 hown3 hgrow3 hat3 hlt3))
      go_roundw
      case rel =>
       refine⟨j+1,lvk,by omega,by go_num,?_,?_,?_⟩
       ·refine(HJ5.out.later ((Below.refl _ _).alloc (Nat.le_refl _) _)).grown hgrow3 (fun k hk=>⟨(HRw5.out.lt k hk).1,fun e=>?_⟩);obtain⟨c1,hc1⟩:=aN HJ5.out.row k e;obtain⟨c2,hc2⟩:=aN HRw5.out k hk;exact absurd (aK hc1 hc2).2 (by decide)
       ·have this:World.ownsRow w3 w.heap.size TB 2 _ _ _:=hown3;show World.ownsRow _ _ TB _ _ _ _;rw [HNk.out,<-List.append_assoc,List.flatMap_append,<-Nat.add_assoc];simpa using this
       ·rw [hgrow3.block _ (by simp;omega) (fun e=>?_)]
        ·exact(Below.heap_alloc w5 _ _ hx5).trans HP5.out
        ·obtain⟨c2,hc2⟩:=aN HRw5.out _ e.symm;exact absurd (aK hc2 HP5.out).2 (by decide)
      case measure=>simp [intOf];omega
     ·have hjl:j=l.length:=by omega
      subst hjl;obtain⟨hRW,hSt⟩:=HJ.out.done;rw [List.take_length] at hRW;have hnt:p.1.ns.take l.length=p.1.ns:=List.take_of_length_le (by have:=HLn.out;omega);have hRow:=HRw.out;rw [hnt] at hRow;have HRW:Hid (RW wr wb (Mof wb [pv,.slice (some ⟨gq,0,none⟩) W.procs.length capq,cv,lvj,gv]) {W with places:=W.places++l}):=⟨_,_,_,_,_,_,_,rfl,hRW⟩
      have HSt:Hid (Stp M w (Mof wb [pv,.slice (some ⟨gq,0,none⟩) W.procs.length capq,cv,lvj,gv]) wr):=show Stp _ _ _ _ from by rw [HM.out];exact hSt
      have HEnv:Hid (EnvAt (Mof wb [pv,.slice (some ⟨gq,0,none⟩) W.procs.length capq,cv,lvj,gv]) wr u10 (p.2++Pl.numb p.1.ns W.places.length)):=by
       have hl:(p.2++Pl.numb p.1.ns W.places.length).length=p.2.length+l.length:=by rw [List.length_append,qX,HLn.out]
       show Sl _ _ _ _ _ _ _;rw [hl];obtain⟨s0,ao,cap,e1,e2,e3⟩:=gT ((fun h=>⟨h.1,h.2.imp id (fun⟨g,cap,cur,a,_,c⟩=>⟨g,cap,cur,a,Nat.zero_le _,c⟩)⟩:_->wr.ownsRow 0 TB 2 u10 (p.2.length+l.length) ((p.2++Pl.numb p.1.ns W.places.length).flatMap iM)) hRow);refine⟨s0,ao,cap,e1,e2,e3.imp id ?_⟩;rintro⟨g,off,cur,rfl,_,hg,hc⟩;refine⟨g,off,cur,rfl,?_,hg,hc⟩;have hgl:=(hRow.lt g (by rw [e1];rfl)).1;refine jM HWs.out (sl:=lvj) (by intro x hx;simp only [List.mem_cons,List.not_mem_nil,or_false] at hx ⊢;rcases hx with rfl | rfl | rfl | rfl | rfl<;>simp) hgl (fun e=>?_);obtain⟨c1,hc1⟩:=aN HJ.out.row g e;exact absurd (aK hc1 hg).2 (by decide)
      obtain⟨u0,hu0⟩:∃u0,us=[u0]:=by
       have:=HKr.out.1;rw [hk1] at this
       match us,this with
       | [a],_=>exact⟨a,rfl⟩
      subst hu0
      obtain⟨body,hbody⟩:∃body,p.1.ks=[body]:=by
       match h:p.1.ks,hk1 with
       | [a],_=>exact⟨a,rfl⟩
      have hKr:=HKr.out;rw [hk1] at hKr;obtain⟨gk,ck,rfl,hck,⟨curk,hgk⟩,hcellk⟩:=row1 hKr (by decide);have z3:wr.cell? ⟨b,3,none⟩=some (.slice (some ⟨gk,0,none⟩) 1 ck):=(hkeep b 3 hbl nMb).trans (aA HHb.out 3);have zk:wr.cell? ⟨gk,0,none⟩=some u0:=(hkeep gk 0 (aB hgk) (HW.out.notM hgk (by decide))).trans (hcellk 0 u0 rfl);have HBody:Hid (RF wr u0 body):=(HKs.out 0 u0 body rfl (by rw [hbody];rfl)).keep (HSt.out.keepI HW.out.mty);have HE2:Hid (applyB W S (.proc i) l=⟨0,{W with places:=W.places++l},S.work (some body) (p.2++Pl.numb p.1.ns W.places.length)⟩):=show _=_ from by rw [HE.out,hbody];rfl
      have HS2:Hid _:=HS.out.stp HW.out HSt.out;obtain⟨ob,rfl⟩:∃ob,u0=.pointer (some ⟨ob,0,none⟩):=by obtain⟨ob,_,_,_,_,_,_,_,e,_⟩:=HBody.out.open_;exact⟨ob,e⟩
      clear hRW hSt hRow hnt hKr hcellk hgk hbody hkeep hjn HRw;go_wp2_with fail;refine(cP _ wb xb _ _ S body _ _ _ HRW.out HS2.out HBody.out HEnv.out).mono ?_;rintro e w6 ⟨rfl,h1,h2,h3⟩;have H1:Hid _:=h1;have H2:Hid _:=h2;have H3:Hid _:=h3;clear h1 h2 h3;go_wp2_with fail;go_ret;rw [HE2.out];exact⟨rfl,_,H1.out,(HSt.out.mx xb).trans H3.out,fun _=>H2.out⟩
  ·rw [if_pos (by simpa using hlen)] at HE;have hne:((l.length:Int)!=(p.1.ns.length:Int))=true:=by simp;omega
   go_wp2_with fail
   go_ret;rw [HE.out];exact⟨rfl,M,HW.out.later HBc.out,(Stp.of_below HBc.out).mx xb,fun h=>by simp at h⟩
theorem xV(hI:ItoaSaid)(w:World)(wb xb:Nat)(M:Nat->Prop)(W:PW)(S:PS)(s:Byt)(av:Value)(l:List PV)(hs:s∈prims)(hcc:s≠callccW)(hW:RW w wb M W)(hS:RS M w xb S)(hG:Gs w (Mx M xb))(ha:GotAt M w av l)(hl:∀v∈l,WfV W v)(hP:WfP W)(hll:l.length<=1000) :Calls prog 175 #[.pointer (some ⟨wb,0,none⟩),.pointer (some ⟨xb,0,none⟩),.string ⟨s.toArray⟩,av] w fun e w'=>Res M w wb xb (applyB W S (.prim s) l) e w':=by
 simp only [prims,List.mem_cons,List.not_mem_nil,or_false] at hs;rcases hs with h | h | h | h | h | h | h | h | h | h | h | h | h
 ·exact cN hI w wb xb M W S s av l (.inl h) hW hS hG ha hl hP hll
 ·exact cN hI w wb xb M W S s av l (.inr (.inl h)) hW hS hG ha hl hP hll
 ·exact cN hI w wb xb M W S s av l (.inr (.inr (.inl h))) hW hS hG ha hl hP hll
 ·exact cN hI w wb xb M W S s av l (.inr (.inr (.inr (.inl h)))) hW hS hG ha hl hP hll
 ·exact cN hI w wb xb M W S s av l (.inr (.inr (.inr (.inr (.inl h))))) hW hS hG ha hl hP hll
 ·exact rV hI w wb xb M W S s av l h hW hS hG ha hl hP hll
 ·exact gQ hI w wb xb M W S s av l (.inl h) hW hS hG ha hl hP hll
 ·exact gQ hI w wb xb M W S s av l (.inr (.inl h)) hW hS hG ha hl hP hll
 ·exact cN hI w wb xb M W S s av l (.inr (.inr (.inr (.inr (.inr (.inl h)))))) hW hS hG ha hl hP hll
 ·exact cN hI w wb xb M W S s av l (.inr (.inr (.inr (.inr (.inr (.inr h)))))) hW hS hG ha hl hP hll
 ·exact rU hI w wb xb M W S s av l h hW hS hG ha hl hP hll
 ·exact gQ hI w wb xb M W S s av l (.inr (.inr h)) hW hS hG ha hl hP hll
 ·exact absurd h hcc
theorem Sl.typ{M:Nat->Prop}{g off cap m:Nat}(h:Sl M w T sz (.slice (some ⟨g,off,none⟩) n cap) m xs)(hm:0<m):∃cur,w.heap[g]?=some (.cells cur T (0,0)):=by
 obtain⟨_,ao,cap',e,_,h3⟩:=h;simp only [Value.slice.injEq] at e;obtain⟨rfl,rfl,rfl⟩:=e;rcases h3 with h3 | ⟨g',off',cur,e2,_,hg,_⟩
 ·omega
 ·simp only [Option.some.injEq,Addr.mk.injEq,and_true] at e2;obtain⟨rfl,rfl⟩:=e2;exact⟨cur,hg⟩
theorem FrAt.ptr{M:Nat->Prop}{fs:List PFr}(h:FrAt M w v fs):∃po,v=.pointer po:=by
 cases fs with
 | nil=>exact⟨none,h⟩
 | cons f r=>obtain⟨b,_,_,_,_,e,_⟩:=h;exact⟨_,e⟩
theorem cn_at{wb:Nat}{W:PW}{pv qv cv lv gv:Value}{qs cs:List Value}(h:RWs w wb W pv qv cv lv gv qs cs){i:Nat}{fs:List PFr}(hp:W.conts[i]?=some fs):∃g cap u,cv=.slice (some ⟨g,0,none⟩) W.conts.length cap/\W.conts.length<=cap/\g<w.heap.size/\w.cell? ⟨g,i,none⟩=some u/\FrAt (Mof wb [pv,qv,cv,lv,gv]) w u fs:=by
 have hk:=(List.getElem?_eq_some_iff.1 hp).1;obtain⟨u,e1,h1⟩:=h.cns i fs hp;rcases h.cn.2 with⟨_,h0⟩ | ⟨g,cap,cur,e,_,hg,hc,_⟩
 ·omega
 ·have hcell:=h.cn.cells (g:=g) (by rw [e];rfl);refine⟨g,cap,u,e,hc,aB hg,?_,h1⟩;have:=hcell _ _ e1;rwa [Addr.add_lit,Nat.zero_add] at this
theorem otherB(W:PW)(S:PS)(f:PV)(l:List PV)(h1:∀i,f≠.proc i)(h2:∀i,f≠.cont i)(h3:∀s,f≠.prim s):applyB W S f l=⟨9,W,S⟩/\(vK f==s5)=false/\(vK f==pJ)=false/\(vK f==pH)=false:=by
 cases f with
 | proc i=>exact absurd rfl (h1 i)
 | cont i=>exact absurd rfl (h2 i)
 | prim s=>exact absurd rfl (h3 s)
 | _=>exact⟨rfl,rfl,rfl,rfl⟩
theorem contB(W:PW)(S:PS)(i:Nat)(fs:List PFr)(a:PV)(h:W.conts[i]?=some fs):applyB W S (.cont i) [a]=⟨0,W,{S with frames:=fs}.give a⟩:=by show(⟨0,W,{S with frames:=W.conts[i]?.getD []}.give a⟩:SR)=_;rw [h];rfl
theorem contN(W:PW)(S:PS)(i:Nat)(l:List PV)(h:¬l.length=1):applyB W S (.cont i) l=⟨10,W,S⟩:=by
 match l,h with
 | [],_=>rfl
 | _::_::_,_=>rfl
theorem rZ(hI:ItoaSaid)(w:World)(wb xb:Nat)(M:Nat->Prop)(W:PW)(S:PS)(f:PV)(av:Value)(l:List PV)(hcc:f≠.prim callccW)(hW:RW w wb M W)(hS:RS M w xb S)(hG:Gs w (Mx M xb))(ha:GotAt M w av l)(hf:WfV W f)(hl:∀v∈l,WfV W v)(hP:WfP W)(hll:l.length<=1000)(h1:W.places.length<=100000000)(h2:∀p∈W.procs,p.2.length<=100000000) :Calls prog 131 #[.pointer (some ⟨wb,0,none⟩),.pointer (some ⟨xb,0,none⟩),bT f,av] w fun e w'=>Res M w wb xb (applyB W S f l) e w':=by
 by_cases hp:∃i,f=.proc i
 ·obtain⟨i,rfl⟩:=hp;exact xU w wb xb M W S i av l hW hS ha hf hll h1 h2
 have HBx:Hid (∀o:Obj,Below w.heap.size w (w.alloc o)):=fun o=>(Below.refl _ _).alloc (Nat.le_refl _) _;by_cases hs:∃s,f=.prim s
 ·obtain⟨s,rfl⟩:=hs;have HC:Hid (∀o:Obj,Calls prog 175 #[.pointer (some ⟨wb,0,none⟩),.pointer (some ⟨xb,0,none⟩),.string ⟨s.toArray⟩,av] (w.alloc o) fun e w'=>Res M (w.alloc o) wb xb (applyB W S (.prim s) l) e w'):=fun o =>xV hI (w.alloc o) wb xb M W S s av l hf (fun e=>hcc (by rw [e])) (hW.later (HBx.out o)) (hS.later hW (HBx.out o)) (hG.below (HBx.out o)) (ha.stp (Stp.of_below (HBx.out o))) hl hP hll;obtain⟨aa,acap,rfl,hac⟩:=ha.shape;clear hcc hW hS hG ha hf hl hP h2 hp;generalize applyB W S (.prim s) l=r at *;unfold bT byV vK vN vS pH;go_enter func131,ntmps131;go_wp2_with fail;refine(HC.out _).mono ?_;rintro e w1 hr;have HR:Hid _:=Res.pre (HBx.out _) hr;obtain⟨rfl,_⟩:=hr;go_wp2_with fail;go_ret;exact⟨rfl,HR.out.2⟩
 by_cases hc:∃i,f=.cont i
 ·obtain⟨i,rfl⟩:=hc;have HW:Hid (RW w wb M W):=hW;have HS:Hid (RS M w xb S):=hS;by_cases hl1:l.length=1
  ·obtain⟨a,rfl⟩:=jK hl1;obtain⟨fs,hfs⟩:∃fs,W.conts[i]?=some fs:=⟨_,List.getElem?_eq_getElem hf⟩
   have HE:Hid _:=contB W S i fs a hfs;obtain⟨pv,qv,cv,lv,gv,qs,cs,hM,hws⟩:=hW;obtain⟨gc,capc,u,rfl,hcc2,hgc,du,hFr⟩:=cn_at hws hfs;rw [<- hM] at hFr;obtain⟨po,rfl⟩:=hFr.ptr;have HFr:Hid _:=hFr;obtain⟨g,off,cap,rfl,hcap,hg,_,k0,k1,k2⟩:=aAD ha;obtain⟨fv,ev,c0,c1,c2,frv,hxb,s1,s2,s3⟩:=hS;have hxl:=aB hxb;have hwb:=aB hws.blk;have q2:w.cell? ⟨wb,2,none⟩=some (.slice (some ⟨gc,0,none⟩) W.conts.length capc):=aA hws.blk 2;have hil:(i:Int)<(W.conts.length:Int):=by have:i<W.conts.length:=hf;omega
   have qA:∀(o:Obj)(k off:Nat),k<w.heap.size->(w.alloc o).cell? ⟨k,off,none⟩=w.cell? ⟨k,off,none⟩:=fun o k off hk=>((Below.refl _ _).alloc (Nat.le_refl _) o).cell (p:=⟨k,off,none⟩) hk;have x5:w.cell? ⟨xb,5,none⟩=some frv:=aA hxb 5;have fA:∀(o:Obj),(w.alloc o).frozen? ⟨xb,5,none⟩=false:=fun o=>aF ((Below.heap_alloc w o xb hxl).trans hxb) 5;have HX2:Hid ((w.setCell ⟨xb,5,none⟩ (.pointer po)).heap[xb]?=some (.cells #[fv,ev,c0,c1,c2,.pointer po] TSt (0,0))):=aD hxb 5 _;have HG1:Hid (w.grownBy (w.setCell ⟨xb,5,none⟩ (.pointer po)) (some xb)):=aE _ _ _ _;have HS2:Hid (RS M (w.setCell ⟨xb,5,none⟩ (.pointer po)) xb {S with frames:=fs}):=RS.grown (S:={S with frames:=fs}) HG1.out hxb HX2.out s1 s2 HFr.out rfl;have HW2:Hid (RW (w.setCell ⟨xb,5,none⟩ (.pointer po)) wb M W):=HW.out.grown HG1.out hxb eC;have HSt2:Hid (Stp (Mx M xb) w (Mx M xb) (w.setCell ⟨xb,5,none⟩ (.pointer po))):=bV HG1.out;have HBy:Hid (∀o:Obj,Below (w.setCell ⟨xb,5,none⟩ (.pointer po)).heap.size (w.setCell ⟨xb,5,none⟩ (.pointer po)) ((w.setCell ⟨xb,5,none⟩ (.pointer po)).alloc o).drew):=fun o=>cM _ o
   have kA:∀(o:Obj)(j:Nat),((w.setCell ⟨xb,5,none⟩ (.pointer po)).alloc o).cell? ⟨g,j,none⟩=w.cell? ⟨g,j,none⟩:=fun o j=>by
    have hne:g≠xb:=by rintro rfl;obtain⟨cur,hg6⟩:=Sl.typ ha Nat.zero_lt_one;exact absurd (aK hg6 hxb).2 (by decide)
    apply World.cell?_of_block;rw [Below.heap_alloc _ _ _ (by simp [World.setCell];exact hg),Below.heap_setCell _ _ _ _ (fun e=>hne (by simpa using e))]
   clear hcc hG hf hl hP h1 h2 hp hs hl1 hfs hM hws hFr ha hxb s1 s2 s3;have HNM:Hid (bT a=.agg #[.string ⟨(vK a).toArray⟩,.int .i64 (vN a),.string ⟨(vS a).toArray⟩]):=rfl;generalize vK a=ka at *;generalize vN a=na at *;generalize vS a=sa at *;unfold bT byV vK vN vS pJ;go_enter func131,ntmps131;go_wp2_with fail
   go_region
   all_goals
    go_wp2_with fail
    rw [<- HNM.out];refine(aT _ wb xb M W _ a (HW2.out.later (HBy.out _)) (HS2.out.later HW2.out (HBy.out _))).mono ?_;rintro e w6 ⟨rfl,h1,h2,h3⟩;have H1:Hid _:=h1;have H2:Hid _:=h2;have H3:Hid _:=h3;clear h1 h2 h3;go_wp2_with fail;go_ret;rw [HE.out];exact⟨rfl,M,H1.out,(HSt2.out.trans ((Stp.of_below (HBy.out _)).mx xb)).trans H3.out,fun _=>H2.out⟩
  ·have HE:Hid _:=contN W S i l hl1;obtain⟨aa,acap,rfl,hac⟩:=ha.shape;have hne:((l.length:Int)!=1)=true:=by simp;omega
   clear hcc hW hS hG ha hf hl hP h2 hp hs hl1;unfold bT byV vK vN vS pJ;go_enter func131,ntmps131;go_wp2_with fail;go_ret;rw [HE.out];exact⟨rfl,M,HW.out.later (HBx.out _),(Stp.of_below (HBx.out _)).mx xb,fun h=>by simp at h⟩
 ·obtain⟨hE,b1,b2,b3⟩:=otherB W S f l (fun i e=>hp ⟨i,e⟩) (fun i e=>hc ⟨i,e⟩) (fun i e=>hs ⟨i,e⟩);have HE:Hid _:=hE;have HW:Hid (RW w wb M W):=hW;obtain⟨aa,acap,rfl,hac⟩:=ha.shape;clear hcc hW hS hG ha hf hl hP h2 hp hs hc hE;unfold bT byV;unfold s5 at b1;unfold pJ at b2;unfold pH at b3;generalize vK f=kf at *;generalize vN f=nf at *;generalize vS f=sf at *;go_enter func131,ntmps131;go_wp2_with fail;go_ret;rw [HE.out];exact⟨rfl,M,HW.out.later (HBx.out _),(Stp.of_below (HBx.out _)).mx xb,fun h=>by simp at h⟩
end
end Go.Proofs.YtkgbdddkcjpgfaaGreatDoor
