import Derived.Test.YtkgbdddkcjpgfaaGreatDoorC03
import Derived.Test.YtkgbdddkcjpgfaaGreatDoorC11
import Derived.Test.YtkgbdddkcjpgfaaGreatDoorC05
namespace Go.Proofs.YtkgbdddkcjpgfaaGreatDoor
set_option maxHeartbeats 4000000
set_option maxRecDepth 100000
open Go.Proofs.Tryz
open Pl (PV Byt tsz kwB isName)
section
open Go.RowKit
variable {w:World} {ks:List Nat} {k:Nat}
theorem aX{α:Type}(f:α->List Value)(sz:Nat)(hf:∀a,(f a).length=sz)(l:List α)(i j:Nat)(a:α)(hi:l[i]?=some a)(hj:j<sz):(l.flatMap f)[i*sz+j]?=(f a)[j]? := by
 induction l generalizing i with
 | nil=>simp at hi
 | cons x l ih =>
  simp only [List.flatMap_cons]
  cases i with
  | zero =>simp only [List.getElem?_cons_zero,Option.some.injEq] at hi;subst hi;rw [List.getElem?_append_left (by rw [hf];omega)];simp
  | succ i =>rw [List.getElem?_append_right (by rw [hf,Nat.add_mul];omega),hf];rw [show(i+1)*sz+j-sz=i*sz+j from by rw [Nat.add_mul];omega];exact ih i (by simpa using hi)
theorem Sl.cell{M:Nat->Prop}{T:TypeId}{sz:Nat}{ao:Option Addr}{n cap:Nat}{xs:List Value}(h:Sl M w T sz (.slice ao n cap) n xs)(hn:0<n):∃g off,ao=some ⟨g,off,none⟩/\g<w.heap.size/\¬M g/\∀(i:Nat)(u:Value),xs[i]?=some u->w.cell? ⟨g,off+i,none⟩=some u:=by
 obtain⟨_,ao',cap',e,_,h3⟩:=h;simp only [Value.slice.injEq,true_and] at e;obtain⟨rfl,rfl⟩:=e;rcases h3 with h3 | ⟨g,off,cur,rfl,hm,hg,hc⟩
 ·omega
 ·exact⟨g,off,rfl,aB hg,hm,fun i u hu=>(aA hg _).trans (hc i u hu)⟩
theorem Tryz.infoNm:(prog.info? 214).map (fun i=>(i.zero,i.size,i.bytes))=some (some (.agg #[.string ByteArray.empty,.int .i64 0]),2,24):=by kernel_rfl
theorem nQ{nm:List Byt}{i:Nat}{t:Byt}(h1:nm[i]?=some t)(h2:ks[i]?=some k):(d7 nm ks)[i*2]?=some (.string ⟨t.toArray⟩)/\(d7 nm ks)[i*2+1]?=some (.int .i64 (k:Int)):=by
 have hz:(List.zip nm ks)[i]?=some (t,k):=by rw [List.getElem?_zip_eq_some];exact⟨h1,h2⟩
 exact⟨by rw [show i*2=i*2+0 from rfl];exact aX (fun p:Byt×Nat=>gU p.1 p.2) 2 (fun _=>rfl) _ i 0 _ hz (by decide),aX (fun p:Byt×Nat=>gU p.1 p.2) 2 (fun _=>rfl) _ i 1 _ hz (by decide)⟩
theorem sU{nm:List Byt}(h:ks.length=nm.length)(t:Byt)(k:Nat):d7 (nm++[t]) (ks++[k])=d7 nm ks++gU t k:=by unfold d7;rw [List.zip_append h.symm];simp
theorem iJ{base:Nat}{v:Value}{nm:List Byt}(h:w.ownsRow base TNam 2 v k (d7 nm ks))(hn:nm.length=k) :∃ao cap,v=.slice ao k cap/\k<=cap/\∀(i:Nat)(t:Byt)(n:Nat),nm[i]?=some t->ks[i]?=some n->∃g,ao=some ⟨g,0,none⟩/\g<w.heap.size/\w.cell? ⟨g,i*2,none⟩=some (.string ⟨t.toArray⟩)/\w.cell? ⟨g,i*2+1,none⟩=some (.int .i64 (n:Int)):=by
 rcases h.2 with⟨hv,h0⟩ | ⟨g,cap,cur,hv,_,hg,hc,_⟩
 ·refine⟨none,0,by rw [h0];exact hv,by omega,fun i t n hi=>?_⟩;have:=(List.getElem?_eq_some_iff.1 hi).1;omega
 ·refine⟨some ⟨g,0,none⟩,cap,hv,hc,fun i t n hi hj=>⟨g,rfl,aB hg,?_,?_⟩⟩
  ·have:=h.cells (g:=g) (by rw [hv];rfl) (i*2) _ (nQ hi hj).1
   rwa [Addr.add_lit,Nat.zero_add] at this
  ·have:=h.cells (g:=g) (by rw [hv];rfl) (i*2+1) _ (nQ hi hj).2
   rwa [Addr.add_lit,Nat.zero_add] at this
theorem nth_inj{α:Type}{l:List α}(h:l.Nodup){i j:Nat}{x:α}(hi:l[i]?=some x)(hj:l[j]?=some x):i=j:=by obtain⟨a,ha⟩:=List.getElem?_eq_some_iff.1 hi;obtain⟨b,hb⟩:=List.getElem?_eq_some_iff.1 hj;exact(List.getElem_inj (h₀:=a) (h₁:=b) h).1 (ha.trans hb.symm)
theorem p_index(ns:List Byt)(hns:ns.Nodup)(w:World)(base k:Nat)(sl:Value)(nm:List Byt)(ks:List Nat)(t:Byt)(kt:Nat)(hO:w.ownsRow base TNam 2 sl k (d7 nm ks))(hA:All2 (fun k t=>ns[k]?=some t) ks nm)(hkl:nm.length=k)(ht:ns[kt]?=some t)(hk:k<=1000) :Calls prog 219 #[sl,.agg #[.string ⟨t.toArray⟩,.int .i64 (kt:Int)]] w fun e w'=>Below w.heap.size w w'/\∃r:Int,e=.returned (.int .i64 r)/\((t∈nm/\0<=r)\/(t∉nm/\r=-1)):=by
 obtain⟨ao,cap,rfl,hcap,hcell⟩:=iJ hO hkl;have HC:Hid (∀(i:Nat)(t:Byt)(n:Nat),nm[i]?=some t->ks[i]?=some n->∃g,ao=some ⟨g,0,none⟩/\g<w.heap.size/\w.cell? ⟨g,i*2,none⟩=some (.string ⟨t.toArray⟩)/\w.cell? ⟨g,i*2+1,none⟩=some (.int .i64 (n:Int))):=hcell;have HNM:Hid (nm.length=k):=hkl;have HA:Hid (All2 (fun k t=>ns[k]?=some t) ks nm):=hA;have HT:Hid (ns[kt]?=some t):=ht;have HNs:Hid ns.Nodup:=hns;clear hcell hO hA hkl ht hns;go_enter func219,ntmps219;go_wp2_with fail
 go_loopw [8] (fun jj wq=>∃(j:Nat),j<=k/\jj=.int .i64 j/\Hid (Below (w.heap.size+1) (w.alloc (.cells #[.string ⟨t.toArray⟩,.int .i64 (kt:Int)] TNam)) wq)/\Hid (∀(i:Nat)(y:Byt),i<j->nm[i]?=some y->¬y=t)) (fun jj _=>k-(intOf jj).toNat)
 case atStart=>exact⟨0,Nat.zero_le _,rfl,Below.refl _ _,fun i y hi=>by omega⟩
 case round =>
  obtain⟨j,hj,rfl,HB,HJ⟩:=hrel;have HBw:Hid (Below w.heap.size w wr):=show Below _ _ _ from(bB w _).trans (HB.out.mono (by omega));have b0:wr.cell? ⟨w.heap.size,0,none⟩=some (.string ⟨t.toArray⟩):=by have:=(HB.out.block w.heap.size (by omega)).trans (heap_alloc_new w (.cells #[.string ⟨t.toArray⟩,.int .i64 (kt:Int)] TNam));exact aA this 0
  have b1:wr.cell? ⟨w.heap.size,1,none⟩=some (.int .i64 (kt:Int)):=by have:=(HB.out.block w.heap.size (by omega)).trans (heap_alloc_new w (.cells #[.string ⟨t.toArray⟩,.int .i64 (kt:Int)] TNam));exact aA this 1
  by_cases hjl:j<k
  ·obtain⟨y,hy⟩:∃y,nm[j]?=some y:=⟨nm[j]'(by have:=HNM.out;omega),List.getElem?_eq_getElem (by have:=HNM.out;omega)⟩
   obtain⟨ky,hky⟩:∃y,ks[j]?=some y:=⟨ks[j]'(by have:=HNM.out;have:=HA.out.1;omega),List.getElem?_eq_getElem (by have:=HNM.out;have:=HA.out.1;omega)⟩
   obtain⟨g2,rfl,hg2,hc2,hc3⟩:=HC.out j y ky hy hky;have hd2:wr.cell? ⟨g2,j*2,none⟩=some (.string ⟨y.toArray⟩):=(HBw.out.cell (p:=⟨g2,j*2,none⟩) hg2).trans hc2;have hd3:wr.cell? ⟨g2,j*2+1,none⟩=some (.int .i64 (ky:Int)):=(HBw.out.cell (p:=⟨g2,j*2+1,none⟩) hg2).trans hc3;have hjl2:(j:Int)<(k:Int):=by omega
   have hay:=HA.out.2 j ky y hky hy;by_cases hyx:t=y
   ·have HTm:Hid (t∈nm):=show t∈nm from by rw [hyx];exact List.mem_of_getElem? hy
    subst hyx;obtain rfl:=nth_inj HNs.out HT.out hay;clear hy hky hay hc2 hc3;go_wp2_with fail
    go_quiet (fail)
    go_wp2_with fail
    go_ret;exact⟨HBw.out.trans ((belN wr nq).mono HBw.out.size),_,rfl,.inl ⟨HTm.out,by omega⟩⟩
   ·have HJ2:Hid (∀(i:Nat)(z:Byt),i<j+1->nm[i]?=some z->¬z=t):=by
     intro i z hi hz;by_cases e:i=j
     ·subst e;rw [hy] at hz;obtain rfl:=Option.some.inj hz;exact fun e=>hyx e.symm
     ·exact HJ.out i z (by omega) hz
    have e1:(t==y)=false:=by simpa using hyx
    have e2:((kt:Int)==(ky:Int))=false:=by
     rw [beq_eq_false_iff_ne];intro e;have e:kt=ky:=by omega
     subst e;have:=HT.out.symm.trans hay;exact hyx (Option.some.inj this)
    clear hy hky hay hc2 hc3 hyx;go_wp2_with fail
    go_quiet (fail)
    go_wp2_with fail
    go_roundw
    case rel=>exact⟨j+1,by omega,by go_num,HB.out.trans ((belN wr nq).mono (by have:=HB.out.size;simpa using this)),HJ2⟩
    case measure=>simp [intOf];omega
  ·have HTm:Hid (t∉nm):=show t∉nm from fun hm=>by
    obtain⟨i,hi⟩:=List.mem_iff_getElem?.1 hm;exact HJ.out i t (by have:=(List.getElem?_eq_some_iff.1 hi).1;have:=HNM.out;omega) hi rfl
   go_wp2_with fail
   go_ret;exact⟨HBw.out,_,rfl,.inr ⟨HTm.out,rfl⟩⟩
theorem sK(ns:List Byt)(hns:ns.Nodup)(w:World)(base k:Nat)(sl:Value)(nm:List Byt)(ks:List Nat)(t:Byt)(kt:Nat)(hO:w.ownsRow base TNam 2 sl k (d7 nm ks))(hA:All2 (fun k t=>ns[k]?=some t) ks nm)(hkl:nm.length=k)(ht:ns[kt]?=some t)(hk:k<=1000) :Calls prog 207 #[sl,.agg #[.string ⟨t.toArray⟩,.int .i64 (kt:Int)]] w fun e w'=>Below w.heap.size w w'/\e=.returned (.bool (decide (t∈nm))):=by
 have HC:Hid (∀o:Obj,_):=fun o=>p_index ns hns (w.alloc o) base k sl nm ks t kt (hO.alloc o) hA hkl ht hk;obtain⟨ao,cap,rfl,hcap,_⟩:=iJ hO hkl;clear hO hA hkl ht hns;go_enter func207,ntmps207;go_wp2_with fail;refine Calls.mono (HC.out _) ?_;rintro e w' ⟨hB,r,rfl,⟨hm,hr⟩ | ⟨hm,rfl⟩⟩
 ·have HM:Hid (decide (t∈nm)=true):=by simpa [Hid] using hm
  have HB:Hid (Below w.heap.size w w'):=(bB w _).trans (hB.mono (bB w _).size);clear hm hB;go_wp2_with fail;go_ret;exact⟨HB.out,by rw [HM.out];rfl⟩
 ·have HM:Hid (decide (t∈nm)=false):=by simpa [Hid] using hm
  have HB:Hid (Below w.heap.size w w'):=(bB w _).trans (hB.mono (bB w _).size);clear hm hB;go_wp2_with fail;go_ret;exact⟨HB.out,by rw [HM.out];rfl⟩
def eJ:Tr->Bool
 | .agg l=>Pl.namesOk l
 | _=>false
def NsPost(M:Nat->Prop)(w:World)(s:Sg)(tb mb:Nat)(ps:List (PV×PV))(t:Tr)(z:Nat)(v ev:Value)(w':World):Prop :=
 w.grownBy w' (some mb)/\∃t',SgR s t'/\t'.pb=s.pb/\t'.ns.length<=s.ns.length+z/\Rdr M w' t' tb mb ps /\
  ((∃l,t=.agg l/\Pl.namesOk l=true/\ev=.nilIface/\NmRow M w' t' v (l.map Pl.strOf))\/(eJ t=false/\∃es,ev=aY es 5))
structure NsInv(w wr:World)(s t:Sg)(tb mb:Nat)(l:List Tr)(zs:List Nat)(k:Nat)(rv:Value)(nm:List Byt)(ks:List Nat):Prop where
 row:wr.ownsRow w.heap.size TNam 2 rv k (d7 nm ks)
 all:All2 (fun k x=>t.ns[k]?=some x) ks nm
 nl:nm.length=k
 gm:w.grownBy wr (some mb)
 tab:Tab wr tb mb t.ns
 sg:SgR s t
 pb:t.pb=s.pb
 zl:t.ns.length<=s.ns.length+(zs.take k).sum
 seen:Seen l k nm
theorem NsInv.start{M:Nat->Prop}{s:Sg}{tb mb:Nat}{ps:List (PV×PV)}(h:Rdr M w s tb mb ps)(l:List Tr)(zs:List Nat):NsInv w w s s tb mb l zs 0 (.slice none 0 0) [] [] :=⟨World.ownsRow_nil _ _ _ _,All2.nil _,rfl,aI (Below.refl _ _),h.tab,SgR.refl s,rfl,by simp,Seen.start l⟩
theorem NsInv.push{wr w2 w4 w5:World}{s t:Sg}{tb mb:Nat}{l:List Tr}{zs:List Nat}{z:Nat}{rv:Value}{nm:List Byt}{y:Byt}{o:Obj}{g' cap':Nat}
  (h:NsInv w wr s t tb mb l zs k rv nm ks) (hmb:mb<w.heap.size) (htb:tb<w.heap.size) (hx:l[k]?=some (.lit (.string y))) (hkw:kwB y=false) (hy:y∉nm) (hz:zs[k]?=some z) (hz1:z=1)
  (hg2:wr.grownBy w2 (some mb)) (ht2:Tab w2 tb mb (t.named y).ns) (hb4:Below w2.heap.size w2 w4)
  (hown:w5.ownsRow w.heap.size TNam 2 (.slice (some ⟨g',0,none⟩) (k+1) cap') (k+1) (d7 nm ks++[.string ⟨y.toArray⟩,.int .i64 ((t.ns.idxOf y:Nat):Int)])) (hg:(w4.alloc o).grownBy w5 rv.ownBlock) :
  NsInv w w5 s (t.named y) tb mb l zs (k+1) (.slice (some ⟨g',0,none⟩) (k+1) cap') (nm++[y]) (ks++[t.ns.idxOf y]):=by
 have hge:∀j,rv.ownBlock=some j->w.heap.size<=j:=fun j hj=>(h.row.lt j hj).1;have hbo:Below w4.heap.size w4 (w4.alloc o):=bB w4 o;have s1:=h.gm.size;have s2:=hg2.size;have s3:=hb4.size;have s4:=hbo.size;have low:∀j,j<w.heap.size->w5.heap[j]?=w2.heap[j]? := fun j hj=>by rw [hg.block j (by omega) (fun e=>by have:=hge j e.symm;omega),hbo.block j (by omega),hb4.block j (by omega)]
 refine⟨by rw [sU h.all.1];exact hown,(h.all.mono (fun k x hx=>bS (t.named_r y).le.ns hx)).snoc (d8 t.ns y),by simp [h.nl],?_,ht2.keep (low tb htb) (low mb hmb),h.sg.trans (t.named_r y),h.pb,?_,?_⟩
 ·refine⟨hg.os.trans (hbo.os.trans (hb4.os.trans (hg2.os.trans h.gm.os))),hg.tape.trans (hbo.tape.trans (hb4.tape.trans (hg2.tape.trans h.gm.tape))),hg.output.trans (hbo.output.trans (hb4.output.trans (hg2.output.trans h.gm.output))),by have:=hg.size;omega,fun j hj hn=>?_⟩;rw [low j hj,hg2.block j (by omega) hn,h.gm.block j hj hn]
 ·rw [Pl.sum_take zs k z hz,hz1];have:=h.zl;have:=dE t.ns y;simp only [Sg.named];omega
 ·exact h.seen.more hx (by simp [isName,hkw]) hy
theorem p_names(n:Nat)(M:Nat->Prop)(w:World)(s:Sg)(tb mb:Nat)(ps:List (PV×PV))(v:Value)(t:Tr)(hR:Rdr M w s tb mb ps)(h:RepP (fun k=>¬M k) n w v t)(hB:cL n t)(hz:s.ns.length+tsz n t<=NsMax) :Calls prog 190 #[rdV tb,v] w fun e w'=>∃v2 ev,e=.returned (.tuple #[v2,ev])/\NsPost M w s tb mb ps t (tsz n t) v2 ev w':=by
 obtain⟨i0,hi0,hz0,hz1,hz2⟩:=info_parts Tryz.infoNm;have as1:=Tryz.asNumber_List;have as2:=Tryz.asTruth_List;have as3:=Tryz.asName_List;have as4:=Tryz.asList_List;have HR:Hid (Rdr M w s tb mb ps):=hR;unfold rdV;by_cases hls:∃ts,t=.agg ts
 ·obtain⟨l,rfl⟩:=hls
  obtain⟨m,rfl⟩:∃m,n=m+1:=by
   cases n with
   | zero=>exact h.elim
   | succ m=>exact⟨m,rfl⟩
  obtain⟨sl,vs,rfl,hS,hA,hlen⟩:=h.drow;have HS:Hid (DRow M w sl vs):=hS;have HA:Hid (AllD M m w vs l):=hA;have HZ:Hid (s.ns.length+(l.map (tsz m)).sum<=NsMax):=hz;have HBg:Hid (∀x∈l,cL m x):=hB;have HB1:Hid (Below w.heap.size w (w.alloc (rdO tb))):=bB w _;have HR1:Hid (Rdr M (w.alloc (rdO tb)) s tb mb ps):=hR.below HB1.out;have HW1:Hid ((w.alloc (rdO tb)).heap[w.heap.size]?=some (rdO tb)):=heap_alloc_new _ _;have HMb:Hid (mb<w.heap.size):=hR.tab.lt.2;have hvl:=hA.1;obtain⟨_,ao,cap,rfl,hcap,_⟩:=hS;have HV:Hid (vs.length=l.length):=hvl;rw [hvl] at hcap ⊢;clear hA hz hB hR h hvl;go_enter func190,ntmps190;go_wp2_with fail
  go_loopw [8,23] (fun lv i wr=>∃(k:Nat)(t:Sg)(nm:List Byt)(ks:List Nat),k<=l.length/\i=.int .i64 k/\Hid (NsInv (w.alloc (rdO tb)) wr s t tb mb l (l.map (tsz m)) k lv nm ks)) (fun _ i _=>l.length-(intOf i).toNat)
  case atStart=>exact⟨0,s,[],[],Nat.zero_le _,rfl,NsInv.start HR1.out _ _⟩
  case round =>
   obtain⟨k,t,nm,ks,hk,rfl,HQ⟩:=hrel;by_cases hlt:k<l.length
   ·obtain⟨u,hu⟩:∃u,vs[k]?=some u:=⟨vs[k]'(by have:=HV.out;omega),List.getElem?_eq_getElem (by have:=HV.out;omega)⟩
    obtain⟨x,hx⟩:∃x,l[k]?=some x:=⟨l[k],List.getElem?_eq_getElem hlt⟩
    have hgw:w.grownBy wr (some mb):=aM (aI HB1.out) HQ.out.gm;have hS2:=(Sl.stp (eL hgw HR.out.mmb) HS.out).slOf;obtain⟨ao',cap',e',_,hcc⟩:=hS2;simp only [Value.slice.injEq] at e';obtain⟨rfl,_,rfl⟩:=e';obtain⟨g,off,rfl,hg,hc⟩:=hcc k u hu;have c0:wr.cell? ⟨w.heap.size,0,none⟩=some (.pointer (some ⟨tb,0,none⟩)):=by have:=(HQ.out.gm.block w.heap.size (by simp) (by have:=HMb.out;simp;omega)).trans HW1.out;exact aA this 0
    have hr:=HA.out.2 k u x hu hx;have HRp:Hid (RepP (fun k=>¬M k) m w u x):=hr;obtain⟨T,y0,rfl,hone⟩:=hr.iface;have HX:Hid (l[k]?=some x):=hx;have HRr:Hid (Rdr M wr t tb mb ps):=HR1.out.rebuild HQ.out.gm HQ.out.tab HQ.out.sg HQ.out.pb
    have HNx:Hid (∀y,x=.lit (.string y)->y.length<=1000/\t.ns.length+1<=NsMax/\tsz m x=1):=fun y hy=>by
     subst hy;have hzk:(l.map (tsz m))[k]?=some (tsz m (.lit (.string y))):=by rw [List.getElem?_map,hx];rfl
     have h1:=Pl.sum_take _ k _ hzk;have h2:=Pl.take_sum_le (l.map (tsz m)) (k+1);have h3:=HQ.out.zl;have h4:=HZ.out;have h5:=HBg.out _ (List.mem_of_getElem? hx)
     cases m with
     | zero=>exact hr.elim
     | succ m =>rw [show tsz (m+1) (.lit (.string y))=1 from rfl] at h1;exact⟨Nat.le_trans (show y.length<=300 from h5) (by decide),by omega,rfl⟩
    have hlt2:(k:Int)<(l.length:Int):=by omega
    clear hcc hu hx hr hone hlt hgw;go_wp2_with fail;refine(qP _ m w M wr t tb mb ps _ x HRp.out HRr.out (fun y hy=>⟨(HNx.out y hy).1,(HNx.out y hy).2.1⟩)).mono ?_;rintro e w2 ⟨hg2,⟨y,rfl,hkw,rfl,hrd⟩ | ⟨hno,hrd,es,rfl⟩⟩
    ·have hsz:w.heap.size+1<=w2.heap.size:=by have h1:=HQ.out.gm.size;have h2:=hg2.size;simp at h1;omega
     have HG2:Hid (wr.grownBy w2 (some mb)):=hg2;have HRd:Hid (Rdr M w2 (t.named y) tb mb ps):=hrd;have HKw:Hid (kwB y=false):=hkw
     have HO2:Hid (w2.ownsRow (w.alloc (rdO tb)).heap.size TNam 2 u8 k (d7 nm ks)):=HQ.out.row.kept hg2 (.inr (fun e=>by
      have:=(HQ.out.row.lt mb e).1;have:=HMb.out;simp at *
      omega))
     have HNd:Hid ((t.named y).ns.Nodup):=by obtain⟨D,_,hD⟩:=hrd.tab.map;exact hD.nodup
     have HAl:Hid (All2 (fun k x=>(t.named y).ns[k]?=some x) ks nm):=HQ.out.all.mono (fun k x hx=>bS (t.named_r y).le.ns hx);have HCt:Hid (∀o:Obj,Calls prog 207 #[u8,.agg #[.string ⟨y.toArray⟩,.int .i64 ((t.ns.idxOf y:Nat):Int)]] (w2.alloc o) fun e w'=>Below (w2.alloc o).heap.size (w2.alloc o) w'/\e=.returned (.bool (decide (y∈nm)))):=fun o =>sK _ HNd.out (w2.alloc o) _ k u8 nm ks y _ (HO2.out.alloc o) HAl.out HQ.out.nl (d8 t.ns y) (by omega);obtain⟨ao2,cap2,rfl,hcap2,_⟩:=iJ HO2.out HQ.out.nl;clear hg2 hrd hkw c0 hc;by_cases hm:y∈nm
     ·have HE:Hid (eJ (.agg l)=false):=by
       obtain⟨j,hj⟩:=List.mem_iff_getElem?.1 hm;exact HQ.out.seen.twice HX.out hj rfl
      have HT:Hid ((t.named y).ns.length<=s.ns.length+(l.map (tsz m)).sum):=show _<=_ from by
       have hzk:(l.map (tsz m))[k]?=some (tsz m (.lit (.string y))):=by rw [List.getElem?_map,HX.out];rfl
       have h1:=Pl.sum_take _ k _ hzk;have h2:=Pl.take_sum_le (l.map (tsz m)) (k+1);have h3:=HQ.out.zl;have h4:=(HNx.out y rfl).2.2;have h5:=dE t.ns y;simp only [Sg.named];omega
      have hd:decide (y∈nm)=true:=by simpa using hm
      clear hm;go_wp2_with fail;refine Calls.mono (HCt.out _) ?_;rintro e w4 ⟨hb4,rfl⟩;have HBb:Hid (Below w2.heap.size w2 w4):=(bB w2 _).trans (hb4.mono (bB w2 _).size);clear hb4;go_wp2_with (go_at_call 149;refine(aS _ _).mono ?_;rintro e w' ⟨rfl,rfl⟩);go_ret2;exact⟨_,_,rfl,aM (aM (aI HB1.out) HQ.out.gm) (aM HG2.out (aI HBb.out)),t.named y,HQ.out.sg.trans (t.named_r y),HQ.out.pb,HT.out,HRd.out.below HBb.out,.inr ⟨HE.out,_,rfl⟩⟩
     ·have HM:Hid (y∉nm):=hm;have hd:decide (y∈nm)=false:=by simpa using hm
      clear hm;go_wp2_with fail;refine Calls.mono (HCt.out _) ?_;rintro e w4 ⟨hb4,rfl⟩;have hbn:=(hb4.block w2.heap.size (by simp)).trans (heap_alloc_new w2 _);have z0:w4.cell? ⟨w2.heap.size,0,none⟩=some (.string ⟨y.toArray⟩):=aA hbn 0;have z1:w4.cell? ⟨w2.heap.size,1,none⟩=some (.int .i64 ((t.ns.idxOf y:Nat):Int)):=aA hbn 1;have HBb:Hid (Below w2.heap.size w2 w4):=(bB w2 _).trans (hb4.mono (bB w2 _).size)
      have HO4:Hid (w4.ownsRow (w.heap.size+1) TNam 2 (.slice ao2 k cap2) k (d7 nm ks)):=show World.ownsRow _ _ _ _ _ _ _ from by
       have:=HO2.out.kept (aQ none HBb.out) (by cases hv:Value.ownBlock (.slice ao2 k cap2)<;>simp)
       rwa [show(w.alloc (rdO tb)).heap.size=w.heap.size+1 from by simp] at this
      have hsz4:w.heap.size+1<=w4.heap.size:=Nat.le_trans hsz HBb.out.size;have HP:Hid (∀(w5:World)(o:Obj)(g' cap':Nat),w5.ownsRow (w.heap.size+1) TNam 2 (.slice (some ⟨g',0,none⟩) (k+1) cap') (k+1) (d7 nm ks++[.string ⟨y.toArray⟩,.int .i64 ((t.ns.idxOf y:Nat):Int)])->(w4.alloc o).grownBy w5 (Value.ownBlock (.slice ao2 k cap2))->NsInv (w.alloc (rdO tb)) w5 s (t.named y) tb mb l (l.map (tsz m)) (k+1) (.slice (some ⟨g',0,none⟩) (k+1) cap') (nm++[y]) (ks++[t.ns.idxOf y])):=fun w5 o g' cap' h1 h2 =>HQ.out.push HR1.out.tab.lt.2 HR1.out.tab.lt.1 HX.out HKw.out HM.out (by rw [List.getElem?_map,HX.out];rfl) (HNx.out y rfl).2.2 HG2.out HRd.out.tab HBb.out (by rw [show(w.alloc (rdO tb)).heap.size=w.heap.size+1 from by simp];exact h1) h2;clear hb4 hbn;go_wp2_with (first | (at_builtin;refine wpList_append_lies _ rfl _ _ 327 rfl (w.heap.size+1) 214 i0 (.agg #[.string ByteArray.empty,.int .i64 0]) 2 24 underlying327 hi0 hz0 hz1 hz2 rfl (by decide) _ k (d7 nm ks) rfl (HO4.out.alloc _) ⟨w4.heap.size,0,none⟩ 1 1 [.string ⟨y.toArray⟩,.int .i64 ((t.ns.idxOf y:Nat):Int)] rfl rfl (rH w4 (.string ⟨y.toArray⟩) (.int .i64 ((t.ns.idxOf y:Nat):Int)) 214) (fun x hx=>by simp at hx;rcases hx with rfl | rfl<;>rfl) (by decide) (by unfold maxLen;omega) (by omega) (by simp;omega) (w4.heap.size+1) (by simp) ?_;intro g' cap' w5 hown5 hgrow5 _ _))
      go_roundw
      case rel=>exact⟨k+1,_,_,_,by omega,by go_num,HP.out w5 _ g' cap' hown5 hgrow5⟩
      case measure=>simp [intOf];omega
    ·have HE:Hid (eJ (.agg l)=false):=Seen.bad HX.out hno;have HG2:Hid (wr.grownBy w2 (some mb)):=hg2;have HRd:Hid (Rdr M w2 t tb mb ps):=hrd;have HT:Hid (t.ns.length<=s.ns.length+(l.map (tsz m)).sum):=show _<=_ from by have h2:=Pl.take_sum_le (l.map (tsz m)) k;have h3:=HQ.out.zl;omega
     clear hno hg2 hrd c0 hc;unfold aY;go_wp2_with fail;go_ret2;exact⟨_,_,rfl,aM (aM (aI HB1.out) HQ.out.gm) (aM HG2.out (aI (bB w2 _))),t,HQ.out.sg,HQ.out.pb,HT.out,HRd.out.below (bB w2 _),.inr ⟨HE.out,es,rfl⟩⟩
   ·have HE:Hid (Pl.namesOk l=true):=HQ.out.seen.done (by omega);have hke:k=l.length:=by omega
    have HRd:Hid (Rdr M wr t tb mb ps):=HR1.out.rebuild HQ.out.gm HQ.out.tab HQ.out.sg HQ.out.pb;have hseen:nm=l.map Pl.strOf:=by have:=HQ.out.seen.1;rw [hke,List.take_length] at this;exact this
    have HNr:Hid (NmRow M wr t u8 (l.map Pl.strOf)):=show NmRow _ _ _ _ _ from by
     rw [<- hseen];refine⟨⟨ks,HQ.out.all,?_⟩,HQ.out.seen.2.2,by rw [HQ.out.nl];omega⟩;rw [HQ.out.nl];refine⟨HQ.out.row.1,?_⟩;rcases HQ.out.row.2 with⟨hv,h0'⟩ | ⟨g,cap,cur,hv,hge,hg,hc,_,_,ht⟩
     ·exact⟨none,0,by rw [h0'];exact hv,by omega,.inl h0'⟩
     ·refine⟨some ⟨g,0,none⟩,cap,hv,hc,.inr ⟨g,0,cur,rfl,fun x=>by have:=HR1.out.mlt g x;omega,hg,?_⟩⟩;intro i u hu;rw [Nat.zero_add];rw [<- ht,List.getElem?_take] at hu;split at hu
      ·simpa using hu
      ·cases hu
    have HT:Hid (t.ns.length<=s.ns.length+(l.map (tsz m)).sum):=show _<=_ from by have h2:=Pl.take_sum_le (l.map (tsz m)) k;have h3:=HQ.out.zl;omega
    obtain⟨ao2,cap2,rfl,hcap2,_⟩:=iJ HQ.out.row HQ.out.nl;clear hke hseen;go_wp2_with fail;go_ret2;exact⟨_,_,rfl,aM (aI HB1.out) HQ.out.gm,t,HQ.out.sg,HQ.out.pb,HT.out,HRd.out,.inl ⟨l,rfl,HE.out,rfl,HNr.out⟩⟩
 ·have HE:Hid (eJ t=false):=by
   show eJ t=false;unfold eJ;split
   ·exact absurd ⟨_,rfl⟩ hls
   ·rfl
  obtain⟨x,hx⟩:=h.no_list hls;clear h hls hR hz hB;rcases hx with rfl | rfl | rfl
  ·go_enter func190,ntmps190
   go_wp2_with (go_at_call 149;refine(aS _ _).mono ?_;rintro e w' ⟨rfl,rfl⟩)
   go_ret2;exact⟨_,_,rfl,aI (bB w _),s,SgR.refl _,rfl,Nat.le_add_right _ _,HR.out.below (bB w _),.inr ⟨HE.out,_,rfl⟩⟩
  ·go_enter func190,ntmps190
   go_wp2_with (go_at_call 149;refine(aS _ _).mono ?_;rintro e w' ⟨rfl,rfl⟩)
   go_ret2;exact⟨_,_,rfl,aI (bB w _),s,SgR.refl _,rfl,Nat.le_add_right _ _,HR.out.below (bB w _),.inr ⟨HE.out,_,rfl⟩⟩
  ·go_enter func190,ntmps190
   go_wp2_with (go_at_call 149;refine(aS _ _).mono ?_;rintro e w' ⟨rfl,rfl⟩)
   go_ret2;exact⟨_,_,rfl,aI (bB w _),s,SgR.refl _,rfl,Nat.le_add_right _ _,HR.out.below (bB w _),.inr ⟨HE.out,_,rfl⟩⟩
end
end Go.Proofs.YtkgbdddkcjpgfaaGreatDoor
