import Derived.Test.YtkgbdddkcjpgfaaGreatDoorC19
import Derived.Test.YtkgbdddkcjpgfaaGreatDoorC28
import Derived.Test.YtkgbdddkcjpgfaaGreatDoorC03
import Derived.Test.YtkgbdddkcjpgfaaGreatDoorC49
import Derived.Test.YtkgbdddkcjpgfaaGreatDoorC41
import Derived.Test.YtkgbdddkcjpgfaaGreatDoorC44
namespace Go.Proofs.YtkgbdddkcjpgfaaGreatDoor
set_option maxHeartbeats 1000000
set_option maxRecDepth 100000
open Go.Proofs.Tryz
section
open Go.RowKit
def sgNew:Sg:=⟨0,0,[],[],[],[],[]⟩
theorem rdr_new{w w1:World}(tq tc:TypeId)(ht:Tab w1 (w.heap.size+1) w.heap.size []):Rdr (fun k=>k=w.heap.size) w1 ⟨tq,tc,[],[],[],[],[]⟩ (w.heap.size+1) w.heap.size [] :=⟨ht,⟨rfl,List.nodup_nil,fun i b p h=>by simp at h⟩,rfl,by omega,fun k hk=>by rw [hk];exact ht.lt.2⟩
theorem p_check(s:ByteArray)(w:World)(hge:GE w)(hgt:GT w):Calls prog 15 #[.string s] w fun e w'=>e=.returned (.int .i64 (Pl.check s.data.toList:Int))/\Below w.heap.size w w':=by
 have HT:Hid (GT w):=hgt;have HE:Hid (GE w):=hge;clear hge hgt;go_enter func15,ntmps15;go_wp2_with fail;refine(sE w).mono ?_;rintro e w0 ⟨rfl,hB0,hT0⟩;have HB0:Hid (Below _ _ _):=hB0;have HR0:Hid (Rdr _ _ sgNew _ _ _):=rdr_new _ _ hT0;clear hB0 hT0;go_wp2_with fail;refine(aDC s _ w0 _ _ _ _ HR0.out (HE.out.below HB0.out) (by show 0+300<=NsMax;unfold NsMax;omega)).mono ?_;rintro e w1 ⟨v,ev,rfl,hg,t,_,_,hcase⟩;have HB:Hid (Below w.heap.size w w1):=kL HB0.out hg (Nat.le_refl _) (Nat.le_refl _);clear hg;rcases hcase with⟨c,es,hc,hc0,hc5,rfl,_⟩ | ⟨f,hc,_,rfl,_⟩
 ·have HC:Hid _:=hc;have HT1:Hid (GT w1):=HT.out.below HB.out;clear hc;have hcode:Hid _:=aCA es c w1 HT1.out;unfold aY at hcode ⊢;go_wp2_with fail;refine(Calls.mono hcode.out) ?_;rintro e w2 ⟨rfl,hB2⟩;have HB2:Hid (Below w.heap.size w w2):=HB.out.trans (hB2.mono HB.out.size);clear hB2 hcode;go_wp2_with fail;go_ret;exact⟨by rw [HC.out];rfl,HB2.out⟩
 ·have HC:Hid _:=hc;clear hc;go_wp2_with fail;refine(sL w1).mono ?_;rintro e w2 ⟨rfl,hB2⟩;have HB2:Hid (Below w.heap.size w w2):=HB.out.trans (hB2.mono HB.out.size);clear hB2;go_wp2_with fail;go_ret;exact⟨by rw [HC.out];rfl,HB2.out⟩
end
open Pl (PW PF Byt newW)
section
open Go.RowKit Go.Lib Go.Maps
variable {mb tb:Nat} {w0 w1 w2:World} {fv:Value}
theorem aBS{bs:Byt}(hc:Pl.check bs=0):∃f,Pl.readF bs=some f:=by
 unfold Pl.check at hc;unfold Pl.readF;split at hc
 ·cases hc
 cases ht:Pl.toks bs with
 | none=>rw [ht] at hc;cases hc
 | some l =>
  rw [ht] at hc;dsimp only at hc ⊢;split at hc
  ·cases hc
  cases hp:Pl.pd l.length l with
  | none=>rw [hp] at hc;cases hc
  | some p =>
   rw [hp] at hc;dsimp only at hc ⊢;split at hc
   ·cases hc
   split at hc
   ·cases hc
   split at hc
   ·cases hc
   split at hc
   ·rename_i h;rw [<- iQ,Option.isSome_iff_exists] at h;exact h
   ·cases hc
def sgE:Sg:=⟨330,522,[],[],[],[],[]⟩
def MbE(mb:Nat)(k:Nat):Prop:=k=mb
theorem aB7(h:Tab w1 tb mb []):Rdr (MbE mb) w1 sgE tb mb [] :=⟨h,⟨rfl,List.nodup_nil,fun i b p hb=>by cases hb⟩,rfl,fun e=>h.ne e.symm,fun k hk=>by rw [show k=mb from hk];exact h.lt.2⟩
structure RdB(w0:World)(tb mb:Nat)(f:PF)(t:Sg)(fv:Value)(w2:World):Prop where
 below:Below w0.heap.size w0 w2
 ns:t.ns.length<=300
 qc:t.qb=[]/\t.cb=[]
 rdr:Rdr (MbE mb) w2 t tb mb (Pl.settle f 0).2
 fm:RFm (MbE mb) w2 t fv (Pl.settle f 0).1
theorem aBD(h:Below w0.heap.size w0 w1)(hg:w1.grownBy w2 (some mb))(hm:w0.heap.size<=mb):Below w0.heap.size w0 w2:=h.grown hg h.size (fun j hj=>by obtain rfl:=Option.some.inj hj;exact hm)
theorem aC3(hB:Below w0.heap.size w0 w1)(hT:Tab w1 tb mb [])(hm:w0.heap.size<=mb)(hge:GE w0)(x:ByteArray)(n:Int)(hov:Pl.over n=false)(hc:Pl.check x.data.toList=0)(f:PF)(hf:Pl.readF x.data.toList=some f) :Calls prog 48 #[.agg #[.string x,.int .i64 n],.pointer (some ⟨tb,0,none⟩)] w1 fun e w'=>∃fv t,e=.returned (.tuple #[fv,.nilIface])/\Hid (RdB w0 tb mb f t fv w'):=by
 have hge1:GE w1:=by obtain⟨v,k1,k2⟩:=hge;exact⟨v,(hB.cell (World.block_lt_of_cell? _ _ k1)).trans k1,k2⟩
 refine(aB0 x n _ w1 sgE tb mb [] (aB7 hT) hge1 (by unfold NsMax;decide)).mono (fun e w' hh=>?_);obtain⟨v,ev,rfl,⟨h1,_⟩ | ⟨_,hg,t,hu,hl,⟨c,es,h1,h2,_⟩ | ⟨f1,_,h2,rfl,h4,h5⟩⟩⟩:=hh
 ·rw [hov] at h1;cases h1
 ·omega
 ·obtain rfl:f=f1:=by rw [hf] at h2;exact Option.some.inj h2
  obtain⟨⟨a,b,rfl⟩,_⟩:=hu;exact⟨v,_,rfl,aBD hB hg hm,by simpa [sgE] using hl,⟨rfl,rfl⟩,h4,h5⟩
theorem aC4(hB:Below w0.heap.size w0 w1)(hT:Tab w1 tb mb [])(hm:w0.heap.size<=mb)(hge:GE w0)(x:ByteArray)(n:Int)(c:Nat)(hc:(Pl.over n=true/\c=6)\/(Pl.over n=false/\Pl.check x.data.toList=c/\c≠0)) :Calls prog 48 #[.agg #[.string x,.int .i64 n],.pointer (some ⟨tb,0,none⟩)] w1 fun e w'=>∃v es,e=.returned (.tuple #[v,aY es (c:Int)])/\Hid (Below w0.heap.size w0 w'):=by
 have hge1:GE w1:=by obtain⟨v,k1,k2⟩:=hge;exact⟨v,(hB.cell (World.block_lt_of_cell? _ _ k1)).trans k1,k2⟩
 refine(aB0 x n _ w1 sgE tb mb [] (aB7 hT) hge1 (by unfold NsMax;decide)).mono (fun e w' hh=>?_);obtain⟨v,ev,rfl,⟨h1,⟨es,rfl⟩,h3⟩ | ⟨h0,hg,t,hu,hl,⟨c',es,h1,h2,_,rfl,_⟩ | ⟨f1,h1,_⟩⟩⟩:=hh
 ·rcases hc with⟨_,rfl⟩ | ⟨h2,_⟩
  ·exact⟨v,es,rfl,hB.trans (h3.mono hB.size)⟩
  ·rw [h1] at h2;cases h2
 ·rcases hc with⟨h3,_⟩ | ⟨_,h3,_⟩
  ·rw [h0] at h3;cases h3
  ·obtain rfl:c=c':=by omega
   exact⟨v,es,rfl,aBD hB hg hm⟩
 ·rcases hc with⟨h3,_⟩ | ⟨_,h3,h4⟩
  ·rw [h0] at h3;cases h3
  ·omega
theorem tr_new{f:PF}{t:Sg}(h:RdB w0 tb mb f t fv w2)(hgs:Gs w0 (fun _=>False))(hp:Prm w0) :Calls prog 45 #[.pointer (some ⟨tb,0,none⟩)] w2 fun e w'=>∃w3,e=.returned (.pointer (some ⟨w3.heap.size,0,none⟩))/\Hid (w'=w3.alloc (xM w2.heap.size)/\GQ w2 tb mb w2.heap.size t.ns 13 w3) :=
 nD w2 tb mb t.ns (Nat.le_trans h.ns (by decide)) (by
  obtain⟨D,_,hD⟩:=h.rdr.tab.map
  exact hD.nodup) h.rdr.tab (hp.stp hgs (Stp.of_below h.below)) (Nat.le_trans hgs.size h.below.size)
structure RnB(w0:World)(tb mb sb gb:Nat)(W:PW)(f:PF)(fv:Value)(M:Nat->Prop)(s:Sg)(w5:World):Prop where
 wd:Wd M w5 s tb mb sb gb (Pl.beganW W f)
 fm:RFm M w5 s fv (Pl.settle f W.pairs.length).1
 stp:Stp (fun _=>False) w0 M w5
theorem tr_run{w3:World}{f:PF}{t:Sg}(h:RdB w0 tb mb f t fv w2)(hgs:Gs w0 (fun _=>False))(hp:Prm w0)(hgt:GT w0)(hge:GE w0)(hm:w0.heap.size<=mb)(hQ:GQ w2 tb mb w2.heap.size t.ns 13 w3)(v:Value)(ins:List (ByteArray×Int))(hS:ScrIn w0 v ins)(hl:ins.length<=b5) :Calls prog 44 #[.iface 73 (.pointer (some ⟨w3.heap.size,0,none⟩)),v,.pointer (some ⟨tb,0,none⟩)] (w3.alloc (xM w2.heap.size)) fun e w'=>∃rv M s,e=.returned rv/\Hid (RnB w0 tb mb w3.heap.size w2.heap.size (Pl.session newW (ins.map inP)).1 f fv M s w'):=by
 obtain⟨k1,k2⟩:=new_wd h.below hgs hp hgt hge hm (fun e=>h.rdr.mtb e) h.rdr.tab.lt.1 h.rdr.tab.lt.2 hQ;have hN1:=aB3 t.ns 13;have hN2:=aBB t.ns 13;unfold sgN at k1;have hs2:Stp (MbE mb) w2 (fun k=>k=mb\/k=w2.heap.size) (w3.alloc (xM w2.heap.size)):=by obtain⟨_,_,q3,q4,q5,q6,q7,_⟩:=hQ;refine⟨q5,q6,q7,by simp;omega,fun k hk hn=>⟨(Below.heap_alloc _ _ _ (by omega)).trans (q3 k hk hn),fun e=>e.elim hn (fun e=>by omega)⟩⟩
 clear hQ;generalize nsI t.ns 13=N at *;obtain⟨k3,k4⟩:=aBY hS k2 (fun _ h=>h);refine(p_runS _ _ (sgA N) _ _ _ _ v ins (fun M w s t m W b n q1 q2 q3 q4 q5=>zJ M w s _ _ _ _ t m W b n q1 q2 q3 q4 q5) k1 (Nat.le_trans hN2 (by have:=h.ns;omega)) k3 k4 hl).mono (fun e w' hh=>?_)
 ·obtain⟨rv,M',s',e1,hR,_,_⟩:=hh;have hw:=hR.wd;rw [List.take_length] at hw;have hs5:Stp (MbE mb) w2 M' w':=hs2.trans hR.stp
  have hpb:∀b∈t.pb,b∉s'.pb:=fun b hb hb'=>by
   obtain⟨i,hi⟩:=List.getElem?_of_mem hb;have hil:=(List.getElem?_eq_some_iff.1 hi).1;obtain⟨_,x,y,hx,_⟩:=h.rdr.pairs.at_ i b _ hi (List.getElem?_eq_getElem (by rw [<- h.rdr.pairs.len];exact hil));have hbl:=aB hx;rcases hR.le.2 b hb' with hq | hq
   ·cases hq
   ·have:=hs2.size;omega
  obtain⟨z1,z2⟩:=hw.late h.qc (h.rdr.pairs.stp hs5) hpb;have hsh:=Pl.settle_sh (Pl.session newW (ins.map inP)).1.pairs.length f 0;rw [Nat.zero_add] at hsh;refine⟨rv,M',s'.addPbs t.pb,e1,⟨?_,?_,k2.trans hR.stp⟩⟩
  ·have:=z1.out0 [];unfold Pl.beganW;rw [hsh];exact this
  ·rw [hsh];exact(h.fm.go hs5 (Sg.Le.refl _)).sh h.qc z2 (hN1.trans hR.le.1.ns)
theorem tr_fin{w5:World}{sb gb:Nat}{ins:List (ByteArray×Int)}{f:PF}{M:Nat->Prop}{s:Sg}(h:RnB w0 tb mb sb gb (Pl.session newW (ins.map inP)).1 f fv M s w5)(x:ByteArray)(n:Int)(hl:ins.length<=b5)(hov:Pl.over n=false)(hc:Pl.check x.data.toList=0)(hf:Pl.readF x.data.toList=some f) :Calls prog 49 #[.pointer (some ⟨sb,0,none⟩),fv,.int .i64 n] w5 fun e w'=>∃lv,e=.returned lv/\Hid (Below w0.heap.size w0 w'/\LnAt w' lv (Pl.traceR (Pl.session newW (ins.map inP)).1 x.data.toList n).2):=by
 obtain⟨t,hww,hsm⟩:=ses_ww ins (Nat.le_refl _);rw [List.take_length] at hww hsm;obtain⟨hI,_,_⟩:=aDN (i:=(x.data.toList,n)) hww hsm (aC5 (Nat.le_refl _) hl) f hov hc hf;have hE:(Pl.traceR (Pl.session newW (ins.map inP)).1 x.data.toList n).2=Pl.trace n.toNat (Pl.beganW (Pl.session newW (ins.map inP)).1 f) (Pl.beganS (Pl.session newW (ins.map inP)).1 f):=by unfold Pl.traceR;rw [if_neg (by simp [hov]),if_neg (by simp [hc]),hf]
 rw [hE];have hnn:0<=n/\n<=1000000:=by unfold Pl.over at hov;simp at hov;omega
 obtain⟨k,rfl⟩:∃k:Nat,n=(k:Int):=⟨n.toNat,by omega⟩
 simp only [Int.toNat_natCast] at hI ⊢;refine(aCJ M w5 s tb mb sb gb k _ _ fv h.wd rfl h.fm hI (by omega)).mono (fun e w' hh=>?_);obtain⟨lv,M',e1,e2,e3⟩:=hh;have hs:=h.stp.trans e2;exact⟨lv,e1,⟨hs.os,hs.tape,hs.output,hs.size,fun k hk=>(hs.block k hk (fun h=>h)).1⟩,e3⟩
theorem aD1{w:World}(h:GT w)(hB:Below w.heap.size w w1):GT w1:=(hB.cell (World.block_lt_of_cell? _ _ h)).trans h
theorem p_trace(w:World)(v:Value)(ins:List (ByteArray×Int))(x:ByteArray)(n:Int)(hS:ScrIn w v ins)(hl:ins.length<=b5)(hgz:8<=w.heap.size)(htab:Lib.TabIs prog w oS .u64 Lib.pow10Tab)(hp:Prm w)(hgt:GT w)(hge:GE w) :Calls prog 23 #[v,.string x,.int .i64 n] w fun e w'=>∃lv,e=.returned (.tuple #[lv,.int .i64 ((Pl.traceR (Pl.session newW (ins.map inP)).1 x.data.toList n).1:Int)])/\Below w.heap.size w w'/\LnAt w' lv (Pl.traceR (Pl.session newW (ins.map inP)).1 x.data.toList n).2:=by
 have hgs:Gs w (fun _=>False):=⟨hgz,fun _ _ h=>h,htab⟩
 have HT:Hid (Calls prog 41 #[] w fun e w'=>e=.returned (.pointer (some ⟨w.heap.size+1,0,none⟩))/\Hid (Below w.heap.size w w'/\Tab w' (w.heap.size+1) w.heap.size [])):=sE w
 have hno:∀c:Nat,((Pl.over n=true/\c=6)\/(Pl.over n=false/\Pl.check x.data.toList=c/\c≠0))->Pl.traceR (Pl.session newW (ins.map inP)).1 x.data.toList n=(c,[])->Calls prog 23 #[v,.string x,.int .i64 n] w fun e w'=>∃lv,e=.returned (.tuple #[lv,.int .i64 ((Pl.traceR (Pl.session newW (ins.map inP)).1 x.data.toList n).1:Int)])/\Below w.heap.size w w'/\LnAt w' lv (Pl.traceR (Pl.session newW (ins.map inP)).1 x.data.toList n).2:=fun c hc hE=>by
  rw [hE];have HRd:Hid (∀w1,Below w.heap.size w w1/\Tab w1 (w.heap.size+1) w.heap.size []->Calls prog 48 #[.agg #[.string x,.int .i64 n],.pointer (some ⟨w.heap.size+1,0,none⟩)] w1 fun e w'=>∃v es,e=.returned (.tuple #[v,aY es (c:Int)])/\Hid (Below w.heap.size w w')):=fun w1 ⟨h1,h2⟩=>aC4 h1 h2 (Nat.le_refl _) hge x n c hc;have HCo:Hid (∀es w1,Below w.heap.size w w1->Calls prog 42 #[aY es (c:Int)] w1 fun e w'=>e=.returned (.int .i64 (c:Int))/\Hid (Below w.heap.size w w')):=fun es w1 hB=>(aCA es c w1 (aD1 hgt hB)).mono (fun e w' ⟨h1,h2⟩=>⟨h1,hB.trans (h2.mono hB.size)⟩);obtain⟨ao,cap,rfl,_,_⟩:=hS;clear hgz htab hp hgt hge hgs hl hc hE;unfold aY at HRd HCo;go_enter func23,ntmps23
  go_wp2_with (first
   | (go_at_call 41;refine Calls.mono HT.out ?_;rintro e w1 ⟨rfl,HQ1⟩)
   | (go_at_call 48;refine Calls.mono (HRd.out _ HQ1.out) ?_;rintro e w2 ⟨fv,es,rfl,HQ2⟩)
   | (go_at_call 42;refine Calls.mono (HCo.out _ _ HQ2.out) ?_;rintro e w3 ⟨rfl,HQ3⟩))
  go_ret2;exact⟨_,rfl,HQ3.out,none,0,rfl,Nat.le_refl _,fun k x hk=>by cases hk⟩
 by_cases hov:Pl.over n=true
 ·exact hno 6 (.inl ⟨hov,rfl⟩) (by unfold Pl.traceR;rw [if_pos hov])
 have hov2:Pl.over n=false:=by simpa using hov
 by_cases hc:Pl.check x.data.toList=0
 ·obtain⟨f,hf⟩:=aBS hc;have hE:(Pl.traceR (Pl.session newW (ins.map inP)).1 x.data.toList n).1=0:=by unfold Pl.traceR;rw [if_neg hov,if_neg (by simp [hc]),hf]
  rw [hE];have HRd:Hid (∀w1,Below w.heap.size w w1/\Tab w1 (w.heap.size+1) w.heap.size []->Calls prog 48 #[.agg #[.string x,.int .i64 n],.pointer (some ⟨w.heap.size+1,0,none⟩)] w1 fun e w'=>∃fv t,e=.returned (.tuple #[fv,.nilIface])/\Hid (RdB w (w.heap.size+1) w.heap.size f t fv w')):=fun w1 ⟨h1,h2⟩=>aC3 h1 h2 (Nat.le_refl _) hge x n hov2 hc f hf;have HN:Hid (∀w2 t fv,RdB w (w.heap.size+1) w.heap.size f t fv w2->Calls prog 45 #[.pointer (some ⟨w.heap.size+1,0,none⟩)] w2 fun e w'=>∃w3,e=.returned (.pointer (some ⟨w3.heap.size,0,none⟩))/\Hid (w'=w3.alloc (xM w2.heap.size)/\GQ w2 (w.heap.size+1) w.heap.size w2.heap.size t.ns 13 w3)):=fun w2 t fv h=>tr_new h hgs hp;have HR:Hid (∀w2 w3 w4 t fv,RdB w (w.heap.size+1) w.heap.size f t fv w2->w4=w3.alloc (xM w2.heap.size)/\GQ w2 (w.heap.size+1) w.heap.size w2.heap.size t.ns 13 w3->Calls prog 44 #[.iface 73 (.pointer (some ⟨w3.heap.size,0,none⟩)),v,.pointer (some ⟨w.heap.size+1,0,none⟩)] w4 fun e w'=>∃rv M s,e=.returned rv/\Hid (RnB w (w.heap.size+1) w.heap.size w3.heap.size w2.heap.size (Pl.session newW (ins.map inP)).1 f fv M s w')):=fun w2 w3 w4 t fv h ⟨h3,h4⟩=>by subst h3;exact tr_run h hgs hp hgt hge (Nat.le_refl _) h4 v ins hS hl
  have HF:Hid (∀w2 w3 w5 fv M s,RnB w (w.heap.size+1) w.heap.size w3 w2 (Pl.session newW (ins.map inP)).1 f fv M s w5->Calls prog 49 #[.pointer (some ⟨w3,0,none⟩),fv,.int .i64 n] w5 fun e w'=>∃lv,e=.returned lv/\Hid (Below w.heap.size w w'/\LnAt w' lv (Pl.traceR (Pl.session newW (ins.map inP)).1 x.data.toList n).2)):=fun w2 w3 w5 fv M s h=>tr_fin h x n hl hov2 hc hf;have HI:Hid (∀w2 t fv,RdB w (w.heap.size+1) w.heap.size f t fv w2->∃T y,fv=.iface T y):=fun w2 t fv h=>h.fm.iface;obtain⟨ao,cap,rfl,_,_⟩:=hS;clear hgz htab hp hgt hge hgs hl hov hov2 hc hf hno hE;generalize (Pl.traceR (Pl.session newW (ins.map inP)).1 x.data.toList n).2=T2 at *;generalize (Pl.session newW (ins.map inP)).1=W2 at *;go_enter func23,ntmps23
  go_wp2_with (first
   | (go_at_call 41;refine Calls.mono HT.out ?_;rintro e w1 ⟨rfl,HQ1⟩)
   | (go_at_call 48;refine Calls.mono (HRd.out _ HQ1.out) ?_;rintro e w2 ⟨fv,t,rfl,HQ2⟩;obtain⟨Tf,xf,rfl⟩:=HI.out _ _ _ HQ2.out)
   | (go_at_call 45;refine Calls.mono (HN.out _ _ _ HQ2.out) ?_;rintro e w4 ⟨w3,rfl,HQ4⟩)
   | (go_at_call 44;refine Calls.mono (HR.out _ _ _ _ _ HQ2.out HQ4.out) ?_;rintro e w5 ⟨rv,M,s,rfl,HQ5⟩)
   | (go_at_call 49;refine Calls.mono (HF.out _ _ _ _ _ _ HQ5.out) ?_;rintro e w6 ⟨lv,rfl,HQ6⟩))
  go_ret2;exact⟨lv,rfl,HQ6.out.1,HQ6.out.2⟩
 ·exact hno _ (.inr ⟨hov2,rfl,hc⟩) (by unfold Pl.traceR;rw [if_neg hov,if_pos hc])
end
end Go.Proofs.YtkgbdddkcjpgfaaGreatDoor
