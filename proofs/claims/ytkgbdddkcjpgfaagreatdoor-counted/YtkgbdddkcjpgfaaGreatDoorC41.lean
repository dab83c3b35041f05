import Derived.Test.YtkgbdddkcjpgfaaGreatDoorC31
import Derived.Deep.MidRow
import Derived.Test.YtkgbdddkcjpgfaaGreatDoorC29
import Derived.Test.YtkgbdddkcjpgfaaGreatDoorC40
namespace Go.Proofs.YtkgbdddkcjpgfaaGreatDoor
set_option maxHeartbeats 4000000
set_option maxRecDepth 100000
open Go.Proofs.Tryz
open Pl (Byt Env arity prims plusW minusW timesW sameW lessW eqW consW cdrW carW nullW pairW displayW callccW newW)
section
open Go.RowKit Go.Lib Go.Maps
variable {w w0 w1:World} {tb mb k:Nat}
theorem RsI.out{M0 M:Nat->Prop}{wr:World}{s0 s:Sg}{sb gb g:Nat}{ins:List (ByteArray×Int)}(h:RsI M0 w0 s0 wr M s tb mb sb gb g ins ins.length):OutAt wr (.slice (some ⟨g,0,none⟩) ins.length ins.length) (Pl.session newW (ins.map inP)).2:=by
 obtain⟨cur,c1,_,c3⟩:=h.row;have hl:(Pl.session newW (ins.map inP)).2.length=ins.length:=by rw [Pl.session_len,List.length_map]
 rw [List.take_length] at c3;refine⟨some ⟨g,0,none⟩,ins.length,by rw [hl],by rw [hl];exact Nat.le_refl _,fun k o hk=>?_⟩;obtain⟨d1,d2,d3⟩:=c3 k o hk;exact⟨g,rfl,aB c1,(aA c1 _).trans d1,(aA c1 _).trans d2,(aA c1 _).trans d3⟩
theorem scr_in{v:Value}{ins:List (ByteArray×Int)}(h:ScrAt w v ins):ScrIn w v ins:=by obtain⟨ao,cap,e,hc,hk⟩:=h;refine⟨ao,cap,e,hc,fun k i hi=>?_⟩;obtain⟨g,h1,h2,h3,h4⟩:=hk k i hi;exact⟨g,0,h1,h2,by rw [Nat.zero_add];exact h3,by rw [Nat.zero_add];exact h4⟩
theorem aBY{M M1:Nat->Prop}{v:Value}{ins:List (ByteArray×Int)}(h:ScrIn w v ins)(hs:Stp M w M1 w1)(hM:∀k,¬M k):ScrIn w1 v ins/\(ins≠[]->∀g off n c,v=.slice (some ⟨g,off,none⟩) n c->¬M1 g):=by
 obtain⟨ao,cap,e,hc,hk⟩:=h;refine⟨⟨ao,cap,e,hc,fun k i hi=>?_⟩,fun hne g off n c hv=>?_⟩
 ·obtain⟨g,off,h1,h2,h3,h4⟩:=hk k i hi;have hb:=(hs.block g h2 (hM g)).1;exact⟨g,off,h1,Nat.lt_of_lt_of_le h2 hs.size,(World.cell?_of_block (w:=w) hb).trans h3,(World.cell?_of_block (w:=w) hb).trans h4⟩
 ·obtain⟨i,hi⟩:∃i,ins[0]?=some i:=by
   cases ins with
   | nil=>exact absurd rfl hne
   | cons a r=>exact⟨a,rfl⟩
  obtain⟨g',off',h1,h2,_⟩:=hk 0 i hi;rw [e,h1] at hv;simp only [Value.slice.injEq,Option.some.injEq,Addr.mk.injEq,and_true] at hv;obtain rfl:=hv.1.1;exact(hs.block g' h2 (hM g')).2
def b5:Nat:=5870000000000
theorem ses_ww(ins:List (ByteArray×Int))(hk:k<=ins.length):∃t,WW (Pl.session newW ((ins.take k).map inP)).1 t/\WSm (Pl.session newW ((ins.take k).map inP)).1 (13+1001000*k):=by have:=session_sm ((ins.take k).map inP) newW 13 13 newW_ok ⟨by decide,by decide,fun l hl=>by have e:Pl.newW.conts=[]:=rfl;rw [e] at hl;cases hl⟩;rw [List.length_map,List.length_take,Nat.min_eq_left hk] at this;exact this
theorem aC5{n:Nat}(hk:k<=n)(hn:n<=b5):13+1001000*k+1001000<=6500000000000000000:=by unfold b5 at hn;omega
theorem ns_fits{a n:Nat}(h:a<=313+300*k)(hk:k<=n)(hn:n<=b5):a+300<=NsMax:=by unfold NsMax;unfold b5 at hn;omega
theorem p_runS(M0:Nat->Prop)(w:World)(s0:Sg)(tb mb sb gb:Nat)(v:Value)(ins:List (ByteArray×Int))(hA:AnsSaid tb mb sb gb)(hW:Wd M0 w s0 tb mb sb gb newW)(hns:s0.ns.length<=313)(hS:ScrIn w v ins)(hMl:ins≠[]->∀g off n c,v=.slice (some ⟨g,off,none⟩) n c->¬M0 g)(hl:ins.length<=b5) :Calls prog 44 #[.iface 73 (.pointer (some ⟨sb,0,none⟩)),v,.pointer (some ⟨tb,0,none⟩)] w fun e w'=>∃rv M' s',e=.returned rv/\RsI M0 w s0 w' M' s' tb mb sb gb w.heap.size ins ins.length/\OutAt w' rv (Pl.session newW (ins.map inP)).2/\rv=.slice (some ⟨w.heap.size,0,none⟩) ins.length ins.length:=by
 obtain⟨i0,hi0,hz0,hz1,hz2⟩:=info_parts Tryz.infoOut;have HA:Hid (AnsSaid tb mb sb gb):=hA;have HW:Hid (Wd M0 w s0 tb mb sb gb newW/\s0.ns.length<=313):=⟨hW,hns⟩
 obtain⟨ao,cap,rfl,hcap,hcell⟩:=hS
 have HC:=(show Hid (∀(k:Nat)(i:ByteArray×Int),ins[k]?=some i->∃g off,ao=some ⟨g,off,none⟩/\g<w.heap.size/\¬M0 g/\w.cell? ⟨g,off+k*2,none⟩=some (.string i.1)/\w.cell? ⟨g,off+k*2+1,none⟩=some (.int .i64 i.2)) from fun k i hi=>by
  obtain⟨g,off,e,h1,h2,h3⟩:=hcell k i hi
  exact⟨g,off,e,h1,hMl (fun e0=>by rw [e0] at hi;cases hi) g off _ _ (by rw [e]),h2,h3⟩)
 have hlt0:¬((ins.length:Int)<0):=by omega
 have HL:Hid (ins.length<=b5):=hl;have hL:ins.length<=5870000000000:=hl;clear hA hW hcell hMl hns hl;go_enter func44,ntmps44;go_wp2_with (first | (at_make;refine wpList_make_full _ rfl _ _ 28 rfl w.heap.size 43 i0 (.agg #[.int .i64 0,.string ⟨#[]⟩,.string ⟨#[]⟩]) 3 underlying28 hi0 hz0 hz1 .i64 .i64 (ins.length:Int) (ins.length:Int) ins.length rfl rfl rfl rfl (by rw [hz2];omega) (by unfold maxLen;omega) (Nat.le_refl _) ?_;intro w1 hown1 hgrow1))
 have HI0:Hid (RsI M0 w s0 w1 M0 s0 tb mb sb gb w.heap.size ins 0):=by
  have hB1:Below w.heap.size w w1:=cS hgrow1;refine⟨HW.out.1.mv (Mv.below hB1),Stp.of_below hB1,HW.out.2,⟨Sg.Le.refl _,PbN.refl _ _⟩,fun hm=>Nat.lt_irrefl _ (HW.out.1.rdr.mlt _ hm),Nat.le_refl _,?_⟩;rcases hown1.2 with⟨hv,_⟩ | ⟨g,cap1,cur,hv,_,hg,_,_,hsz,_⟩
  ·cases hv
  ·simp only [Value.slice.injEq,Option.some.injEq,Addr.mk.injEq,true_and,and_true] at hv;obtain⟨e1,e2⟩:=hv;subst e1;subst e2;exact⟨cur,hg,hsz,fun j o hj=>by simp [Pl.session] at hj⟩
 clear hown1 hgrow1
 go_loopw [15] (fun i wr=>∃(k:Nat)(Mk:Nat->Prop)(sk:Sg),k<=ins.length/\i=.int .i64 (k:Int)/\Hid (RsI M0 w s0 wr Mk sk tb mb sb gb w.heap.size ins k)) (fun i _=>ins.length-(RowKit.intOf i).toNat)
 case atStart=>exact⟨0,M0,s0,Nat.zero_le _,rfl,HI0⟩
 case round =>
  obtain⟨k,Mk,sk,hk,rfl,HS⟩:=hrel;by_cases hlt:k<ins.length
  ·obtain⟨i,hi⟩:∃i,ins[k]?=some i:=⟨ins[k],List.getElem?_eq_getElem hlt⟩
   obtain⟨g,off,rfl,hg,hMg,hc0,hc1⟩:=HC.out k i hi;have hbg:=(HS.out.stp.block g hg hMg).1;have c0:wr.cell? ⟨g,off+k*2,none⟩=some (.string i.1):=(World.cell?_of_block (w:=w) hbg).trans hc0;have c1:wr.cell? ⟨g,off+k*2+1,none⟩=some (.int .i64 i.2):=(World.cell?_of_block (w:=w) hbg).trans hc1;have HX:Hid (ins[k]?=some i):=hi
   have HAn:=(show Hid (∀o:Obj,Calls prog 74 #[.iface 73 (.pointer (some ⟨sb,0,none⟩)),.agg #[.string i.1,.int .i64 i.2],.pointer (some ⟨tb,0,none⟩)] (wr.alloc o) fun e w'=>AnsP Mk (wr.alloc o) sk tb mb sb gb (Pl.answer (Pl.session newW ((ins.take k).map inP)).1 (inP i)) e w') from fun o=>by
    obtain⟨t,ht1,ht2⟩:=ses_ww ins hk
    exact HA.out Mk (wr.alloc o) sk t _ _ i.1 i.2 (HS.out.wd.mv (Mv.below ((Below.refl _ _).alloc (Nat.le_refl _) _))) ht1 ht2 (aC5 hk HL.out) (ns_fits HS.out.ns hk HL.out))
   have HN:Hid (∀(o:Obj)(w2:World)(M2:Nat->Prop)(s2:Sg),Stp Mk (wr.alloc o) M2 w2->s2.ns.length<=sk.ns.length+300->(Sg.Le sk s2/\PbN (wr.alloc o) sk s2)->Wd M2 w2 s2 tb mb sb gb (Pl.answer (Pl.session newW ((ins.take k).map inP)).1 (inP i)).1->RsI M0 w s0 (rowZ w2 w.heap.size (k*3) (Pl.answer (Pl.session newW ((ins.take k).map inP)).1 (inP i)).2) M2 s2 tb mb sb gb w.heap.size ins (k+1)):=fun o w2 M2 s2 h1 h2 hl h3=>HS.out.next HX.out HW.out.1.gs.size h1 h2 hl h3
   have HB:=(show Hid (∀(o:Obj)(w2:World)(M2:Nat->Prop),Stp Mk (wr.alloc o) M2 w2->∃cur,w2.heap[w.heap.size]?=some (.cells cur TOc (0,0))/\k*3+2<cur.size) from fun o w2 M2 h1=>by
    obtain⟨cur,d1,d2,_⟩:=HS.out.row;have hB:Below wr.heap.size wr (wr.alloc o):=(Below.refl _ _).alloc (Nat.le_refl _) _
    exact⟨cur,(((Stp.of_below (M:=Mk) hB).trans h1).block _ (aB d1) HS.out.ng).1.trans d1,by rw [d2];omega⟩)
   have hlt2:(k:Int)<(ins.length:Int):=by omega
   obtain⟨b,n⟩:=i;dsimp only at c0 c1 HAn;clear hi hc0 hc1 hbg HS HI0;go_wp2_with (go_at_call 74;refine(HAn.out _).mono ?_;rintro e w2 ⟨rfl,M2,s2,k1,kl,k3,k4⟩;obtain⟨cur,d1,d2⟩:=HB.out _ w2 M2 k1;obtain⟨x0,x1,x2,t0,u0,r1,r2⟩:=set3at d1 d2;have HNx:=(show Hid (RsI _ _ _ _ _ _ _ _ _ _ _ _ _) from HN.out _ w2 M2 s2 k1 k3 kl k4);clear k1 kl k3 k4 d1 d2 HN;generalize (Pl.answer (Pl.session newW ((ins.take k).map inP)).1 (inP (b,n))).2=po at *;unfold aggO)
   go_roundw
   case rel=>exact⟨k+1,M2,s2,by omega,by go_num,HNx⟩
   case measure=>simp [RowKit.intOf];omega
  ·obtain rfl:k=ins.length:=by omega
   have HO:=(show Hid (OutAt wr (.slice (some ⟨w.heap.size,0,none⟩) ins.length ins.length) (Pl.session newW (ins.map inP)).2/\RsI M0 w s0 wr Mk sk tb mb sb gb w.heap.size ins ins.length) from⟨HS.out.out,HS.out⟩)
   clear HS HI0;go_wp2_with fail;go_ret;exact⟨_,Mk,sk,rfl,HO.out.2,HO.out.1,rfl⟩
def oR:List Value:=[
 Value.string ⟨Pl.plusW.toArray⟩,Value.int .i64 ((arity plusW:Nat):Int),
 Value.string ⟨Pl.minusW.toArray⟩,Value.int .i64 ((arity minusW:Nat):Int),
 Value.string ⟨Pl.timesW.toArray⟩,Value.int .i64 ((arity timesW:Nat):Int),
 Value.string ⟨Pl.lessW.toArray⟩,Value.int .i64 ((arity lessW:Nat):Int),
 Value.string ⟨Pl.eqW.toArray⟩,Value.int .i64 ((arity eqW:Nat):Int),
 Value.string ⟨Pl.consW.toArray⟩,Value.int .i64 ((arity consW:Nat):Int),
 Value.string ⟨Pl.carW.toArray⟩,Value.int .i64 ((arity carW:Nat):Int),
 Value.string ⟨Pl.cdrW.toArray⟩,Value.int .i64 ((arity cdrW:Nat):Int),
 Value.string ⟨Pl.nullW.toArray⟩,Value.int .i64 ((arity nullW:Nat):Int),
 Value.string ⟨Pl.pairW.toArray⟩,Value.int .i64 ((arity pairW:Nat):Int),
 Value.string ⟨Pl.sameW.toArray⟩,Value.int .i64 ((arity sameW:Nat):Int),
 Value.string ⟨Pl.displayW.toArray⟩,Value.int .i64 ((arity displayW:Nat):Int)]
def uH:Value:=.agg oR.toArray
theorem yA(k:Nat)(nm:Byt)(hi:prims[k]?=some nm)(hk:k<12):oR[k*2]?=some (.string ⟨nm.toArray⟩)/\oR[k*2+1]?=some (.int .i64 ((arity nm:Nat):Int)):=by
 have hc:k=0\/k=1\/k=2\/k=3\/k=4\/k=5\/k=6\/k=7\/k=8\/k=9\/k=10\/k=11:=by omega
 rcases hc with rfl | rfl | rfl | rfl | rfl | rfl | rfl | rfl | rfl | rfl | rfl | rfl<;>(obtain rfl:=Option.some.inj hi;exact⟨rfl,rfl⟩)
theorem ix_prim(w:World)(k:Nat)(nm:Byt)(hi:prims[k]?=some nm)(hk:k<12):(Instr.index 245 uH (.int .i64 (k:Int))).run prog w=.ok (.agg #[.string ⟨nm.toArray⟩,.int .i64 ((arity nm:Nat):Int)]) w:=by
 have hc:k=0\/k=1\/k=2\/k=3\/k=4\/k=5\/k=6\/k=7\/k=8\/k=9\/k=10\/k=11:=by omega
 rcases hc with rfl | rfl | rfl | rfl | rfl | rfl | rfl | rfl | rfl | rfl | rfl | rfl<;>(obtain rfl:=Option.some.inj hi;exact(show _=_ from by kernel_rfl))
theorem m1:oR.length=24:=rfl
theorem r6(w:World)(hp:Prm w):w.rangeAt 1 0 oR:=by
 intro j v hj;have hjl:j<24:=by rw [<- m1];exact(List.getElem?_eq_some_iff.1 hj).1
 obtain⟨nm,hnm⟩:∃nm,prims[j / 2]?=some nm:=⟨_,List.getElem?_eq_getElem (show j / 2<Pl.prims.length from Nat.lt_trans (show j / 2<12 by omega) (by decide))⟩
 obtain⟨k1,k2⟩:=yA (j / 2) nm hnm (by omega);obtain⟨k3,k4⟩:=hp (j / 2) nm hnm (by omega);rw [Nat.zero_add];rcases Nat.mod_two_eq_zero_or_one j with e | e
 ·have ej:j / 2*2=j:=by omega
  rw [ej] at k1 k3;rw [k3,<-k1,hj]
 ·have ej:j / 2*2+1=j:=by omega
  rw [ej] at k2 k4;rw [k4,<-k2,hj]
theorem Tryz.under245:prog.underlying 245=some (.array 12 244):=by kernel_rfl
theorem Tryz.info245:(prog.info? 245).map (·.size)=some oR.length:=by rw [m1];kernel_rfl
theorem iN{ops:Array Oper}{rest:List Oper}{op:Oper}{a:Act}{Q:Exit->Act->World->Prop}(hgd:op.guard=none)(x:Operand)(ho:op.op=.load 245 x)(hx:a.eval x=.pointer (some ⟨1,0,none⟩))(hp:Prm w)(h:wpList prog ops Q rest (a.put op.dst uH) w):wpList prog ops Q (op::rest) a w :=wpList_load_mid hgd 245 x ho _ 0 hx oR (.array 12 244) (r6 w hp) Tryz.under245 rfl Tryz.info245 h
theorem sJ(w:World)(tb mb:Nat)(n0:List Byt)(hn0:n0.length<=1000)(hnd:n0.Nodup)(ht:Tab w tb mb n0)(hp:Prm w)(hg:8<=w.heap.size):Calls prog 75 #[.pointer (some ⟨tb,0,none⟩)] w fun e w'=>e=.returned (.map (some w.heap.size))/\GQ w tb mb w.heap.size n0 13 w':=by
 have hmm:=@run_makeMap prog;have HQ0:Hid (GQ w tb mb w.heap.size n0 0 (w.alloc (.map #[] 0))):=⟨ht.keep (Below.heap_alloc _ _ _ ht.lt.1) (Below.heap_alloc _ _ _ ht.lt.2),⟨_,World.ownsMap_made w _ _ _,tidy_empty,hnd,fun j _ hj=>by omega,fun k hk=>by cases hk⟩,fun k hk _=>Below.heap_alloc _ _ _ hk,by simp,rfl,rfl,rfl,by simp,Nat.le_refl _⟩
 have HT:Hid (mb<w.heap.size/\tb<w.heap.size/\n0.length<=1000):=⟨ht.lt.2,ht.lt.1,hn0⟩
 have HTb:Hid (Tab w tb mb n0):=ht;have HN0:Hid (Calls prog 123 #[.pointer (some ⟨tb,0,none⟩),.string ⟨#[99,97,108,108,47,99,99]⟩] (w.alloc (.map #[] 0)) fun e w2=>∃i:Nat,e=.returned (.int .i64 (i:Int))/\∃w3,(Instr.mapUpdate 145 (.map (some w.heap.size)) (.int .i64 (i:Int)) (.iface 243 (.agg #[]))).run prog w2=.ok () w3/\GQ w tb mb w.heap.size n0 1 w3/\∀k,w.heap.size<=k->k<(w.alloc (.map #[] 0)).heap.size->k≠w.heap.size->w2.heap[k]?=(w.alloc (.map #[] 0)).heap[k]?):=GQ.next hn0 HQ0.out (nm:=callccW) rfl HT.out.1 HT.out.2.1;clear ht hnd hn0;go_enter func75,ntmps75
 go_upto_region 2 with(go_at_call 123;refine Calls.mono HN0.out ?_;rintro e w2 ⟨i0,rfl,w3,hrun3,HQ1,_⟩)
 have hne1:1≠mb:=fun e=>by obtain⟨es,c,hmb⟩:=HTb.out.mapAt;have h0:=(hp 0 plusW rfl (by decide)).1;rw [e] at h0;simp [World.cell?,hmb] at h0
 have hc3:∀o,w3.cell? ⟨1,o,none⟩=w.cell? ⟨1,o,none⟩:=fun o=>World.cell?_of_block (w:=w) (HQ1.2.2.1 1 (Nat.lt_of_lt_of_le jN hg) hne1);have HP3:Hid (Prm w3):=fun k nm hk h12=>⟨(hc3 _).trans (hp k nm hk h12).1,(hc3 _).trans (hp k nm hk h12).2⟩
 have HQ1':Hid (GQ w tb mb w.heap.size n0 1 w3):=HQ1;clear HQ1 hc3 hp hrun3 HN0 HQ0 hne1 hmm;go_wp2_with (refine iN rfl _ rfl rfl HP3.out ?_)
 go_loopw [13] (fun i wr=>∃k:Nat,k<=12/\i=.int .i64 (k:Int)/\Hid (GQ w tb mb w.heap.size n0 (k+1) wr)) (fun i _=>12-(RowKit.intOf i).toNat)
 case atStart=>exact⟨0,by omega,rfl,HQ1'⟩
 case round =>
  obtain⟨k,hk,rfl,HQ⟩:=hrel;by_cases hlt:k<12
  ·have hd:decide ((k:Int)<12)=true:=by simp;omega
   obtain⟨nm,hnm⟩:∃nm,prims[k]?=some nm:=⟨_,List.getElem?_eq_getElem (show k<Pl.prims.length from Nat.lt_trans hlt (by decide))⟩
   have hnm1:oF[k+1]?=some nm:=by unfold oF;rw [List.getElem?_cons_succ,List.getElem?_take_of_lt hlt];exact hnm
   have hix:=fun w=>ix_prim w k nm hnm hlt;have HC:Hid (∀o,Calls prog 123 #[.pointer (some ⟨tb,0,none⟩),.string ⟨nm.toArray⟩] (wr.alloc o) fun e w2=>∃i:Nat,e=.returned (.int .i64 (i:Int))/\∃w3,(Instr.mapUpdate 145 (.map (some w.heap.size)) (.int .i64 (i:Int)) (.iface 246 (.int .i64 (k:Int)))).run prog w2=.ok () w3/\GQ w tb mb w.heap.size n0 (k+2) w3/\∀k,w.heap.size<=k->k<(wr.alloc o).heap.size->k≠w.heap.size->w2.heap[k]?=(wr.alloc o).heap[k]?):=fun o=>GQ.next HT.out.2.2 (HQ.out.alloc o) hnm1 HT.out.1 HT.out.2.1;clear hnm hnm1;go_wp2_with (go_at_call 123;refine(HC.out _).mono ?_;rintro e w2 ⟨i1,rfl,w4,hrun4,HQ4,_⟩);have HQ4':Hid (GQ w tb mb w.heap.size n0 (k+1+1) w4):=HQ4;clear HQ4
   go_roundw
   case rel=>exact⟨k+1,by omega,by go_num,HQ4'⟩
   case measure=>simp [RowKit.intOf];omega
  ·obtain rfl:k=12:=by omega
   go_wp2_with fail
   go_ret;exact⟨rfl,HQ.out⟩
def xM(gb:Nat):Obj:=.cells #[.map (some gb)] TSes
theorem nD(w:World)(tb mb:Nat)(n0:List Byt)(hn0:n0.length<=1000)(hnd:n0.Nodup)(ht:Tab w tb mb n0)(hp:Prm w)(hg:8<=w.heap.size):Calls prog 45 #[.pointer (some ⟨tb,0,none⟩)] w fun e w'=>∃w2,e=.returned (.pointer (some ⟨w2.heap.size,0,none⟩))/\w'=w2.alloc (xM w.heap.size)/\GQ w tb mb w.heap.size n0 13 w2:=by have HC:Hid (Calls prog 75 #[.pointer (some ⟨tb,0,none⟩)] w fun e w'=>e=.returned (.map (some w.heap.size))/\Hid (GQ w tb mb w.heap.size n0 13 w')):=sJ w tb mb n0 hn0 hnd ht hp hg;clear ht hp hg hn0 hnd;go_enter func45,ntmps45;go_wp2_with (go_at_call 75;refine Calls.mono HC.out ?_;rintro e w2 ⟨rfl,HQ⟩);go_ret;exact⟨w2,rfl,rfl,HQ.out⟩
def sgA(N:List Byt):Sg:=⟨330,522,[],[],[],List.replicate 13 none,N⟩
def sgN(n0:List Byt):Sg:=sgA (nsI n0 13)
theorem eO:∀(l:Env)(s:Byt)(k:Nat),Pl.find l s=some k->(s,k)∈l
 | [],s,k,h=>by cases h
 | b::r,s,k,h=>by
  unfold Pl.find at h
  cases hr:Pl.find r s with
  | some j =>rw [hr] at h;obtain rfl:=Option.some.inj h;exact List.mem_cons_of_mem _ (eO r s j hr)
  | none =>
   rw [hr] at h;by_cases e:b.1=s
   ·simp only [if_pos e,Option.some.injEq] at h;rw [<- e,<-h];exact List.mem_cons_self ..
   ·simp only [if_neg e] at h
    cases h
theorem l8:∀b∈Pl.newW.globals,prims[b.2]?=some b.1/\b.1∈oF/\(List.replicate 13 (none:Option (Nat×Nat)))[b.2]?=some none/\Pl.newW.places[b.2]?=some (.prim b.1):=by decide
theorem zO:∀nm∈oF,(Pl.find Pl.newW.globals nm).isSome=true:=by decide
theorem aDJ{N:List Byt}{D:DataW Value}(tidy:Tidy D)(nodup:N.Nodup)(yes:∀(j:Nat)(nm:Byt),j<13->oF[j]?=some nm->∃k:Nat,N[k]?=some nm/\Maps.has D (.int .i64 (k:Int))=true/\∀z,D.atKey (.int .i64 (k:Int)) z=.held (valI j))(no:∀k:Nat,Maps.has D (.int .i64 (k:Int))=true->∃(j:Nat)(nm:Byt),j<13/\oF[j]?=some nm/\N[k]?=some nm):GlobD D (sgA N) newW:=by
 have at_:∀{k j:Nat} {nm:Byt},N[k]?=some nm->N[j]?=some nm->k=j:=fun h1 h2=>by have e1:=cV nodup h1;have e2:=cV nodup h2;omega
 have idx:∀{nm:Byt},nm∈oF->∃j,j<13/\oF[j]?=some nm:=fun hm=>by obtain⟨j,hj⟩:=List.getElem?_of_mem hm;have:=(List.getElem?_eq_some_iff.1 hj).1;rw [aAQ] at this;exact⟨j,this,hj⟩
 refine⟨tidy,fun k nm i hk hf=>?_,fun k nm hk hf=>?_,fun k hk=>?_,fun nm i hf=>?_,fun a b i ha hb=>?_⟩
 ·obtain⟨j1,j2,j3,j4⟩:=l8 _ (eO _ _ _ hf);obtain⟨j,hj,hjn⟩:=idx j2;obtain⟨k',k1,k2,k3⟩:=yes j nm hj hjn;obtain rfl:=at_ hk k1;refine⟨k2,valI j,.prim nm,k3,j4,?_⟩
  cases j with
  | zero =>obtain rfl:callccW=nm:=Option.some.inj hjn;exact .callcc
  | succ j =>
   refine .prim j nm ?_ (by omega);have:(callccW::Pl.prims.take 12)[j+1]?=some nm:=hjn
   rwa [List.getElem?_cons_succ,List.getElem?_take_of_lt (by omega)] at this
 ·cases hh:Maps.has D (.int .i64 (k:Int)) with
  | false=>rfl
  | true =>
   obtain⟨j,x,_,h2,h3⟩:=no k hh;obtain rfl:nm=x:=Option.some.inj (hk.symm.trans h3);have:=zO nm (List.mem_of_getElem? h2);rw [hf] at this
   cases this
 ·obtain⟨j,x,_,h2,h3⟩:=no k hk;exact(List.getElem?_eq_some_iff.1 h3).1
 ·obtain⟨j1,j2,j3,j4⟩:=l8 _ (eO _ _ _ hf);obtain⟨j,hj,hjn⟩:=idx j2;obtain⟨k',k1,_⟩:=yes j nm hj hjn;exact⟨List.mem_of_getElem? k1,j3⟩
 ·obtain⟨j1,_⟩:=l8 _ (eO _ _ _ ha);obtain⟨j2,_⟩:=l8 _ (eO _ _ _ hb);exact Option.some.inj (j1.symm.trans j2)
theorem zP{gb:Nat}{n0:List Byt}{D:DataW Value}(h:GI w gb n0 13 D):GlobD D (sgN n0) newW:=aDJ h.tidy h.nodup h.yes h.no
theorem new_wdN{w2:World}{N:List Byt}{D:DataW Value}(hB:Below w0.heap.size w0 w1)(hgs:Gs w0 (fun _=>False))(hp:Prm w0)(hgt:w0.cell? ⟨0,0,none⟩=some (.iface 301 (.agg #[.pointer (some ⟨8,63,none⟩)])))(hge:GE w0)(hmb:w0.heap.size<=mb)(hne:tb≠mb)(ltb:tb<w1.heap.size)(lmb:mb<w1.heap.size)(h1:Tab w2 tb mb N)(h2:w2.ownsMap prog 3 s9 w1.heap.size 13 D)(hD:GlobD D (sgA N) newW)(h3:∀k,k<w1.heap.size->k≠mb->w2.heap[k]?=w1.heap[k]?)(h5:w2.os=w1.os)(h6:w2.tape=w1.tape)(h7:w2.output=w1.output)(h8:w1.heap.size<w2.heap.size) :Wd (fun k=>k=mb\/k=w1.heap.size) (w2.alloc (xM w1.heap.size)) (sgA N) tb mb w2.heap.size w1.heap.size newW/\Stp (fun _=>False) w0 (fun k=>k=mb\/k=w1.heap.size) (w2.alloc (xM w1.heap.size)):=by
 have h2k:(w2.alloc (xM w1.heap.size)).ownsMap prog 3 s9 w1.heap.size 13 D:=by obtain⟨es,c,hb,r⟩:=h2;exact⟨es,c,(Below.heap_alloc _ _ _ h8).trans hb,r⟩
 have hsz:(w2.alloc (xM w1.heap.size)).heap.size=w2.heap.size+1:=by simp
 have hBs:=hB.size;have hS:Stp (fun _=>False) w0 (fun k=>k=mb\/k=w1.heap.size) (w2.alloc (xM w1.heap.size)):=by refine⟨h5.trans hB.os,h6.trans hB.tape,h7.trans hB.output,by rw [hsz];omega,fun k hk _=>⟨?_,fun e=>by omega⟩⟩;rw [Below.heap_alloc _ _ _ (show k<w2.heap.size by omega),h3 k (by omega) (by omega)];exact hB.block k hk
 have htab:Tab (w2.alloc (xM w1.heap.size)) tb mb N:=h1.keep (Below.heap_alloc _ _ _ h1.lt.1) (Below.heap_alloc _ _ _ h1.lt.2);refine⟨⟨⟨htab,⟨rfl,List.nodup_nil,fun i b p hb=>by cases hb⟩,.inl rfl,fun e=>by omega,fun k hk=>by rw [hsz];omega⟩,heap_alloc_new w2 _,fun e=>by omega,⟨D,h2k,hD⟩,.inr rfl,by omega,⟨rfl,List.nodup_nil,fun i b p hb=>by cases hb⟩,⟨rfl,List.nodup_nil,fun i b p hb=>by cases hb⟩,⟨rfl,fun i j c hi=>?_,fun i g o p hi=>?_⟩,hgs.stp hS,hp.stp hgs hS,(bY hgs hS kT).trans hgt,?_,rfl,rfl⟩,hS⟩
 ·have:=List.mem_of_getElem? hi;have e:=List.eq_of_mem_replicate this
  cases e
 ·have:=List.mem_of_getElem? hi;have e:=List.eq_of_mem_replicate this
  cases e
 ·obtain⟨u,k1,k2⟩:=hge;exact⟨u,(bY hgs hS kU).trans k1,k2⟩
theorem new_wd{w2:World}{n0:List Byt}(hB:Below w0.heap.size w0 w1)(hgs:Gs w0 (fun _=>False))(hp:Prm w0)(hgt:w0.cell? ⟨0,0,none⟩=some (.iface 301 (.agg #[.pointer (some ⟨8,63,none⟩)])))(hge:GE w0)(hmb:w0.heap.size<=mb)(hne:tb≠mb)(ltb:tb<w1.heap.size)(lmb:mb<w1.heap.size)(hQ:GQ w1 tb mb w1.heap.size n0 13 w2) :Wd (fun k=>k=mb\/k=w1.heap.size) (w2.alloc (xM w1.heap.size)) (sgN n0) tb mb w2.heap.size w1.heap.size newW/\Stp (fun _=>False) w0 (fun k=>k=mb\/k=w1.heap.size) (w2.alloc (xM w1.heap.size)):=by obtain⟨h1,⟨D,h2⟩,h3,_,h5,h6,h7,h8,_⟩:=hQ;exact new_wdN hB hgs hp hgt hge hmb hne ltb lmb h1 h2.own (zP h2) h3 h5 h6 h7 h8
theorem aBZ(w:World)(v:Value)(ins:List (ByteArray×Int))(hS:ScrAt w v ins)(hl:ins.length<=b5)(hgz:8<=w.heap.size)(htab:Lib.TabIs prog w oS .u64 Lib.pow10Tab)(hp:Prm w)(hgt:GT w)(hge:GE w) :Calls prog 19 #[v] w fun e w'=>∃rv,e=.returned rv/\Below w.heap.size w w'/\OutAt w' rv (Pl.session newW (ins.map inP)).2/\∃g,w.heap.size<=g/\rv=.slice (some ⟨g,0,none⟩) ins.length ins.length:=by
 have hgs:Gs w (fun _=>False):=⟨hgz,fun _ _ h=>h,htab⟩
 have HT:Hid (Calls prog 41 #[] w fun e w'=>e=.returned (.pointer (some ⟨w.heap.size+1,0,none⟩))/\Hid (Below w.heap.size w w'/\Tab w' (w.heap.size+1) w.heap.size [])):=sE w;have HN:Hid (∀w1,Below w.heap.size w w1/\Tab w1 (w.heap.size+1) w.heap.size []->Calls prog 45 #[.pointer (some ⟨w.heap.size+1,0,none⟩)] w1 fun e w'=>∃w2,e=.returned (.pointer (some ⟨w2.heap.size,0,none⟩))/\Hid (w'=w2.alloc (xM w1.heap.size)/\GQ w1 (w.heap.size+1) w.heap.size w1.heap.size [] 13 w2)):=fun w1 ⟨h1,h2⟩=>nD w1 _ _ [] (by simp) List.nodup_nil h2 (hp.stp hgs (Stp.of_below h1)) (Nat.le_trans hgz h1.size)
 have HR:Hid (∀w1 w2 w3,Below w.heap.size w w1/\Tab w1 (w.heap.size+1) w.heap.size []->w3=w2.alloc (xM w1.heap.size)/\GQ w1 (w.heap.size+1) w.heap.size w1.heap.size [] 13 w2->Calls prog 44 #[.iface 73 (.pointer (some ⟨w2.heap.size,0,none⟩)),v,.pointer (some ⟨w.heap.size+1,0,none⟩)] w3 fun e w'=>∃rv,e=.returned rv/\Hid (Below w.heap.size w w'/\OutAt w' rv (Pl.session newW (ins.map inP)).2/\∃g,w.heap.size<=g/\rv=.slice (some ⟨g,0,none⟩) ins.length ins.length)):=fun w1 w2 w3 ⟨h1,h2⟩ ⟨h3,h4⟩=>by
  subst h3;obtain⟨k1,k2⟩:=new_wd h1 hgs hp hgt hge (Nat.le_refl _) (by omega) h2.lt.1 h2.lt.2 h4;obtain⟨k3,k4⟩:=aBY (scr_in hS) k2 (fun _ h=>h);refine(p_runS _ _ (sgN []) _ _ _ _ v ins (fun M w s t m W b n q1 q2 q3 q4 q5=>zJ M w s _ _ _ _ t m W b n q1 q2 q3 q4 q5) k1 (Nat.le_trans (aBB [] 13) (by decide)) k3 k4 hl).mono (fun e w' hh=>?_)
  ·obtain⟨rv,M',s',e1,e2,e3,e4⟩:=hh;have hs:=k2.trans e2.stp;exact⟨rv,e1,⟨hs.os,hs.tape,hs.output,hs.size,fun k hk=>(hs.block k hk (fun h=>h)).1⟩,e3,_,k2.size,e4⟩
 obtain⟨ao,cap,rfl,_,_⟩:=hS;clear hgz htab hp hgt hge hgs hl;go_enter func19,ntmps19
 go_wp2_with (first
  | (go_at_call 41;refine Calls.mono HT.out ?_;rintro e w1 ⟨rfl,HQ1⟩)
  | (go_at_call 45;refine Calls.mono (HN.out _ HQ1.out) ?_;rintro e w3 ⟨w2,rfl,HQ2⟩)
  | (go_at_call 44;refine Calls.mono (HR.out _ _ _ HQ1.out HQ2.out) ?_;rintro e w4 ⟨rv,rfl,HQ3⟩))
 go_ret;exact⟨rv,rfl,HQ3.out.1,HQ3.out.2⟩
theorem p_slow(w:World)(v:Value)(ins:List (ByteArray×Int))(hS:ScrAt w v ins)(hl:ins.length<=b5)(hgz:8<=w.heap.size)(htab:Lib.TabIs prog w oS .u64 Lib.pow10Tab)(hp:Prm w)(hgt:GT w)(hge:GE w) :Calls prog 19 #[v] w fun e w'=>∃rv,e=.returned rv/\Below w.heap.size w w'/\OutAt w' rv (Pl.session newW (ins.map inP)).2:=(aBZ w v ins hS hl hgz htab hp hgt hge).mono (fun _ _ ⟨rv,h1,h2,h3,_⟩=>⟨rv,h1,h2,h3⟩)
end
end Go.Proofs.YtkgbdddkcjpgfaaGreatDoor
