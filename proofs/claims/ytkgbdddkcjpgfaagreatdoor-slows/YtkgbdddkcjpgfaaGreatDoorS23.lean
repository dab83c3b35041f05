import Derived.Deep.DeepCutAuto
import Derived.Test.YtkgbdddkcjpgfaaGreatDoorS18
namespace Go.Proofs.YtkgbdddkcjpgfaaGreatDoor
set_option maxHeartbeats 8000000
set_option maxRecDepth 100000
open Go.Proofs.Tryz
open Pl (PV PW PS SR Byt arity prims applyB sameW cdrW carW nullW pairW)
section
open Go.RowKit
variable {w w0 w':World} {wb n k:Nat} {pv qv cv lv gv lv':Value} {qs cs:List Value}
theorem bO{X:World}{R:Nat}(hB:Below w.heap.size w X)(hR:w.heap.size<=R)(o:Nat)(v:Value):Below w.heap.size w (X.setCell ⟨R,o,none⟩ v) :=⟨hB.os,hB.tape,hB.output,by have:=hB.size;simp [World.setCell];omega,fun k hk=>by rw [Below.heap_setCell _ _ _ _ (fun e=>by simp at e;omega)];exact hB.block k hk⟩
theorem iK(v:PV):(∃i,v=.pair i)\/((∀i,v≠.pair i)/\(vK v==[112,97,105,114])=false):=by
 cases v with
 | pair i=>exact .inl ⟨i,rfl⟩
 | _=>exact .inr ⟨fun i h=>(by cases h),rfl⟩
theorem kindEmp(v:PV):v=.empty\/(v≠.empty/\(vK v==[101,109,112,116,121])=false/\(vK v !=[101,109,112,116,121])=true):=by
 cases v with
 | empty=>exact .inl rfl
 | _=>exact .inr ⟨fun h=>(by cases h),rfl,rfl⟩
def rkAt(w:World)(R:Nat):Nat:=match w.cell? ⟨R,0,none⟩,w.cell? ⟨R,1,none⟩ with
 | some (.string k),some (.int _ m)=>if k.data.toList=pI then m.toNat+1 else 0
 | _,_=>0
theorem t6{R:Nat}{v:PV}{T:TypeId}(h:w.heap[R]?=some (.cells #[byV (vK v),.int .i64 (vN v),byV (vS v)] T (0,0))):rkAt w R=Pl.rank v:=by
 unfold rkAt;rw [aA h 0,aA h 1]
 cases v with
 | pair i=>simp [byV,vK,vN,Pl.rank,pI]
 | _=>rfl
theorem lE(wb:Nat)(M:Nat->Prop)(W:PW)(n:Nat)(hT:TextSaid wb M W n)(hP:WfP W)(w:World)(i:Nat)(s:Byt)(hW:RW w wb M W)(hG:Gs w M)(hv:WfV W (.pair i))(hi:i<=n)(hs:s.length<=200)(hn:n<=1000000000) :Calls prog 86 #[.pointer (some ⟨wb,0,none⟩),bT (.pair i),.string ⟨s.toArray⟩] w fun e w'=>TextPost W (.pair i) s (n+1) w e w':=by
 have HT:Hid (TextSaid wb M W n):=hT;have HP:Hid (WfP W):=hP;have HG:Hid (Gs w M):=hG;have HW:Hid (RW w wb M W):=hW;obtain⟨p,hp⟩:∃p,W.pairs[i]?=some p:=⟨_,List.getElem?_eq_getElem hv⟩
 have HX:Hid (Pl.text W.pairs (.pair i)=40::(Pl.text W.pairs p.1++Pl.tl W.pairs p.2)):=Pl.text_pair hP.acy hp;have HV:Hid _:=hP.vals i p hp;have HR:Hid _:=hP.acy i p hp;have hpl:=hP.len;have HBx:Hid (∀o:Obj,Below w.heap.size w (w.alloc o)):=fun o=>(Below.refl _ _).alloc (Nat.le_refl _) _;obtain⟨pv,qv,cv,lv,gv,qs,cs,hM,hws⟩:=hW;obtain⟨g,cap,rfl,hcap,hg,d0,d1,d2,d3,d4,d5⟩:=yB hws hp;have c0:w.cell? ⟨wb,0,none⟩=some (.slice (some ⟨g,0,none⟩) W.pairs.length cap):=aA hws.blk 0;have hwb:=aB hws.blk;have hgt:decide ((200:Int)<(s.length:Int))=false:=by simp;omega
 have hil:(i:Int)<(W.pairs.length:Int):=by have:i<W.pairs.length:=hv;omega
 have hcat:(⟨s.toArray⟩:ByteArray)++⟨#[40]⟩=⟨(s++[40]).toArray⟩:=c7 s [40];have q1:∀(o:Obj)(b off:Nat),b<w.heap.size->(w.alloc o).cell? ⟨b,off,none⟩=w.cell? ⟨b,off,none⟩:=fun o b off hb=>(HBx.out o).cell (p:=⟨b,off,none⟩) hb;have HL:Hid (s.length<=200):=hs;have HM:Hid _:=hM;have HWs:Hid _:=hws;clear hT hP hG hv hp hM hws;unfold bT byV vK vN vS pI;go_enter func86,ntmps86
 go_upto_region 21 with fail
 go_cut [2] (fun s2 wx=>∃r1:Byt,s2=.string ⟨r1.toArray⟩/\wx.cell? ⟨w.heap.size,1,none⟩=some (.int .i64 i)/\Hid (Below w.heap.size w wx)/\Hid (Pl.Q (r1++Pl.tl W.pairs p.2) (s++Pl.text W.pairs (.pair i)))/\Hid (r1.length<=700+n))
 case first =>
  go_region_with (go_at_call 86;refine(HT.out _ p.1 (s++[40]) (RW.later HW.out (HBx.out _).drew) (HG.out.below (HBx.out _).drew) HV.out.1 (Nat.le_trans HR.out.1 hi) (by simp;omega)).mono ?_;rintro e w1 ⟨hB1,r1,rfl,hr1,hl1⟩)
  all_goals
   go_wp2_with fail
   go_meet
   refine⟨r1,rfl,(hB1.cell (p:=⟨w.heap.size,1,none⟩) (by simp)).trans (aA (heap_alloc_new w _) 1),(HBx.out _).drew.trans (hB1.mono (HBx.out _).size),?_,?_⟩
   ·show Pl.Q _ _;rw [HX.out];have:=hr1.app (Pl.tl W.pairs p.2);simpa using this
   ·show _<=_;have:=HL.out;simp only [List.length_append,List.length_cons,List.length_nil] at hl1;omega
 case rest =>
  obtain⟨r1,rfl,x1,HB1,HQ,HL1⟩:=hcut;have hsz1:=HB1.out.size;have hg1:g<wc.heap.size:=by omega
  have hwb1:wb<wc.heap.size:=by omega
  have hbx1:w.heap.size<wc.heap.size:=World.block_lt_of_cell? _ _ x1;have y0:=(HB1.out.cell (p:=⟨wb,0,none⟩) hwb).trans c0;have y3:=(HB1.out.cell (p:=⟨g,i*6+3,none⟩) hg).trans d3;have y4:=(HB1.out.cell (p:=⟨g,i*6+3+1,none⟩) hg).trans d4;have y5:=(HB1.out.cell (p:=⟨g,i*6+3+2,none⟩) hg).trans d5;have qA:∀(o:Obj)(b off:Nat),b<wc.heap.size->(wc.alloc o).cell? ⟨b,off,none⟩=wc.cell? ⟨b,off,none⟩:=fun o b off hb=>((Below.refl _ _).alloc (Nat.le_refl _) o).cell (p:=⟨b,off,none⟩) hb;clear c0 d0 d1 d2 d3 d4 d5 hcat q1
  go_upto_region 22 with fail
  go_cut [7] (fun p7 wx=>∃R:Nat,p7=.pointer (some ⟨R,0,none⟩)/\w.heap.size<=R/\Hid (wx.heap[R]?=some (.cells #[byV (vK p.2),.int .i64 (vN p.2),byV (vS p.2)] TV (0,0)))/\Hid (Below w.heap.size w wx))
  case first =>
   go_region
   all_goals
    go_wp2_with fail
    go_meet
    exact⟨wc.heap.size,rfl,hsz1,heap_alloc_new wc _,(HB1.out.alloc hsz1 _).drew⟩
  case rest =>
   obtain⟨R,rfl,hsR,HC1,HB2⟩:=hcut;clear x1 y0 y3 y4 y5 qA hg1 hwb1 hbx1 hsz1 HB1;go_wp2_with fail
   go_loopw [2] (fun sv wr=>∃(sk:Byt)(rest:PV),sv=.string ⟨sk.toArray⟩/\Hid (wr.heap[R]?=some (.cells #[byV (vK rest),.int .i64 (vN rest),byV (vS rest)] TV (0,0)))/\Hid (Below w.heap.size w wr)/\Hid (WfV W rest)/\Hid (Pl.rank rest<=n)/\Hid (Pl.Q (sk++Pl.tl W.pairs rest) (s++Pl.text W.pairs (.pair i)))/\Hid (sk.length<=700+n)) (fun _ wr=>rkAt wr R)
   case atStart=>exact⟨r1,p.2,rfl,HC1,HB2,HV.out.2,Nat.le_trans HR.out.2 hi,HQ,HL1⟩
   case round =>
    obtain⟨sk,rest,rfl,HC,HB,HWr,HRk,HQk,HLk⟩:=hrel;have hlk:=HLk.out;have hRlt:=aB HC.out;have r0:wr.cell? ⟨R,0,none⟩=some (.string ⟨(vK rest).toArray⟩):=aA HC.out 0;have r1':wr.cell? ⟨R,1,none⟩=some (.int .i64 (vN rest)):=aA HC.out 1;have r2:wr.cell? ⟨R,2,none⟩=some (.string ⟨(vS rest).toArray⟩):=aA HC.out 2;have k41:(⟨sk.toArray⟩:ByteArray)++⟨#[41]⟩=⟨(sk++[41]).toArray⟩:=c7 sk [41];by_cases hl200:sk.length<=200
    ·have hle:decide ((sk.length:Int)<=200)=true:=by simp;omega
     rcases iK rest with⟨j,rfl⟩ | ⟨hnp,hkp⟩
     ·obtain⟨p2,hp2⟩:∃p,W.pairs[j]?=some p:=⟨_,List.getElem?_eq_getElem HWr.out⟩
      have hjl:(j:Int)<(W.pairs.length:Int):=by have:j<W.pairs.length:=HWr.out;omega
      have HV2:Hid _:=HP.out.vals j p2 hp2;have HR2:Hid _:=HP.out.acy j p2 hp2;have HT2:Hid (Pl.tl W.pairs (.pair j)=32::(Pl.text W.pairs p2.1++Pl.tl W.pairs p2.2)):=Pl.tl_pair HP.out.acy hp2;have hjn:Hid (j<=n):=by have:=HRk.out;simp only [Pl.rank] at this;show j<=n;omega
      have HRWr:Hid (RW wr wb M W):=HW.out.later HB.out;obtain⟨g',cap',e',hcap',hg',d0,d1,d2,d3,d4,d5⟩:=yB HWs.out hp2;simp only [Value.slice.injEq,Option.some.injEq,Addr.mk.injEq,and_true,true_and] at e';obtain⟨rfl,rfl⟩:=e';have c0:wr.cell? ⟨wb,0,none⟩=some (.slice (some ⟨g,0,none⟩) W.pairs.length cap):=(HB.out.cell (p:=⟨wb,0,none⟩) hwb).trans (aA HWs.out.blk 0);have y0:=(HB.out.cell (p:=⟨g,j*6,none⟩) hg).trans d0;have y1:=(HB.out.cell (p:=⟨g,j*6+1,none⟩) hg).trans d1;have y2:=(HB.out.cell (p:=⟨g,j*6+2,none⟩) hg).trans d2;have HD:Hid (_/\_/\_):=And.intro d3 (And.intro d4 d5);have k32:(⟨sk.toArray⟩:ByteArray)++⟨#[32]⟩=⟨(sk++[32]).toArray⟩:=c7 sk [32];have HLs:Hid (sk.length<=200):=hl200;have e0:wr.cell? ⟨R,0,none⟩=some (.string ⟨#[112,97,105,114]⟩):=r0;have e1:wr.cell? ⟨R,1,none⟩=some (.int .i64 j):=r1';clear hp2 d0 d1 d2 d3 d4 d5 hcap' r0 r1' r2
      go_upto_region 25 with fail
      go_cut [2] (fun s2 wx=>∃rr:Byt,s2=.string ⟨rr.toArray⟩/\Hid (wx.heap[R]?=some (.cells #[byV (vK (.pair j)),.int .i64 (vN (.pair j)),byV (vS (.pair j))] TV (0,0)))/\Hid (Below w.heap.size w wx)/\Hid (Pl.Q (rr++Pl.tl W.pairs p2.2) (s++Pl.text W.pairs (.pair i)))/\Hid (rr.length<=700+n))
      case first =>
       go_region_with (go_at_call 86;refine(HT.out _ p2.1 (sk++[32]) (RW.later HRWr.out ((Below.refl _ _).drew)) ((HG.out.below HB.out).below ((Below.refl _ _).drew)) HV2.out.1 (Nat.le_trans HR2.out.1 hjn.out) (by simp;omega)).mono ?_;rintro e w5 ⟨hB5,rr,rfl,hrr,hlr⟩)
       all_goals
        go_wp2_with fail
        go_meet
        refine⟨rr,rfl,(hB5.block _ (by simpa using hRlt)).trans HC.out,HB.out.trans ((Below.trans ((Below.refl _ _).drew) hB5).mono HB.out.size),?_,?_⟩
        ·show Pl.Q _ _;refine Pl.Q.trans ?_ HQk.out;rw [HT2.out];have:=hrr.app (Pl.tl W.pairs p2.2);simpa using this
        ·show _<=_;have:=HLs.out;simp only [List.length_append,List.length_cons,List.length_nil] at hlr;omega
      case rest =>
       obtain⟨rr,rfl,HC5,HB5,HQ5,HL5⟩:=hcut;obtain⟨v0,v1,v2,f0,f1,f2,s1,s2,s3⟩:=set3 HC5.out;have x0:=(HB5.out.cell (p:=⟨wb,0,none⟩) hwb).trans (aA HWs.out.blk 0);have x3:=(HB5.out.cell (p:=⟨g,j*6+3,none⟩) hg).trans HD.out.1;have x4:=(HB5.out.cell (p:=⟨g,j*6+3+1,none⟩) hg).trans HD.out.2.1;have x5:=(HB5.out.cell (p:=⟨g,j*6+3+2,none⟩) hg).trans HD.out.2.2;have v1':World.cell? _ ⟨R,1,none⟩=some (Value.int .i64 (j:Int)):=v1;clear c0 y0 y1 y2 k32 k41 e0 e1 v1;go_wp2_with fail
       go_region
       all_goals
        go_wp2_with fail
        go_roundw
        case rel =>
         refine⟨rr,p2.2,rfl,?_,?_,HV2.out.2,Nat.le_trans HR2.out.2 hjn.out,HQ5,HL5⟩
         ·exact aD (aD (aD HC5.out 0 _) 1 _) 2 _
         ·exact(bO (bO (bO HB5.out hsR _ _) hsR _ _) hsR _ _).drew
        case measure =>rw [t6 HC.out];refine Nat.lt_of_le_of_lt (Nat.le_of_eq (t6 (v:=p2.2) (T:=TV) (aD (aD (aD HC5.out 0 _) 1 _) 2 _))) ?_;have:=HR2.out.2;show Pl.rank p2.2<j+1;omega
     ·rcases kindEmp rest with rfl | ⟨hne,hk1,hk2⟩
      ·have HQf:Hid (Pl.Q (sk++[41]) (s++Pl.text W.pairs (.pair i))):=HQk.out;have e0:wr.cell? ⟨R,0,none⟩=some (.string ⟨#[101,109,112,116,121]⟩):=r0;clear r0 r1' r2;go_wp2_with fail;go_ret;exact⟨HB.out,sk++[41],rfl,HQf.out,by simp only [List.length_append,List.length_cons,List.length_nil];omega⟩
      ·have HTa:Hid (Pl.tl W.pairs rest=[32,46,32]++Pl.text W.pairs rest++[41]):=Pl.tl_atom _ _ hnp hne;have k3:(⟨sk.toArray⟩:ByteArray)++⟨#[32,46,32]⟩=⟨(sk++[32,46,32]).toArray⟩:=c7 sk [32,46,32];have HLs:Hid (sk.length<=200):=hl200;have HRWr:Hid (RW wr wb M W):=HW.out.later HB.out;clear hnp hne;have HNM:Hid (bT rest=.agg #[.string ⟨(vK rest).toArray⟩,.int .i64 (vN rest),.string ⟨(vS rest).toArray⟩]):=rfl;clear HC;generalize vK rest=kk at *;generalize vN rest=nn at *;generalize vS rest=ss at *;go_wp2_with fail;rw [<- HNM.out];refine(HT.out _ rest (sk++[32,46,32]) HRWr.out (HG.out.below HB.out) HWr.out HRk.out (by simp;omega)).mono ?_;rintro e w5 ⟨hB5,rr,rfl,hrr,hlr⟩;have HB5:Hid (Below w.heap.size w w5):=HB.out.trans (hB5.mono HB.out.size);have HQ5:Hid (Pl.Q (rr++[41]) (s++Pl.text W.pairs (.pair i))):=show Pl.Q _ _ from by refine Pl.Q.trans ?_ HQk.out;rw [HTa.out];have:=hrr.app [41];simpa using this
       have HL5:Hid (rr.length<=700+n):=show _<=_ from by have:=HLs.out;simp only [List.length_append,List.length_cons,List.length_nil] at hlr;omega
       have hl5:=HL5.out;have kr:(⟨rr.toArray⟩:ByteArray)++⟨#[41]⟩=⟨(rr++[41]).toArray⟩:=c7 rr [41];clear hB5 hrr hlr;go_wp2_with fail;go_ret;exact⟨HB5.out,rr++[41],rfl,HQ5.out,by have:=HL5.out;simp only [List.length_append,List.length_cons,List.length_nil];omega⟩
    ·have hle:decide ((sk.length:Int)<=200)=false:=by simp;omega
     have HQf:Hid (Pl.Q (sk++[41]) (s++Pl.text W.pairs (.pair i))):=(Pl.Q.long [41] _ (by omega)).trans HQk.out;clear HC;generalize vK rest=kk at *;go_wp2_with fail
     all_goals
      go_ret;exact⟨HB.out,sk++[41],rfl,HQf.out,by simp only [List.length_append,List.length_cons,List.length_nil];omega⟩
theorem lF(hI:ItoaSaid)(wb:Nat)(M:Nat->Prop)(W:PW)(hP:WfP W):∀n,n<=1000000000->TextSaid wb M W n
 | 0,_=>by
  intro w v s hW hG hv hr hs;by_cases hl:s.length<=200
  ·refine fU hI wb M W 0 w v s hG hv hl (fun i e=>?_);subst e;simp [Pl.rank] at hr
  ·exact fT wb W 0 w v s (by omega) hs
 | n+1,hn=>by
  intro w v s hW hG hv hr hs;by_cases hl:s.length<=200
  ·rcases iK v with⟨i,rfl⟩ | ⟨hnp,_⟩
   ·exact lE wb M W n (lF hI wb M W hP n (by omega)) hP w i s hW hG hv (by simpa [Pl.rank] using hr) hl (by omega)
   ·exact fU hI wb M W (n+1) w v s hG hv hl hnp
  ·exact fT wb W (n+1) w v s (by omega) hs
theorem oA(r:Byt)(k:Nat):(⟨r.toArray⟩:ByteArray).extract 0 k=⟨(r.take k).toArray⟩:=by apply ByteArray.ext;simp [ByteArray.data_extract]
theorem uE(w:World)(r:Byt)(hr:r.length<=100000000000) :Calls prog 84 #[.string ⟨r.toArray⟩] w fun e w'=>e=.returned (.string ⟨(Pl.cut r).toArray⟩)/\w=w':=by
 by_cases hl:200<r.length
 ·have HE:Hid (Pl.cut r=r.take 200++[46,46]):=show Pl.cut r=_ from by unfold Pl.cut;rw [if_pos hl]
  have hlt:(200:Int)<(r.length:Int):=by omega
  go_enter func84,ntmps84
  go_wp2_with fail
  go_ret;refine⟨?_,rfl⟩;rw [HE.out];exact dZ (by rw [oA];exact c7 _ [46,46])
 ·have HE:Hid (Pl.cut r=r):=show Pl.cut r=_ from by unfold Pl.cut;rw [if_neg hl]
  have hlt:decide ((200:Int)<(r.length:Int))=false:=by simp;omega
  go_enter func84,ntmps84
  go_wp2_with fail
  go_ret;exact⟨by rw [HE.out];rfl,rfl⟩
def aJ:Obj:=.cells #[.string ⟨#[43]⟩,.string ⟨#[45]⟩,.string ⟨#[42]⟩,.string ⟨#[60]⟩,.string ⟨#[61]⟩,.string ⟨#[99,111,110,115]⟩,.string ⟨#[99,97,114]⟩,.string ⟨#[99,100,114]⟩,.string ⟨#[110,117,108,108,63]⟩,.string ⟨#[112,97,105,114,63]⟩,.string ⟨#[101,113,63]⟩,.string ⟨#[100,105,115,112,108,97,121]⟩,.string ⟨#[99,97,108,108,47,99,99]⟩] 9
def aH:Obj:=.cells #[.int .i64 2,.int .i64 2,.int .i64 2,.int .i64 2,.int .i64 2,.int .i64 2,.int .i64 1,.int .i64 1,.int .i64 1,.int .i64 1,.int .i64 2,.int .i64 1,.int .i64 1] 3
theorem bQ(w:World) :Calls prog 76 #[] w fun e w'=>e=.returned (.tuple #[.slice (some ⟨w.heap.size,0,none⟩) 13 13,.slice (some ⟨w.heap.size+1,0,none⟩) 13 13])/\(w.alloc aJ).alloc aH=w':=by
 go_enter func76,ntmps76
 go_wp2_with fail
 go_ret2;exact⟨rfl,rfl⟩
theorem RWs.out_set{W:PW}(h:RWs w wb W pv qv cv lv gv qs cs)(t:Byt)(ht:t.length<=1000) :RWs (w.setCell ⟨wb,5,none⟩ (byV t)) wb {W with out:=t} pv qv cv lv gv qs cs/\Stp (Mof wb [pv,qv,cv,lv,gv]) w (Mof wb [pv,qv,cv,lv,gv]) (w.setCell ⟨wb,5,none⟩ (byV t)):=by
 have hc:=dJ (Below.refl w.heap.size w) (row:=none) ⟨rfl,rfl,rfl,Nat.le_refl _,fun _ _ _=>rfl⟩ (wb:=wb) 5 (byV t);have ht':∀k,(none:Option Nat)=some k->∃cur,w.heap[k]?=some (.cells cur TSt (0,0)):=fun k e=>by cases e
 have hs:Stp (Mof wb [pv,qv,cv,lv,gv]) w (Mof wb [pv,qv,cv,lv,gv]) (w.setCell ⟨wb,5,none⟩ (byV t)):=hc.stp (fun k e=>by cases e) (fun _ _ h=>h);exact⟨h.upd hs (by rw [aD h.blk];rfl) (aL h.pr hc h.blk ht' (by decide) (by decide)) (aL h.pc hc h.blk ht' (by decide) (by decide)) (aL h.cn hc h.blk ht' (by decide) (by decide)) (aL h.pl hc h.blk ht' (by decide) (by decide)) (aL h.gl hc h.blk ht' (by decide) (by decide)) ht (fun i p hi=>.inl ⟨hi,rfl,rfl⟩) (fun i fs hi=>.inl ⟨hi,rfl⟩),hs⟩
theorem mZ(w0 w:World)(wb:Nat)(M:Nat->Prop)(W:PW)(x y:PV)(h:RW w0 wb M W)(hB0:Below w0.heap.size w0 w)(hn:W.pairs.length<=1000000000) :Calls prog 174 #[.pointer (some ⟨wb,0,none⟩),bT x,bT y] w fun e w'=>e=.returned (bT (.pair W.pairs.length))/\∃M',RW w' wb M' {W with pairs:=W.pairs++[(x,y)]}/\Stp M w0 M' w'/\∀(R:Nat)(cur:Array Value),w0.heap.size<=R->w.heap[R]?=some (.cells cur TV (0,0))->w'.heap[R]?=some (.cells cur TV (0,0))/\∀w2,w'.grownBy w2 (some R)->RW w2 wb M' {W with pairs:=W.pairs++[(x,y)]}/\Stp M w0 M' w2:=by
 obtain⟨i0,hi0,hz0,hz1,hz2⟩:=info_parts Tryz.infoPa;obtain⟨pv,qv,cv,lv,gv,qs,cs,rfl,h⟩:=h;have H:Hid (RWs w0 wb W pv qv cv lv gv qs cs):=h;have Hw:Hid (RWs w wb W pv qv cv lv gv qs cs):=h.later (fun k hk=>hB0.block k hk) (Stp.of_below hB0);have hlt0:=aB h.blk;have hlt:=aB Hw.out.blk;have c3:w.cell? ⟨wb,0,none⟩=some pv:=aA Hw.out.blk 0;have HB0:Hid (Below w0.heap.size w0 w):=hB0;have hs0:=hB0.size;have a3:=fun o1 o2 o3=>(far4 (o:=0) hlt o1 o2 o3 o1).1;have a4:=fun o1 o2 o3 o4=>(far4 (o:=0) hlt o1 o2 o3 o4).2.1;clear h hB0;unfold bT byV;go_enter func174,ntmps174;go_wp2_with fail
 go_region_law ((refine step_append_lies _ (by rfl) _ _ _ (by rfl) 0 263 i0 _ 6 80 underlying90 hi0 hz0 hz1 hz2 rfl (by omega) pv W.pairs.length (W.pairs.flatMap mG) (by rfl) (((((Hw.out.pr.alloc _).alloc _).alloc _).alloc _).drew) ⟨w.heap.size+3,0,none⟩ 1 1 (mG (x,y)) (by rfl) (by rfl) (World.news_of_block (cs:=#[byV (vK x),.int .i64 (vN x),byV (vS x),byV (vK y),.int .i64 (vN y),byV (vS y)]) (t:=263) (fr:=(0,0)) (news4 w _ _ _ _ _)) (by simp [Value.oneCell',cZ,mG,byV]) (by omega) (by unfold maxLen;omega) (by omega) (by simp) (w.heap.size+4) (by simp) ?_;intro g3 cap3 w3 hown3 hgrow3 hat3 hlt3;obtain⟨k1,k2,k3⟩:=fD Hw.out.blk (jU w _ _ _ _) hgrow3 (aN Hw.out.pr) (by decide) 0 pv rfl))
 all_goals
  have hX:=tV (wb:=wb) (wO hgrow3 (new3 w _ _ _ _ _) (fun e=>by have:=(H.out.pr.lt _ e).2;omega)) (show w.heap.size+2≠wb from by omega) 0 (.slice (some ⟨g3,0,none⟩) (W.pairs.length+1) cap3);obtain⟨q1,q2⟩:=H.out.pairs_push (HB0.out.trans ((jU w _ _ _ _).mono hs0)) hgrow3 _ (x,y) hown3 (tH hat3 (by omega))
  have hm:¬Mof wb [.slice (some ⟨g3,0,none⟩) (W.pairs.length+1) cap3,qv,cv,lv,gv] (w.heap.size+2):=jM H.out (sl:=.slice (some ⟨g3,0,none⟩) (W.pairs.length+1) cap3) (by intro x hx;simp only [List.mem_cons,List.not_mem_nil,or_false] at hx ⊢;rcases hx with rfl | rfl | rfl | rfl | rfl<;>simp) (by omega) (by
   rcases hat3 with e | rfl
   ·have:=(H.out.pr.lt _ e).2;simp [Value.ownBlock];omega
   ·simp [Value.ownBlock])
  have HRk:Hid (∀R,w0.heap.size<=R->R<w.heap.size->(w3.setCell ⟨wb,0,none⟩ (.slice (some ⟨g3,0,none⟩) (W.pairs.length+1) cap3)).heap[R]?=w.heap[R]?):=by intro R h1 h2;rw [Below.heap_setCell _ _ _ _ (fun e=>by simp at e;omega),hgrow3.block R (by simp;omega) (fun e=>by have:=(H.out.pr.lt _ e.symm).2;omega)];exact(jU w _ _ _ _).block R h2
  have HMR:Hid (∀R,w0.heap.size<=R->R<w.heap.size->¬Mof wb [.slice (some ⟨g3,0,none⟩) (W.pairs.length+1) cap3,qv,cv,lv,gv] R):=fun R h1 h2=>jM H.out (sl:=.slice (some ⟨g3,0,none⟩) (W.pairs.length+1) cap3) (by intro x hx;simp only [List.mem_cons,List.not_mem_nil,or_false] at hx ⊢;rcases hx with rfl | rfl | rfl | rfl | rfl<;>simp) h1 (by
   rcases hat3 with e | rfl
   ·have:=(H.out.pr.lt _ e).2;simp [Value.ownBlock];omega
   ·simp [Value.ownBlock];omega)
  have HM:Hid _:=hm;have Q1:Hid _:=q1;have Q2:Hid _:=q2;have k4:=k3 (.slice (some ⟨g3,0,none⟩) (W.pairs.length+1) cap3);clear q1 q2 hown3 hgrow3 hat3 hlt3 hm k1 k2 k3;generalize w3.setCell ⟨wb,0,none⟩ (.slice (some ⟨g3,0,none⟩) (W.pairs.length+1) cap3)=X at *;obtain⟨r0,r1,r2,f0,f1,f2,s1,s2,s3⟩:=set3 hX;clear hX;go_wp2_with fail
  (try simp only [Exit.inBlock,Exit.then])
  refine bodyPost_ret (v:=bT (.pair W.pairs.length)) ?_ rfl ?_
  ·rw [aO rfl];simp only [bT,byV,vK,vN,vS,pI]
   go_simp
  ·obtain⟨z1,z2⟩:=H.out.after Q1.out Q2.out rfl rfl (e6 X (w.heap.size+2) _ _ _) (by omega) HM.out;refine⟨rfl,_,⟨_,_,_,_,_,_,_,rfl,z1⟩,z2,fun R cur h1 h2=>⟨?_,fun w2 hg2=>?_⟩⟩
   ·have hR:=aB h2;rw [(e6 X (w.heap.size+2) _ _ _).block R ?_ (by simp;omega),HRk.out R h1 hR,h2];have:=HRk.out R h1 hR;rw [h2] at this;exact aB this
   ·obtain⟨y1,y2⟩:=H.out.after z1 z2 rfl rfl hg2 h1 (HMR.out R h1 (aB h2));exact⟨⟨_,_,_,_,_,_,_,rfl,y1⟩,y2⟩
def iE:List Nat:=[2,2,2,2,2,2,1,1,1,1,2,1,1]
def ArOk(s:Byt)(n k:Nat):Prop:=∀j,j<k->∀h:j<13,prims[j]'h=s->iE[j]'h=n
theorem ArOk.start(s:Byt)(n:Nat):ArOk s n 0:=fun j hj=>by omega
theorem ArOk.next{s:Byt}(h:ArOk s n k)(hk:k<13)(he:prims[k]'hk=s->iE[k]'hk=n):ArOk s n (k+1):=fun j hj hl e=>by
 by_cases h1:j=k
 ·subst h1;exact he e
 ·exact h j (by omega) hl e
theorem jD:∀k:Nat,∀h:k<13,iE[k]'h=arity (prims[k]'h):=by decide
theorem ArOk.done{s:Byt}(h:ArOk s n 13)(hs:s∈prims):n=arity s:=by obtain⟨k,hk,rfl⟩:=List.getElem_of_mem hs;have hk':k<13:=hk;rw [<- h k hk' hk' rfl];exact jD k hk'
def aW:Nat->Byt
 | 0=>[43]
 | 1=>[45]
 | 2=>[42]
 | 3=>[60]
 | 4=>[61]
 | 5=>[99,111,110,115]
 | 6=>[99,97,114]
 | 7=>[99,100,114]
 | 8=>[110,117,108,108,63]
 | 9=>[112,97,105,114,63]
 | 10=>[101,113,63]
 | 11=>[100,105,115,112,108,97,121]
 | 12=>[99,97,108,108,47,99,99]
 | _=>[]
def arI:Nat->Int
 | 0=>2
 | 1=>2
 | 2=>2
 | 3=>2
 | 4=>2
 | 5=>2
 | 6=>1
 | 7=>1
 | 8=>1
 | 9=>1
 | 10=>2
 | 11=>1
 | 12=>1
 | _=>0
theorem bR:∀k:Nat,∀h:k<13,prims[k]'h=aW k:=by decide
theorem arI_eq:∀k:Nat,∀h:k<13,arI k=((iE[k]'h:Nat):Int):=by decide
theorem oD(h:k<13)(e:iE[k]'h=n):(arI k !=(n:Int))=false:=by rw [arI_eq k h,e];simp
theorem jW(h:k<13)(e:¬iE[k]'h=n):(arI k !=(n:Int))=true:=by rw [arI_eq k h];simp;omega
theorem ArOk.fail{s:Byt}(hk:k<13)(he:prims[k]'hk=s)(hn:¬iE[k]'hk=n):¬n=arity s:=by subst he;rw [<- jD k hk];exact fun e=>hn e.symm
theorem Res.pre{M:Nat->Prop}{wA:World}{xb:Nat}{r:SR}{e:Ending}(hb:Below w.heap.size w wA)(h:Res M wA wb xb r e w'):Res M w wb xb r e w':=by obtain⟨h1,M',h2,h3,h4⟩:=h;exact⟨h1,M',h2,((Stp.of_below hb).mx xb).trans h3,h4⟩
theorem fE{l:List PV}(h:l.length=2):∃a b,l=[a,b]:=by
 match l,h with
 | [a,b],_=>exact⟨a,b,rfl⟩
theorem jK{l:List PV}(h:l.length=1):∃a,l=[a]:=by
 match l,h with
 | [a],_=>exact⟨a,rfl⟩
theorem nullT(W:PW)(S:PS)(x:PV):applyB W S (.prim nullW) [x]=⟨0,W,S.give (.truth (vK x==[101,109,112,116,121]))⟩:=by cases x<;>rfl
theorem pairT(W:PW)(S:PS)(x:PV):applyB W S (.prim pairW) [x]=⟨0,W,S.give (.truth (vK x==[112,97,105,114]))⟩:=by cases x<;>rfl
theorem carT(W:PW)(S:PS)(i:Nat)(p:PV×PV)(h:W.pairs[i]?=some p):applyB W S (.prim carW) [.pair i]=⟨0,W,S.give p.1⟩:=by show(match W.pairs[i]? with | some p=>(⟨0,W,S.give (if carW=cdrW then p.2 else p.1)⟩:SR) | none=>⟨9,W,S⟩)=_;rw [h];rfl
theorem cdrT(W:PW)(S:PS)(i:Nat)(p:PV×PV)(h:W.pairs[i]?=some p):applyB W S (.prim cdrW) [.pair i]=⟨0,W,S.give p.2⟩:=by show(match W.pairs[i]? with | some p=>(⟨0,W,S.give (if cdrW=cdrW then p.2 else p.1)⟩:SR) | none=>⟨9,W,S⟩)=_;rw [h];rfl
theorem carN(W:PW)(S:PS)(x:PV)(h:∀i,x≠.pair i):applyB W S (.prim carW) [x]=⟨9,W,S⟩:=by
 cases x with
 | pair i=>exact absurd rfl (h i)
 | _=>rfl
theorem cdrN(W:PW)(S:PS)(x:PV)(h:∀i,x≠.pair i):applyB W S (.prim cdrW) [x]=⟨9,W,S⟩:=by
 cases x with
 | pair i=>exact absurd rfl (h i)
 | _=>rfl
theorem sameT(W:PW)(S:PS)(x y:PV)(b:Bool)(h:decide (x=y)=b):applyB W S (.prim sameW) [x,y]=⟨0,W,S.give (.truth b)⟩:=by subst h;rfl
theorem pv_ext(x y:PV)(h1:vK x=vK y)(h2:vN x=vN y)(h3:vS x=vS y):x=y:=by
 cases x<;>cases y<;>first
  | (simp [vK,kNu,kTr,kNa,kEmp,kNot,pI,s5,pJ,pH] at h1;done)
  | rfl
  | (simp only [vN] at h2;subst h2;rfl)
  | (simp only [vS] at h3;subst h3;rfl)
  | (simp only [vN] at h2;have h2:=Int.ofNat.inj h2;subst h2;rfl)
  | (rename_i a b;cases a<;>cases b<;>first | rfl | exact absurd h2 (by decide))
theorem aggP(n:Nat):bT (.pair n)=.agg #[.string ⟨#[112,97,105,114]⟩,.int .i64 n,.string ⟨#[]⟩]:=rfl
theorem eZ{W:PW}{S:PS}{s:Byt}{l:List PV}(h:¬l.length=arity s):applyB W S (.prim s) l=⟨10,W,S⟩:=by unfold applyB;dsimp only;rw [if_pos h]
structure PlJ(w0 w:World)(wb:Nat)(W:PW)(pv qv cv lv gv:Value)(qs cs:List Value)(l:List PV)(lv':Value):Prop where
 old:RWs w0 wb W pv qv cv lv gv qs cs
 chg:Chg w0 w wb lv.ownBlock
 blk:w.heap[wb]?=some (.cells #[pv,qv,cv,lv',gv,byV W.out] TWd (0,0))
 row:w.ownsRow 0 TV 3 lv' (W.places.length+l.length) ((W.places++l).flatMap cZ)
 at_:∀k,lv'.ownBlock=some k->lv.ownBlock=some k\/w0.heap.size<=k
theorem PlJ.start{W:PW}(h:RWs w0 wb W pv qv cv lv gv qs cs)(hB:Below w0.heap.size w0 w):PlJ w0 w wb W pv qv cv lv gv qs cs [] lv:=by have h':=h.later (fun k hk=>hB.block k hk) (Stp.of_below hB);exact⟨h,⟨hB.os,hB.tape,hB.output,hB.size,fun k hk _ _=>hB.block k hk⟩,h'.blk,by simpa using h'.pl,fun k hk=>.inl hk⟩
theorem PlJ.grown{W:PW}{l:List PV}(h:PlJ w0 w wb W pv qv cv lv gv qs cs l lv'){row:Option Nat}(hg:w.grownBy w' row)(hr:∀k,row=some k->w0.heap.size<=k/\lv'.ownBlock≠some k):PlJ w0 w' wb W pv qv cv lv gv qs cs l lv':=by
 have hwb:=aB h.old.blk;have hsz:=h.chg.size;refine⟨h.old,⟨hg.os.trans h.chg.os,hg.tape.trans h.chg.tape,hg.output.trans h.chg.output,Nat.le_trans hsz hg.size,fun k hk h1 h2=>?_⟩,?_,?_,h.at_⟩
 ·rw [hg.block k (by omega) (fun e=>by have:=(hr k e.symm).1;omega)];exact h.chg.block k hk h1 h2
 ·rw [hg.block wb (aB h.blk) (fun e=>by have:=(hr wb e.symm).1;omega)];exact h.blk
 ·refine⟨h.row.1,?_⟩;rcases h.row.2 with hn | ⟨g,cap,cur,rfl,h0,hgg,rest⟩
  ·exact .inl hn
  ·exact .inr ⟨g,cap,cur,rfl,h0,(hg.block g (aB hgg) (fun e=>(hr g e.symm).2 rfl)).trans hgg,rest⟩
theorem PlJ.later{W:PW}{l:List PV}(h:PlJ w0 w wb W pv qv cv lv gv qs cs l lv')(hB:Below w.heap.size w w'):PlJ w0 w' wb W pv qv cv lv gv qs cs l lv' :=h.grown (aQ none hB) (fun k e=>by cases e)
theorem PlJ.done{W:PW}{l:List PV}(h:PlJ w0 w wb W pv qv cv lv gv qs cs l lv') :RWs w wb {W with places:=W.places++l} pv qv cv lv' gv qs cs/\Stp (Mof wb [pv,qv,cv,lv,gv]) w0 (Mof wb [pv,qv,cv,lv',gv]) w:=by have ht:=aN h.old.pl;have hs:Stp (Mof wb [pv,qv,cv,lv,gv]) w0 (Mof wb [pv,qv,cv,lv',gv]) w :=h.chg.stp (fun k hk=>.inr ⟨lv,by simp,hk⟩) (fJ (v:=lv) (v':=lv') (by simp) (by intro x hx;simp only [List.mem_cons,List.not_mem_nil,or_false] at hx ⊢;rcases hx with rfl | rfl | rfl | rfl | rfl<;>simp) h.at_);refine⟨h.old.upd hs h.blk (aL h.old.pr h.chg h.old.blk ht (by decide) (by decide)) (aL h.old.pc h.chg h.old.blk ht (by decide) (by decide)) (aL h.old.cn h.chg h.old.blk ht (by decide) (by decide)) ?_ (aL h.old.gl h.chg h.old.blk ht (by decide) (by decide)) h.old.out (fun i p hi=>.inl ⟨hi,rfl,rfl⟩) (fun i fs hi=>.inl ⟨hi,rfl⟩),hs⟩;simpa using h.row
theorem rW(w0 w:World)(wb:Nat)(W:PW)(pv qv cv lv gv:Value)(qs cs:List Value)(l:List PV)(lv':Value)(x:PV)(h:PlJ w0 w wb W pv qv cv lv gv qs cs l lv')(hn:W.places.length+l.length<=1000000000) :Calls prog 125 #[.pointer (some ⟨wb,0,none⟩),bT x] w fun e w'=>e=.returned (.int .i64 ((W.places.length+l.length:Nat):Int))/\∃lv'',PlJ w0 w' wb W pv qv cv lv gv qs cs (l++[x]) lv''/\w.heap.size<=w'.heap.size/\(∀k,k<w.heap.size->k≠wb->lv'.ownBlock≠some k->w'.heap[k]?=w.heap[k]?)/\(∀k,lv''.ownBlock=some k->lv'.ownBlock=some k\/w.heap.size<=k):=by
 obtain⟨i0,hi0,hz0,hz1,hz2⟩:=info_parts Tryz.infoV;have H:Hid _:=h;have hlt:=aB h.blk;have c3:w.cell? ⟨wb,3,none⟩=some lv':=aA h.blk 3;obtain⟨a1,a2,a3,a4⟩:=bM (o:=3) hlt;clear h;obtain⟨N,hN⟩:∃N,N=W.places.length+l.length:=⟨_,rfl⟩
 have HN:Hid (N=W.places.length+l.length):=hN;rw [<- hN] at hn;clear hN;have HRow:Hid (w.ownsRow 0 TV 3 lv' N ((W.places++l).flatMap cZ)):=show World.ownsRow _ _ _ _ _ _ _ from by rw [HN.out];exact H.out.row
 unfold bT byV;go_enter func125,ntmps125;go_wp2_with fail
 go_region_law ((refine step_append_lies _ (by rfl) _ _ _ (by rfl) 0 154 i0 _ 3 40 underlying93 hi0 hz0 hz1 hz2 rfl (by omega) lv' N ((W.places++l).flatMap cZ) (by rfl) (((HRow.out.alloc _).alloc _).drew) ⟨w.heap.size+1,0,none⟩ 1 1 (cZ x) (by rfl) (by rfl) (World.news_of_block (cs:=#[byV (vK x),.int .i64 (vN x),byV (vS x)]) (t:=154) (fr:=(0,0)) (zN w _ _ _)) (by simp [Value.oneCell',cZ,byV]) (by omega) (by unfold maxLen;omega) (by omega) (by simp) (w.heap.size+2) (by simp) ?_;intro g3 cap3 w3 hown3 hgrow3 hat3 hlt3;obtain⟨k1,k2,k3⟩:=fD H.out.blk (jV w _ _) hgrow3 (aN HRow.out) (by decide) 3 lv' rfl))
 all_goals
  have Q1:Hid (PlJ w0 (w3.setCell ⟨wb,3,none⟩ (.slice (some ⟨g3,0,none⟩) (N+1) cap3)) wb W pv qv cv lv gv qs cs (l++[x]) (.slice (some ⟨g3,0,none⟩) (N+1) cap3)):=by
   have hw3:=mJ H.out.blk (jV w _ _) hgrow3 (aN HRow.out) (by decide);have hc:=dJ (jV w _ _) hgrow3 (wb:=wb) 3 (.slice (some ⟨g3,0,none⟩) (N+1) cap3);have hc0:=H.out.chg;refine⟨H.out.old,⟨hc.os.trans hc0.os,hc.tape.trans hc0.tape,hc.output.trans hc0.output,Nat.le_trans hc0.size hc.size,fun k hk h1 h2=>?_⟩,by rw [aD hw3];rfl,?_,?_⟩
   ·rw [hc.block k (Nat.lt_of_lt_of_le hk hc0.size) h1 ?_,hc0.block k hk h1 h2];intro e;rcases H.out.at_ k e.symm with h3 | h3
    ·exact h2 h3.symm
    ·omega
   ·have this:World.ownsRow _ 0 TV 3 _ _ _:=fH hw3 (by decide) 3 (.slice (some ⟨g3,0,none⟩) (N+1) cap3) hown3;rw [List.length_append,List.length_singleton,<-Nat.add_assoc,<-HN.out,<-List.append_assoc,List.flatMap_append];simpa using this
   ·intro k hk;simp only [Value.ownBlock,Option.some.injEq] at hk;subst hk;rcases hat3 with h3 | h3
    ·exact H.out.at_ _ h3
    ·have:=hc0.size;exact .inr (by omega)
  have Q2:Hid (w.heap.size<=(w3.setCell ⟨wb,3,none⟩ (.slice (some ⟨g3,0,none⟩) (N+1) cap3)).heap.size/\(∀k,k<w.heap.size->k≠wb->lv'.ownBlock≠some k->(w3.setCell ⟨wb,3,none⟩ (.slice (some ⟨g3,0,none⟩) (N+1) cap3)).heap[k]?=w.heap[k]?)/\(∀k,Value.ownBlock (.slice (some ⟨g3,0,none⟩) (N+1) cap3)=some k->lv'.ownBlock=some k\/w.heap.size<=k)):=by have hc:=dJ (jV w _ _) hgrow3 (wb:=wb) 3 (.slice (some ⟨g3,0,none⟩) (N+1) cap3);exact⟨hc.size,fun k hk h1 h2=>hc.block k hk h1 (fun e=>h2 e.symm),tH hat3 (by omega)⟩
  clear hown3 hgrow3 hat3 hlt3 H HRow;go_wp2_with fail;go_ret;exact⟨by rw [<- HN.out];go_num,_,Q1.out,Q2.out⟩
end
end Go.Proofs.YtkgbdddkcjpgfaaGreatDoor
