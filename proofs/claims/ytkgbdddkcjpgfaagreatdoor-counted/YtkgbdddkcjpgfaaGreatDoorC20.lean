import Derived.Test.YtkgbdddkcjpgfaaGreatDoorC14
import Derived.Deep.QuietTactic
import Derived.Test.YtkgbdddkcjpgfaaGreatDoorC04
namespace Go.Proofs.YtkgbdddkcjpgfaaGreatDoor
set_option maxHeartbeats 4000000
set_option maxRecDepth 100000
open Go.Proofs.Tryz
open Pl (PV PW Byt arity prims)
section
open Go.RowKit Go.Lib
structure Lie(w:World)(s:Sg)(ps:List (PV×PV))(b:Nat):Prop where
 pairs:∀(i k:Nat)(p:PV×PV),s.pb[i]?=some k->ps[i]?=some p->k<b/\∃x y,w.heap[k]?=some (.cells #[x,y] TPair (0,0))/\RV s x p.1/\RV s y p.2
 nodup:s.pb.Nodup
 len:s.pb.length=ps.length
 procs:∀(i k:Nat),s.qb[i]?=some k->k<b/\∃cs,w.heap[k]?=some (.cells cs (tyE s.tq) (0,0))
 conts:∀(i k:Nat),s.cb[i]?=some k->k<b/\∃cs,w.heap[k]?=some (.cells cs (tyE s.tc) (0,0))
 tab:Lib.TabIs prog w oS .u64 Lib.pow10Tab
 glob:8<=b
 eng:Eng s
 qn:s.qb.Nodup
 cn:s.cb.Nodup
theorem Lie.below{w w':World}{s:Sg}{ps:List (PV×PV)}{b:Nat}(h:Lie w s ps b)(hb:Below b w w'):Lie w' s ps b :=
 ⟨fun i k p h1 h2=>by
  obtain⟨h3,x,y,h4,h5⟩:=h.pairs i k p h1 h2
  exact⟨h3,x,y,(hb.block k h3).trans h4,h5⟩,h.nodup,h.len,fun i k h1=>by
  obtain⟨h3,cs,h4⟩:=h.procs i k h1
  exact⟨h3,cs,(hb.block k h3).trans h4⟩,fun i k h1=>by
  obtain⟨h3,cs,h4⟩:=h.conts i k h1
  exact⟨h3,cs,(hb.block k h3).trans h4⟩,iH (fun k hk=>hb.block k (Nat.lt_of_lt_of_le hk h.glob)) h.tab,h.glob,h.eng,h.qn,h.cn⟩
def SpPost(W:PW)(w:World)(b:Nat)(l:Byt)(p:PV)(e:Ending)(w':World):Prop :=e=.returned (.tuple #[])/\Txs b w w'/\∃l',TxtAt w' b l'/\Pl.Q l' (l++Pl.text W.pairs p)/\l'.length<=max l.length 200+300+min 10 (10*Pl.rank p)+min (201-l.length) (Pl.rank p)
def Spells(v:Value)(b:Nat)(w:World)(Q:Ending->World->Prop):Prop:=∃T x f x',v=.iface T x/\(Go.method 638 T x "Spell").run prog w=.ok (f,x') w/\Enters f/\Calls prog f #[x',.pointer (some ⟨b,0,none⟩)] w Q
def SpSaid(W:PW)(s:Sg)(b n:Nat):Prop:=∀(w:World)(l:Byt)(v:Value)(p:PV),TxtAt w b l->Lie w s W.pairs b->RV s v p->WfV W p->Pl.rank p<=n->l.length<=1000000000->Spells v b w (SpPost W w b l p)
theorem cH{W:PW}{w:World}{b:Nat}{l t:Byt}{p:PV}(ht:Pl.text W.pairs p=t)(hl:t.length<=300){e:Ending}{w':World}(h:AddPost w b l t e w'):SpPost W w b l p e w' :=⟨h.1,h.2.2,_,h.2.1,by rw [ht];exact Pl.Q.refl _,by simp only [List.length_append];omega⟩
theorem tR(W:PW)(s:Sg)(b:Nat)(w:World)(l:Byt)(v:Value)(p:PV)(ht:TxtAt w b l)(hL:Lie w s W.pairs b)(hv:RV s v p)(hw:WfV W p)(hl:l.length<=1000000000)(hp:∀i,p≠.pair i):Spells v b w (SpPost W w b l p):=by
 have htx:=Pl.text_atom W.pairs p hp
 cases hv with
 | pair i b h=>exact absurd rfl (hp i)
 | num n =>refine⟨_,_,_,_,rfl,Tryz.sp_num n w,Tryz.ent_num,(sC w b l n ht hl hw hL.tab).mono (fun e w' h=>cH htx ?_ h)⟩;have:=Lib.itoa_length_le n (by have:n.natAbs<=1099511627776:=hw;omega) (by have:n.natAbs<=1099511627776:=hw;omega);show(Lib.itoa n).length<=300;omega
 | truth x=>exact⟨_,_,_,_,rfl,Tryz.sp_truth x w,Tryz.ent_truth,(uQ w b l x ht hl).mono (fun e w' h=>cH htx (by cases x<;>decide) h)⟩
 | name t=>exact⟨_,_,_,_,rfl,Tryz.sp_name _ w,Tryz.ent_name,(yI w b l t ht hl hw).mono (fun e w' h=>cH htx hw h)⟩
 | empty=>exact⟨_,_,_,_,rfl,Tryz.sp_empty w,Tryz.ent_empty,(uR w b l ht hl).mono (fun e w' h=>cH htx (by decide) h)⟩
 | nothing=>exact⟨_,_,_,_,rfl,Tryz.sp_nothing w,Tryz.ent_nothing,(oU w b l ht).mono (fun e w' h=>cH htx (by decide) h)⟩
 | proc i k h =>obtain⟨_,cs,hk⟩:=hL.procs i k h;exact⟨_,_,_,_,rfl,hL.eng.spq k w cs hk,Tryz.ent_app,(lS w b l ht hl).mono (fun e w' h=>cH htx (show Pl.procW.length<=300 from by decide) h)⟩
 | cont i k h =>obtain⟨_,cs,hk⟩:=hL.conts i k h;exact⟨_,_,_,_,rfl,hL.eng.spc k w cs hk,Tryz.ent_app,(lS w b l ht hl).mono (fun e w' h=>cH htx (show Pl.procW.length<=300 from by decide) h)⟩
 | prim k t h hk=>exact⟨_,_,_,_,rfl,Tryz.sp_prim _ w,Tryz.ent_prim,(yG w b l _ ht hl).mono (fun e w' h=>cH htx (show Pl.procW.length<=300 from by decide) h)⟩
 | callcc=>exact⟨_,_,_,_,rfl,Tryz.sp_callcc w,Tryz.ent_callcc,(sD w b l ht hl).mono (fun e w' h=>cH htx (by decide) h)⟩
theorem idx_of{s:Sg}{j k:Nat}(hn:s.pb.Nodup)(h:s.pb[j]?=some k):s.pb.idxOf k=j:=by obtain⟨hj,rfl⟩:=List.getElem?_eq_some_iff.1 h;exact hn.idxOf_getElem j hj
def SpInv(W:PW)(w:World)(b:Nat)(l:Byt)(i:Nat)(wr:World)(j:Nat)(lk:Byt):Prop :=TxtAt wr b lk/\Txs b w wr/\j<=i/\(l.length<lk.length/\lk.length<=max l.length 200+310+min (201-l.length) (i+1))/\∃q,W.pairs[j]?=some q/\Pl.Q (lk++(Pl.text W.pairs q.1++Pl.tl W.pairs q.2)) (l++Pl.text W.pairs (.pair i))
def blkOf:Value->Nat
 | .pointer (some a)=>a.block
 | _=>0
theorem yH(W:PW)(hP:WfQ W)(s:Sg)(b n:Nat)(hS:SpSaid W s b n)(w:World)(l:Byt)(i k:Nat)(ht:TxtAt w b l)(hL:Lie w s W.pairs b)(hk:s.pb[i]?=some k)(hi:i<=n)(hl:l.length<=1000000000) :Calls prog 399 #[.pointer (some ⟨k,0,none⟩),.pointer (some ⟨b,0,none⟩)] w fun e w'=>SpPost W w b l (.pair i) e w':=by
 have HS:Hid (SpSaid W s b n):=hS;have HP:Hid (WfQ W):=hP;have HL:Hid (Lie w s W.pairs b):=hL;have HT:Hid (TxtAt w b l):=ht;have HN:Hid (l.length<=1000000000/\i<W.pairs.length/\i<=n/\True):=⟨hl,by have:=(List.getElem?_eq_some_iff.1 hk).1;rw [hL.len] at this;exact this,hi,trivial⟩
 have HK:Hid (s.pb[i]?=some k):=hk;clear hS hP hL ht hk hi hl;go_enter func399,ntmps399
 go_upto_region 1 with(go_at_call 335;refine(jI _ b l _ HT.out (by have:=HN.out.1;show l.length+1<=_;omega)).mono ?_;rintro e w1 ⟨rfl,ht1,hB1⟩)
 have H1:Hid (SpInv W w b l i w1 i (l++[40])):=by
  obtain⟨q,hq⟩:∃q,W.pairs[i]?=some q:=⟨_,List.getElem?_eq_getElem HN.out.2.1⟩
  refine show SpInv _ _ _ _ _ _ _ _ from⟨ht1,hB1,Nat.le_refl _,⟨by simp,by simp;omega⟩,q,hq,?_⟩;rw [Pl.text_pair HP.out.acy hq];simp [Pl.Q]
 clear ht1 hB1
 go_loopw [0] (fun pv wr=>∃(j kj:Nat)(lk:Byt),pv=.pointer (some ⟨kj,0,none⟩)/\Hid (s.pb[j]?=some kj)/\Hid (SpInv W w b l i wr j lk)) (fun pv _=>s.pb.idxOf (blkOf pv))
 case atStart=>exact⟨i,k,_,rfl,HK,H1⟩
 case round =>
  obtain⟨j,kj,lk,rfl,HJ,HI⟩:=hrel;obtain⟨htk,hBk,hji,hlk,q,hq,hQ⟩:=HI.out;obtain⟨hkb,x,y,hkc,hx,hy⟩:=HL.out.pairs j kj q HJ.out hq;have hkc2:=(hBk.block kj hkb).trans hkc;have x0:wr.cell? ⟨kj,0,none⟩=some x:=aA hkc2 0;have x1:wr.cell? ⟨kj,1,none⟩=some y:=aA hkc2 1;have HLk:Hid (l.length<lk.length/\lk.length<=140000000000000):=⟨hlk.1,by have:=HN.out.1;have:=hlk.2;omega⟩
  have HQ:Hid (Pl.Q (lk++(Pl.text W.pairs q.1++Pl.tl W.pairs q.2)) (l++Pl.text W.pairs (.pair i))):=hQ;have HB:Hid (Txs b w wr):=hBk;have HTk:Hid (TxtAt wr b lk):=htk;have HF:Hid (Calls prog 193 #[.pointer (some ⟨b,0,none⟩)] wr fun e w'=>e=.returned (.bool (decide (200<lk.length)))/\wr=w'):=uZ wr b lk htk HLk.out.2;by_cases hfull:200<lk.length
  ·have hd:decide (200<lk.length)=true:=by simpa using hfull
   rw [hd] at HF;have HX:Hid (SpPost W w b l (.pair i) (.returned (.tuple #[])) wr):=⟨rfl,hBk,lk,htk,(by have:=(Pl.Q.long (a:=lk) [] (Pl.text W.pairs q.1++Pl.tl W.pairs q.2) hfull).trans hQ;simpa using this),by have:=hlk.2;simp only [Pl.rank];omega⟩
   clear hx hy hkc hkc2 hQ hq htk hBk hlk;go_wp2_with (go_at_call 193;refine Calls.mono HF.out ?_;rintro e w' ⟨rfl,rfl⟩)
   all_goals
    go_end0
    exact HX.out
  ·have hd:decide (200<lk.length)=false:=by simpa using hfull
   rw [hd] at HF;have hwf:=HP.out.vals j q hq;have hrk:=HP.out.acy j q hq;obtain⟨T,x',f,xr,rfl,hmet,hent,hcall⟩:=HS.out wr lk x q.1 htk (HL.out.below hBk.below) hx hwf.1 (by have:=HN.out.2.2.1;omega) (by omega);unfold Enters at hent;have HC:Hid (Calls prog f #[xr,.pointer (some ⟨b,0,none⟩)] wr (SpPost W wr b lk q.1)):=hcall;have HW:Hid (WfV W q.2/\Pl.rank q.1<=j/\Pl.rank q.2<=j/\RV s y q.2/\W.pairs[j]?=some q/\j<=i/\kj<b/\lk.length<=200):=⟨hwf.2,hrk.1,hrk.2,hy,hq,hji,hkb,by omega⟩
   have HKc:Hid (wr.heap[kj]?=some (.cells #[.iface T x',y] TPair (0,0))):=hkc2;rcases hy.asPair HL.out.eng with⟨m,km,hqm,hkm,rfl⟩ | ⟨hnp,T2,x2,rfl,hno⟩
   ·clear hcall hx hy hkc hkc2 hQ hq htk hBk hlk hwf hrk hji hkb
    go_wp2_with (first
     | (go_at_call 193;refine Calls.mono HF.out ?_;rintro e w' ⟨rfl,rfl⟩)
     | (refine Calls.mono HC.out ?_;rintro e w2 ⟨rfl,hB2,l2,ht2,hQ2,hl2⟩;have x1':w2.cell? ⟨kj,1,none⟩=some (.iface 367 (.pointer (some ⟨km,0,none⟩))):=(hB2.cell (p:=⟨kj,1,none⟩) HW.out.2.2.2.2.2.2.1).trans x1;have as1:=@fC 367)
     | (go_at_call 335;refine(jI _ b l2 _ ht2 (by have:=HN.out;have:=HW.out;show l2.length+1<=_;have:=HN.out.1;omega)).mono ?_;rintro e w3 ⟨rfl,ht3,hB3⟩))
    go_roundw
    case rel =>
     have hm:m<W.pairs.length:=by have:=HW.out.1;rw [hqm] at this;exact this
     obtain⟨q',hq'⟩:∃q',W.pairs[m]?=some q':=⟨_,List.getElem?_eq_getElem hm⟩
     have hr:m+1<=j:=by have:=HW.out.2.2.1;rw [hqm] at this;exact this
     have hr1:=HW.out.2.1;have hji:=HW.out.2.2.2.2.2.1;have hl200:=HW.out.2.2.2.2.2.2.2;refine⟨m,km,_,rfl,hkm,show SpInv _ _ _ _ _ _ _ _ from⟨ht3,(HB.out.trans hB2).trans hB3,by omega,?_,q',hq',?_⟩⟩
     ·have e1:(l2++([32]:List UInt8)).length=l2.length+1:=by simp
      have e2:=congrArg List.length hQ2;simp only [List.length_take,List.length_append] at e2;have e3:=HLk.out.1;show l.length<(l2++([32]:List UInt8)).length/\(l2++([32]:List UInt8)).length<=_;omega
     ·refine Pl.Q.trans ?_ HQ.out;have ht:=Pl.tl_pair HP.out.acy hq';have h1:=hQ2.app (Pl.tl W.pairs q.2);rw [hqm,ht] at h1;rw [hqm,ht];show Pl.Q ((l2++[32])++_) _;simpa using h1
    case measure =>
     have hr:m+1<=j:=by have:=HW.out.2.2.1;rw [hqm] at this;exact this
     show s.pb.idxOf km<s.pb.idxOf kj;rw [idx_of HL.out.nodup hkm,idx_of HL.out.nodup HJ.out];omega
   ·have HE:=(hy.eqEmpty HL.out.eng)
    have HNP:Hid (∀k,q.2≠.pair k):=hnp;clear hcall hx hy hkc hkc2 hQ hq htk hBk hlk hwf hrk hji hkb hnp
    go_upto_region 7 with(first
     | (go_at_call 193;refine Calls.mono HF.out ?_;rintro e w' ⟨rfl,rfl⟩)
     | (refine Calls.mono HC.out ?_;rintro e w2 ⟨rfl,hB2,l2,ht2,hQ2,hl2⟩;have x1':w2.cell? ⟨kj,1,none⟩=some (.iface T2 x2):=(hB2.cell (p:=⟨kj,1,none⟩) HW.out.2.2.2.2.2.2.1).trans x1))
    have hl2':l2.length<=510+min (201-l.length) (i+1):=by have:=HW.out.2.1;have:=HW.out.2.2.2.2.2.1;have:=HW.out.2.2.2.2.2.2.2;have:=HLk.out.1;omega
    have HF2:Hid (Calls prog 193 #[.pointer (some ⟨b,0,none⟩)] w2 fun e w'=>e=.returned (.bool (decide (200<l2.length)))/\w2=w'):=uZ w2 b l2 ht2 (by omega);have HQ3:Hid (Pl.Q (l2++Pl.tl W.pairs q.2) (l++Pl.text W.pairs (.pair i))):=show Pl.Q _ _ from Pl.Q.trans (by simpa using hQ2.app (Pl.tl W.pairs q.2)) HQ.out;have HB3:Hid (Txs b w w2):=HB.out.trans hB2;have HT2:Hid (TxtAt w2 b l2):=ht2;have HL2:Hid (l2.length<=510+min (201-l.length) (i+1)):=hl2';clear ht2 hB2 hQ2 hl2 hl2' HC x0 x1 hmet hent hno;by_cases hf2:200<l2.length
    ·have hd2:decide (200<l2.length)=true:=by simpa using hf2
     rw [hd2] at HF2;have HX:Hid (SpPost W w b l (.pair i) (.returned (.tuple #[])) w2):=⟨rfl,HB3.out,l2,HT2.out,(by have:=(Pl.Q.long (a:=l2) [] (Pl.tl W.pairs q.2) hf2).trans HQ3.out;simpa using this),by have:=HL2.out;simp only [Pl.rank];omega⟩
     go_wp2_with (go_at_call 193;refine Calls.mono HF2.out ?_;rintro e w' ⟨rfl,rfl⟩)
     go_end0
     exact HX.out
    ·have hd2:decide (200<l2.length)=false:=by simpa using hf2
     rw [hd2] at HF2;have HL3:Hid (l2.length<=200):=show l2.length<=200 from by omega
     have hne:=neq_of (HE w2);by_cases hem:q.2=.empty
     ·rw [hem] at hne HQ3;have hne':(binOp .neq 161 (.iface T2 x2) (.iface 366 (.agg #[]))).run prog w2=.ok (.bool false) w2:=hne;clear hne hem HE
      go_wp2_with (first
       | (go_at_call 193;refine Calls.mono HF2.out ?_;rintro e w' ⟨rfl,rfl⟩)
       | (go_at_call 335;refine(jI _ b l2 _ HT2.out (by have:=HL3.out;show l2.length+1<=_;omega)).mono ?_;rintro e w3 ⟨rfl,ht3,hB3⟩))
      go_end0
      exact⟨rfl,HB3.out.trans hB3,_,ht3,HQ3.out,by have:=HL3.out;show(l2++([41]:List UInt8)).length<=_;simp only [List.length_append,List.length_cons,List.length_nil,Pl.rank];omega⟩
     ·have hne':(binOp .neq 161 (.iface T2 x2) (.iface 366 (.agg #[]))).run prog w2=.ok (.bool true) w2:=by rw [hne];simp [hem]
      have hta:=Pl.tl_atom W.pairs q.2 HNP.out hem
      have hr0:Pl.rank q.2=0:=by
       cases hq2:q.2 with
       | pair k=>exact absurd hq2 (HNP.out k)
       | _=>rfl
      have HR:Hid (Pl.tl W.pairs q.2=[32,46,32]++Pl.text W.pairs q.2++[41]/\Pl.rank q.2=0):=⟨hta,hr0⟩
      clear hne hem HE hta hr0
      go_upto_region 10 with(first
       | (go_at_call 193;refine Calls.mono HF2.out ?_;rintro e w' ⟨rfl,rfl⟩)
       | (go_at_call 335;refine(jI _ b l2 _ HT2.out (by have:=HL3.out;show l2.length+3<=_;omega)).mono ?_;rintro e w3 ⟨rfl,ht3,hB3⟩))
      have HT3:Hid (TxtAt w3 b (l2++[32,46,32])):=ht3;have HB4:Hid (Txs b w w3):=HB3.out.trans hB3;obtain⟨T3,x3,f3,xr3,e3,hmet3,hent3,hcall3⟩:=HS.out w3 (l2++[32,46,32]) _ q.2 ht3 (HL.out.below HB4.out.below) HW.out.2.2.2.1 HW.out.1 (by rw [HR.out.2];exact Nat.zero_le _) (by have:=HL3.out;simp only [List.length_append,List.length_cons,List.length_nil];omega);simp only [Value.iface.injEq] at e3;obtain⟨rfl,rfl⟩:=e3;unfold Enters at hent3;have HC3:Hid (Calls prog f3 #[xr3,.pointer (some ⟨b,0,none⟩)] w3 (SpPost W w3 b (l2++[32,46,32]) q.2)):=hcall3;have x13:w3.cell? ⟨kj,1,none⟩=some (.iface T2 x2):=(hB3.cell (p:=⟨kj,1,none⟩) HW.out.2.2.2.2.2.2.1).trans x1';clear hcall3 ht3 hB3 x1' hne'
      go_wp2_with (first
       | (go_at_call 335;refine(jI _ b l4 _ HT4.out (by have:=HL4.out;show l4.length+1<=_;omega)).mono ?_;rintro e w5 ⟨rfl,ht5,hB5⟩)
       | (refine Calls.mono HC3.out ?_;rintro e w4 ⟨rfl,hB4,l4,ht4,hQ4,hl4⟩;have HT4:Hid (TxtAt w4 b l4):=ht4;have HL4:Hid (l4.length<=503):=show l4.length<=503 from(by have:=HL3.out;have:=HR.out.2;simp only [List.length_append,List.length_cons,List.length_nil] at hl4;omega)))
      go_end0
      refine⟨rfl,(HB4.out.trans hB4).trans hB5,_,ht5,?_,by have:=HL4.out;show(l4++([41]:List UInt8)).length<=_;simp only [List.length_append,List.length_cons,List.length_nil,Pl.rank];omega⟩;refine Pl.Q.trans ?_ HQ3.out;rw [HR.out.1];have:=hQ4.app [41];show Pl.Q (l4++[41]) _;simpa using this
theorem uP(W:PW)(hP:WfQ W)(s:Sg)(b:Nat):∀n,SpSaid W s b n
 | 0=>fun w l v p ht hL hv hw hr hl=>tR W s b w l v p ht hL hv hw hl (fun i e=>by subst e;simp [Pl.rank] at hr)
 | n+1=>fun w l v p ht hL hv hw hr hl=>by
  by_cases hp:∃i,p=.pair i
  ·obtain⟨i,rfl⟩:=hp
   cases hv with
   | pair _ k hk=>exact⟨_,_,_,_,rfl,Tryz.sp_pair k w,Tryz.ent_pair,yH W hP s b n (uP W hP s b n) w l i k ht hL hk (by simp only [Pl.rank] at hr;omega) hl⟩
  ·exact tR W s b w l v p ht hL hv hw hl (fun i e=>hp ⟨i,e⟩)
theorem aBW(w:World):TxtAt (w.alloc (.cells #[.slice none 0 0] TTxt)) w.heap.size []:=⟨_,heap_alloc_new w _,World.ownsRow_nil _ _ _ _⟩
theorem hH(W:PW)(hP:WfQ W)(s:Sg)(w:World)(v:Value)(p:PV)(hL:Lie w s W.pairs w.heap.size)(hv:RV s v p)(hw:WfV W p) :Calls prog 126 #[v] w fun e w'=>e=.returned (.string ⟨(Pl.cut (Pl.text W.pairs p)).toArray⟩)/\Below w.heap.size w w':=by
 have hB:Below w.heap.size w (w.alloc (.cells #[.slice none 0 0] TTxt)):=cX w _ _ (Nat.le_refl _);obtain⟨T,x,f,xr,rfl,hmet,hent,hcall⟩:=uP W hP s w.heap.size (Pl.rank p) _ [] v p (aBW w) (hL.below hB) hv hw (Nat.le_refl _) (by simp);have HB:Hid (Below w.heap.size w (w.alloc (.cells #[.slice none 0 0] TTxt))):=hB;have HC:Hid (Calls prog f #[xr,.pointer (some ⟨w.heap.size,0,none⟩)] (w.alloc (.cells #[.slice none 0 0] TTxt)) (SpPost W (w.alloc (.cells #[.slice none 0 0] TTxt)) w.heap.size [] p)):=hcall;unfold Enters at hent;unfold TTxt at hmet;clear hcall hL hv hw hB hP;go_enter func126,ntmps126
 go_wp2_with (first
  | (go_at_call 168;refine(p_told _ _ l4 HT4.out HL4.out).mono ?_;rintro e w5 ⟨rfl,rfl⟩)
  | (refine Calls.mono HC.out ?_;rintro e w4 ⟨rfl,hB4,l4,ht4,hQ4,hl4⟩;have HT4:Hid (TxtAt w4 w.heap.size l4):=ht4;have HL4:Hid (l4.length<=140000000000000):=show l4.length<=_ from(by simp only [List.length_nil] at hl4;omega)))
 go_ret;exact⟨by rw [hQ4.cut];rfl,HB.out.trans hB4.below⟩
def Prm(w:World):Prop:=∀(k:Nat)(nm:Byt),prims[k]?=some nm->k<12->w.cell? ⟨1,k*2,none⟩=some (.string ⟨nm.toArray⟩)/\w.cell? ⟨1,k*2+1,none⟩=some (.int .i64 (arity nm:Nat))
theorem gR(nm:ByteArray)(n:Nat)(ao:Option Addr)(len cap:Nat)(w:World)(hn:n<=1000000000)(hs:nm.size<=1000) :Calls prog 298 #[.string nm,.int .i64 (n:Int),.slice ao len cap] w fun e w'=>w=w'/\((len=n/\e=.returned .nilIface)\/(len≠n/\∃es,e=.returned (aY es 10))):=by
 by_cases h:len=n
 ·subst h;go_enter func298,ntmps298;go_wp2_with fail;go_ret;exact⟨rfl,.inl ⟨trivial,rfl⟩⟩
 ·have hne:((len:Int)!=(n:Int))=true:=by simp;omega
  have hne2:((len:Int)==(n:Int))=false:=by simp;omega
  go_enter func298,ntmps298
  go_wp2_with (go_at_call 78;refine(bJ _ _ _).mono ?_;rintro e w' ⟨rfl,rfl⟩)
  go_ret;exact⟨rfl,.inr ⟨h,_,rfl⟩⟩
theorem lQ{nm:Byt}(h:nm∈prims):nm.length<=10:=by
 have:∀x∈prims,x.length<=10:=by decide
 exact this nm h
theorem dD(k:Nat)(nm:Byt)(code:Int)(w:World)(hp:Prm w)(hk:prims[k]?=some nm)(h12:k<12) :Calls prog 326 #[.int .i64 (k:Int),.int .i64 code] w fun e w'=>w=w'/\∃es,e=.returned (aY es code):=by
 obtain⟨c0,_⟩:=hp k nm hk h12;have hs:=lQ (List.mem_of_getElem? hk);have h0:(0:Int)<=(k:Int):=by omega
 have h1:(k:Int)<12:=by omega
 clear hp hk;go_enter func326,ntmps326;go_wp2_with (go_at_call 78;refine(bJ _ _ _).mono ?_;rintro e w' ⟨rfl,rfl⟩);go_ret;exact⟨rfl,_,rfl⟩
theorem uS(n:Int)(w:World)(hn:n.natAbs<=4611686018427387904):Calls prog 329 #[.int .i64 n] w fun e w'=>w=w'/\e=.returned (.int .i64 (n.natAbs:Int)):=by
 have h1:wrap64 (-n)=-n:=by unfold wrap64;omega
 go_enter func329,ntmps329
 go_wp2_with fail
 go_ret;exact⟨rfl,congrArg (fun x=>Ending.returned (.int .i64 x)) (show max n (-n)=_ from by omega)⟩
theorem le_big(n:Int):decide ((n.natAbs:Int)<=1099511627776)=decide (n.natAbs<=Pl.big):=by rw [decide_eq_decide];unfold Pl.big;omega
theorem uV(x y:Int)(w:World)(hx:x.natAbs<=Pl.big)(hy:y.natAbs<=Pl.big):Calls prog 328 #[.int .i64 0,.int .i64 x,.int .i64 y] w fun e w'=>w=w'/\e=.returned (.tuple #[.int .i64 (x+y),.bool (decide ((x+y).natAbs<=Pl.big))]):=by
 have hb:=le_big (x+y);unfold Pl.big at hx hy;have h1:wrap64 (x+y)=x+y:=by unfold wrap64;omega
 go_enter func328,ntmps328
 go_wp2_with (go_at_call 329;refine(uS _ _ (by omega)).mono ?_;rintro e w' ⟨rfl,rfl⟩)
 go_ret2;exact⟨rfl,rfl⟩
theorem uT(x y:Int)(w:World)(hx:x.natAbs<=Pl.big)(hy:y.natAbs<=Pl.big):Calls prog 328 #[.int .i64 1,.int .i64 x,.int .i64 y] w fun e w'=>w=w'/\e=.returned (.tuple #[.int .i64 (x-y),.bool (decide ((x-y).natAbs<=Pl.big))]):=by
 have hb:=le_big (x-y);unfold Pl.big at hx hy;have h1:wrap64 (x-y)=x-y:=by unfold wrap64;omega
 go_enter func328,ntmps328
 go_wp2_with (go_at_call 329;refine(uS _ _ (by omega)).mono ?_;rintro e w' ⟨rfl,rfl⟩)
 go_ret2;exact⟨rfl,rfl⟩
theorem zQ(x y:Int)(hx:x≠0):decide ((y.natAbs:Int)<=1099511627776 / (x.natAbs:Int))=decide ((x*y).natAbs<=Pl.big):=by
 rw [decide_eq_decide];have h0:(0:Int)<(x.natAbs:Int):=by omega
 rw [Int.le_ediv_iff_mul_le h0,Int.natAbs_mul];unfold Pl.big;constructor
 ·intro h;have:((y.natAbs*x.natAbs:Nat):Int)<=1099511627776:=by simpa using h
  rw [Nat.mul_comm];omega
 ·intro h;have:((x.natAbs*y.natAbs:Nat):Int)<=1099511627776:=by omega
  rw [Nat.mul_comm] at this;simpa using this
theorem uU(x y:Int)(w:World)(hx:x.natAbs<=Pl.big)(hy:y.natAbs<=Pl.big):Calls prog 328 #[.int .i64 2,.int .i64 x,.int .i64 y] w fun e w'=>Below w.heap.size w w'/\∃r,((x*y).natAbs<=Pl.big->r=x*y)/\e=.returned (.tuple #[.int .i64 r,.bool (decide ((x*y).natAbs<=Pl.big))]):=by
 have hw:(x*y).natAbs<=Pl.big->IntKind.i64.wrap (x*y)=x*y:=fun h=>by rw [IntKind.wrap_i64];unfold Pl.big at h;omega
 unfold Pl.big at hx hy;by_cases h0:x=0
 ·subst h0;have hz:(0:Int)*y=0:=by omega
  have hd:decide (((0:Int)*y).natAbs<=Pl.big)=true:=by rw [hz];rfl
  go_enter func328,ntmps328
  go_wp2_with fail
  go_region
  all_goals
   go_wp2_with fail
   go_ret2;exact⟨(Below.refl _ _).drew,0,fun _=>hz.symm,by rw [hd];rfl⟩
 ·have hb:(x==0)=false:=by simpa using h0
  have hm:=zQ x y h0;have hq:(x.natAbs:Int)≠0:=by omega
  have hqq:IntKind.i64.wrap (Int.tdiv 1099511627776 (x.natAbs:Int))=1099511627776 / (x.natAbs:Int):=by rw [IntKind.wrap_i64,Int.tdiv_eq_ediv_of_nonneg (by decide)];have h3:1099511627776 / (x.natAbs:Int)<=1099511627776:=Int.ediv_le_self _ (by decide);have h4:0<=1099511627776 / (x.natAbs:Int):=Int.ediv_nonneg (by decide) (by omega);omega
  have hm2:decide ((y.natAbs:Int)<=IntKind.i64.wrap (Int.tdiv 1099511627776 (x.natAbs:Int)))=decide ((x*y).natAbs<=Pl.big):=by rw [hqq];exact hm
  clear hqq hm;go_enter func328,ntmps328;go_wp2_with fail;go_region_with (go_at_call 329;refine(uS _ _ (by omega)).mono ?_;rintro e w' ⟨rfl,rfl⟩)
  all_goals
   go_wp2_with fail
   go_ret2;refine⟨(Below.refl _ _).drew,_,hw,?_⟩
   go_simp
end
end Go.Proofs.YtkgbdddkcjpgfaaGreatDoor
