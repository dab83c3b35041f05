import Derived.Test.YtkgbdddkcjpgfaaGreatDoorS18
import Derived.Deep.QuietTactic
import Derived.Test.YtkgbdddkcjpgfaaGreatDoorS07
import Derived.Test.YtkgbdddkcjpgfaaGreatDoorS12
namespace Go.Proofs.YtkgbdddkcjpgfaaGreatDoor
set_option maxHeartbeats 4000000
set_option maxRecDepth 100000
open Go.Proofs.Tryz
open Pl (PV PW Byt arity prims)
section
open Go.RowKit Go.Lib
structure Lie(w:World)(s:Sg)(ps:List (PV×PV))(b:Nat):Prop where
 pairs:∀(i k:Nat)(p:PV×PV),s.pb[i]?=some k->ps[i]?=some p->k<b/\∃x y,w.heap[k]?=some (.cells #[x,y] TPair (0,0))/\RV s x p.1/\RV s y p.2
 nodup:s.pb.Nodup
 len:s.pb.length=ps.length
 procs:∀(i k:Nat),s.qb[i]?=some k->k<b/\∃cs,w.heap[k]?=some (.cells cs (tyE s.tq) (0,0))
 conts:∀(i k:Nat),s.cb[i]?=some k->k<b/\∃cs,w.heap[k]?=some (.cells cs (tyE s.tc) (0,0))
 tab:Lib.TabIs prog w oS .u64 Lib.pow10Tab
 glob:8<=b
 eng:Eng s
 qn:s.qb.Nodup
 cn:s.cb.Nodup
theorem Lie.below{w w':World}{s:Sg}{ps:List (PV×PV)}{b:Nat}(h:Lie w s ps b)(hb:Below b w w'):Lie w' s ps b :=
 ⟨fun i k p h1 h2=>by
  obtain⟨h3,x,y,h4,h5⟩:=h.pairs i k p h1 h2
  exact⟨h3,x,y,(hb.block k h3).trans h4,h5⟩,h.nodup,h.len,fun i k h1=>by
  obtain⟨h3,cs,h4⟩:=h.procs i k h1
  exact⟨h3,cs,(hb.block k h3).trans h4⟩,fun i k h1=>by
  obtain⟨h3,cs,h4⟩:=h.conts i k h1
  exact⟨h3,cs,(hb.block k h3).trans h4⟩,iH (fun k hk=>hb.block k (Nat.lt_of_lt_of_le hk h.glob)) h.tab,h.glob,h.eng,h.qn,h.cn⟩
def SpPost(W:PW)(w:World)(b:Nat)(l:Byt)(p:PV)(e:Ending)(w':World):Prop :=e=.returned (.tuple #[])/\Below b w w'/\∃l',TxtAt w' b l'/\Pl.Q l' (l++Pl.text W.pairs p)/\l'.length<=max l.length 200+310+10*Pl.rank p
def Spells(v:Value)(b:Nat)(w:World)(Q:Ending->World->Prop):Prop:=∃T x f x',v=.iface T x/\(Go.method 638 T x "Spell").run prog w=.ok (f,x') w/\Enters f/\Calls prog f #[x',.pointer (some ⟨b,0,none⟩)] w Q
def SpSaid(W:PW)(s:Sg)(b n:Nat):Prop:=∀(w:World)(l:Byt)(v:Value)(p:PV),TxtAt w b l->Lie w s W.pairs b->RV s v p->WfV W p->Pl.rank p<=n->l.length<=10000000000->Spells v b w (SpPost W w b l p)
theorem cH{W:PW}{w:World}{b:Nat}{l t:Byt}{p:PV}(ht:Pl.text W.pairs p=t)(hl:t.length<=300){e:Ending}{w':World}(h:AddPost w b l t e w'):SpPost W w b l p e w' :=⟨h.1,h.2.2,_,h.2.1,by rw [ht];exact Pl.Q.refl _,by simp only [List.length_append];omega⟩
theorem tR(W:PW)(s:Sg)(b:Nat)(w:World)(l:Byt)(v:Value)(p:PV)(ht:TxtAt w b l)(hL:Lie w s W.pairs b)(hv:RV s v p)(hw:WfV W p)(hl:l.length<=10000000000)(hp:∀i,p≠.pair i):Spells v b w (SpPost W w b l p):=by
 have htx:=Pl.text_atom W.pairs p hp
 cases hv with
 | pair i b h=>exact absurd rfl (hp i)
 | num n =>refine⟨_,_,_,_,rfl,Tryz.sp_num n w,Tryz.ent_num,(sC w b l n ht hl hw hL.tab).mono (fun e w' h=>cH htx ?_ h)⟩;have:=Lib.itoa_length_le n (by have:n.natAbs<=1099511627776:=hw;omega) (by have:n.natAbs<=1099511627776:=hw;omega);show(Lib.itoa n).length<=300;omega
 | truth x=>exact⟨_,_,_,_,rfl,Tryz.sp_truth x w,Tryz.ent_truth,(uQ w b l x ht hl).mono (fun e w' h=>cH htx (by cases x<;>decide) h)⟩
 | name t=>exact⟨_,_,_,_,rfl,Tryz.sp_name _ w,Tryz.ent_name,(yI w b l t ht hl hw).mono (fun e w' h=>cH htx hw h)⟩
 | empty=>exact⟨_,_,_,_,rfl,Tryz.sp_empty w,Tryz.ent_empty,(uR w b l ht hl).mono (fun e w' h=>cH htx (by decide) h)⟩
 | nothing=>exact⟨_,_,_,_,rfl,Tryz.sp_nothing w,Tryz.ent_nothing,(oU w b l ht).mono (fun e w' h=>cH htx (by decide) h)⟩
 | proc i k h =>obtain⟨_,cs,hk⟩:=hL.procs i k h;exact⟨_,_,_,_,rfl,hL.eng.spq k w cs hk,Tryz.ent_app,(lS w b l ht hl).mono (fun e w' h=>cH htx (show Pl.procW.length<=300 from by decide) h)⟩
 | cont i k h =>obtain⟨_,cs,hk⟩:=hL.conts i k h;exact⟨_,_,_,_,rfl,hL.eng.spc k w cs hk,Tryz.ent_app,(lS w b l ht hl).mono (fun e w' h=>cH htx (show Pl.procW.length<=300 from by decide) h)⟩
 | prim k t h hk=>exact⟨_,_,_,_,rfl,Tryz.sp_prim _ w,Tryz.ent_prim,(yG w b l _ ht hl).mono (fun e w' h=>cH htx (show Pl.procW.length<=300 from by decide) h)⟩
 | callcc=>exact⟨_,_,_,_,rfl,Tryz.sp_callcc w,Tryz.ent_callcc,(sD w b l ht hl).mono (fun e w' h=>cH htx (by decide) h)⟩
theorem idx_of{s:Sg}{j k:Nat}(hn:s.pb.Nodup)(h:s.pb[j]?=some k):s.pb.idxOf k=j:=by obtain⟨hj,rfl⟩:=List.getElem?_eq_some_iff.1 h;exact hn.idxOf_getElem j hj
def SpInv(W:PW)(w:World)(b:Nat)(l:Byt)(i:Nat)(wr:World)(j:Nat)(lk:Byt):Prop :=TxtAt wr b lk/\Below b w wr/\j<=i/\lk.length<=max l.length 200+310+10*(i+1)/\∃q,W.pairs[j]?=some q/\Pl.Q (lk++(Pl.text W.pairs q.1++Pl.tl W.pairs q.2)) (l++Pl.text W.pairs (.pair i))
def blkOf:Value->Nat
 | .pointer (some a)=>a.block
 | _=>0
theorem yH(W:PW)(hP:WfP W)(s:Sg)(b n:Nat)(hS:SpSaid W s b n)(w:World)(l:Byt)(i k:Nat)(ht:TxtAt w b l)(hL:Lie w s W.pairs b)(hk:s.pb[i]?=some k)(hi:i<=n)(hl:l.length<=10000000000) :Calls prog 399 #[.pointer (some ⟨k,0,none⟩),.pointer (some ⟨b,0,none⟩)] w fun e w'=>SpPost W w b l (.pair i) e w':=by
 have HS:Hid (SpSaid W s b n):=hS;have HP:Hid (WfP W):=hP;have HL:Hid (Lie w s W.pairs b):=hL;have HT:Hid (TxtAt w b l):=ht;have HN:Hid (l.length<=10000000000/\i<W.pairs.length/\i<=n/\i<=1000000000):=⟨hl,by have:=(List.getElem?_eq_some_iff.1 hk).1;rw [hL.len] at this;exact this,hi,by have:=(List.getElem?_eq_some_iff.1 hk).1;rw [hL.len] at this;have:=hP.len;omega⟩
 have HK:Hid (s.pb[i]?=some k):=hk;clear hS hP hL ht hk hi hl;go_enter func399,ntmps399
 go_upto_region 1 with(go_at_call 335;refine(jI _ b l _ HT.out (by have:=HN.out.1;show l.length+1<=_;omega)).mono ?_;rintro e w1 ⟨rfl,ht1,hB1⟩)
 have H1:Hid (SpInv W w b l i w1 i (l++[40])):=by
  obtain⟨q,hq⟩:∃q,W.pairs[i]?=some q:=⟨_,List.getElem?_eq_getElem HN.out.2.1⟩
  refine show SpInv _ _ _ _ _ _ _ _ from⟨ht1,hB1,Nat.le_refl _,by simp;omega,q,hq,?_⟩;rw [Pl.text_pair HP.out.acy hq];simp [Pl.Q]
 clear ht1 hB1
 go_loopw [0] (fun pv wr=>∃(j kj:Nat)(lk:Byt),pv=.pointer (some ⟨kj,0,none⟩)/\Hid (s.pb[j]?=some kj)/\Hid (SpInv W w b l i wr j lk)) (fun pv _=>s.pb.idxOf (blkOf pv))
 case atStart=>exact⟨i,k,_,rfl,HK,H1⟩
 case round =>
  obtain⟨j,kj,lk,rfl,HJ,HI⟩:=hrel;obtain⟨htk,hBk,hji,hlk,q,hq,hQ⟩:=HI.out;obtain⟨hkb,x,y,hkc,hx,hy⟩:=HL.out.pairs j kj q HJ.out hq;have hkc2:=(hBk.block kj hkb).trans hkc;have x0:wr.cell? ⟨kj,0,none⟩=some x:=aA hkc2 0;have x1:wr.cell? ⟨kj,1,none⟩=some y:=aA hkc2 1;have HLk:Hid (lk.length<=max l.length 200+310+10*(i+1)/\lk.length<=100000000000):=⟨hlk,by have:=HN.out;omega⟩
  have HQ:Hid (Pl.Q (lk++(Pl.text W.pairs q.1++Pl.tl W.pairs q.2)) (l++Pl.text W.pairs (.pair i))):=hQ;have HB:Hid (Below b w wr):=hBk;have HTk:Hid (TxtAt wr b lk):=htk;have HF:Hid (Calls prog 193 #[.pointer (some ⟨b,0,none⟩)] wr fun e w'=>e=.returned (.bool (decide (200<lk.length)))/\wr=w'):=uZ wr b lk htk HLk.out.2;by_cases hfull:200<lk.length
  ·have hd:decide (200<lk.length)=true:=by simpa using hfull
   rw [hd] at HF;have HX:Hid (SpPost W w b l (.pair i) (.returned (.tuple #[])) wr):=⟨rfl,hBk,lk,htk,(by have:=(Pl.Q.long (a:=lk) [] (Pl.text W.pairs q.1++Pl.tl W.pairs q.2) hfull).trans hQ;simpa using this),hlk⟩
   clear hx hy hkc hkc2 hQ hq htk hBk hlk;go_wp2_with (go_at_call 193;refine Calls.mono HF.out ?_;rintro e w' ⟨rfl,rfl⟩)
   all_goals
    go_end0
    exact HX.out
  ·have hd:decide (200<lk.length)=false:=by simpa using hfull
   rw [hd] at HF;have hwf:=HP.out.vals j q hq;have hrk:=HP.out.acy j q hq;obtain⟨T,x',f,xr,rfl,hmet,hent,hcall⟩:=HS.out wr lk x q.1 htk (HL.out.below hBk) hx hwf.1 (by have:=HN.out.2.2.1;omega) (by omega);unfold Enters at hent;have HC:Hid (Calls prog f #[xr,.pointer (some ⟨b,0,none⟩)] wr (SpPost W wr b lk q.1)):=hcall;have HW:Hid (WfV W q.2/\Pl.rank q.1<=j/\Pl.rank q.2<=j/\RV s y q.2/\W.pairs[j]?=some q/\j<=i/\kj<b/\lk.length<=200):=⟨hwf.2,hrk.1,hrk.2,hy,hq,hji,hkb,by omega⟩
   have HKc:Hid (wr.heap[kj]?=some (.cells #[.iface T x',y] TPair (0,0))):=hkc2;rcases hy.asPair HL.out.eng with⟨m,km,hqm,hkm,rfl⟩ | ⟨hnp,T2,x2,rfl,hno⟩
   ·clear hcall hx hy hkc hkc2 hQ hq htk hBk hlk hwf hrk hji hkb
    go_wp2_with (first
     | (go_at_call 193;refine Calls.mono HF.out ?_;rintro e w' ⟨rfl,rfl⟩)
     | (refine Calls.mono HC.out ?_;rintro e w2 ⟨rfl,hB2,l2,ht2,hQ2,hl2⟩;have x1':w2.cell? ⟨kj,1,none⟩=some (.iface 367 (.pointer (some ⟨km,0,none⟩))):=(hB2.cell (p:=⟨kj,1,none⟩) HW.out.2.2.2.2.2.2.1).trans x1;have as1:=@fC 367)
     | (go_at_call 335;refine(jI _ b l2 _ ht2 (by have:=HN.out;have:=HW.out;show l2.length+1<=_;omega)).mono ?_;rintro e w3 ⟨rfl,ht3,hB3⟩))
    go_roundw
    case rel =>
     have hm:m<W.pairs.length:=by have:=HW.out.1;rw [hqm] at this;exact this
     obtain⟨q',hq'⟩:∃q',W.pairs[m]?=some q':=⟨_,List.getElem?_eq_getElem hm⟩
     have hr:m+1<=j:=by have:=HW.out.2.2.1;rw [hqm] at this;exact this
     have hr1:=HW.out.2.1;have hji:=HW.out.2.2.2.2.2.1;have hl200:=HW.out.2.2.2.2.2.2.2;refine⟨m,km,_,rfl,hkm,show SpInv _ _ _ _ _ _ _ _ from⟨ht3,(HB.out.trans hB2).trans hB3,by omega,?_,q',hq',?_⟩⟩
     ·have e1:(l2++([32]:List UInt8)).length=l2.length+1:=by simp
      show(l2++([32]:List UInt8)).length<=_;omega
     ·refine Pl.Q.trans ?_ HQ.out;have ht:=Pl.tl_pair HP.out.acy hq';have h1:=hQ2.app (Pl.tl W.pairs q.2);rw [hqm,ht] at h1;rw [hqm,ht];show Pl.Q ((l2++[32])++_) _;simpa using h1
    case measure =>
     have hr:m+1<=j:=by have:=HW.out.2.2.1;rw [hqm] at this;exact this
     show s.pb.idxOf km<s.pb.idxOf kj;rw [idx_of HL.out.nodup hkm,idx_of HL.out.nodup HJ.out];omega
   ·have HE:=(hy.eqEmpty HL.out.eng)
    have HNP:Hid (∀k,q.2≠.pair k):=hnp;clear hcall hx hy hkc hkc2 hQ hq htk hBk hlk hwf hrk hji hkb hnp
    go_upto_region 7 with(first
     | (go_at_call 193;refine Calls.mono HF.out ?_;rintro e w' ⟨rfl,rfl⟩)
     | (refine Calls.mono HC.out ?_;rintro e w2 ⟨rfl,hB2,l2,ht2,hQ2,hl2⟩;have x1':w2.cell? ⟨kj,1,none⟩=some (.iface T2 x2):=(hB2.cell (p:=⟨kj,1,none⟩) HW.out.2.2.2.2.2.2.1).trans x1))
    have hl2':l2.length<=510+10*(i+1):=by have:=HW.out.2.1;have:=HW.out.2.2.2.2.2.1;have:=HW.out.2.2.2.2.2.2.2;omega
    have HF2:Hid (Calls prog 193 #[.pointer (some ⟨b,0,none⟩)] w2 fun e w'=>e=.returned (.bool (decide (200<l2.length)))/\w2=w'):=uZ w2 b l2 ht2 (by have:=HN.out.2.2.2;omega);have HQ3:Hid (Pl.Q (l2++Pl.tl W.pairs q.2) (l++Pl.text W.pairs (.pair i))):=show Pl.Q _ _ from Pl.Q.trans (by simpa using hQ2.app (Pl.tl W.pairs q.2)) HQ.out;have HB3:Hid (Below b w w2):=HB.out.trans hB2;have HT2:Hid (TxtAt w2 b l2):=ht2;have HL2:Hid (l2.length<=510+10*(i+1)):=hl2';clear ht2 hB2 hQ2 hl2 hl2' HC x0 x1 hmet hent hno;by_cases hf2:200<l2.length
    ·have hd2:decide (200<l2.length)=true:=by simpa using hf2
     rw [hd2] at HF2;have HX:Hid (SpPost W w b l (.pair i) (.returned (.tuple #[])) w2):=⟨rfl,HB3.out,l2,HT2.out,(by have:=(Pl.Q.long (a:=l2) [] (Pl.tl W.pairs q.2) hf2).trans HQ3.out;simpa using this),by have:=HL2.out;simp only [Pl.rank];omega⟩
     go_wp2_with (go_at_call 193;refine Calls.mono HF2.out ?_;rintro e w' ⟨rfl,rfl⟩)
     go_end0
     exact HX.out
    ·have hd2:decide (200<l2.length)=false:=by simpa using hf2
     rw [hd2] at HF2;have HL3:Hid (l2.length<=200):=show l2.length<=200 from by omega
     have hne:=neq_of (HE w2);by_cases hem:q.2=.empty
     ·rw [hem] at hne HQ3;have hne':(binOp .neq 161 (.iface T2 x2) (.iface 366 (.agg #[]))).run prog w2=.ok (.bool false) w2:=hne;clear hne hem HE
      go_wp2_with (first
       | (go_at_call 193;refine Calls.mono HF2.out ?_;rintro e w' ⟨rfl,rfl⟩)
       | (go_at_call 335;refine(jI _ b l2 _ HT2.out (by have:=HL3.out;show l2.length+1<=_;omega)).mono ?_;rintro e w3 ⟨rfl,ht3,hB3⟩))
      go_end0
      exact⟨rfl,HB3.out.trans hB3,_,ht3,HQ3.out,by have:=HL3.out;show(l2++([41]:List UInt8)).length<=_;simp only [List.length_append,List.length_cons,List.length_nil,Pl.rank];omega⟩
     ·have hne':(binOp .neq 161 (.iface T2 x2) (.iface 366 (.agg #[]))).run prog w2=.ok (.bool true) w2:=by rw [hne];simp [hem]
      have hta:=Pl.tl_atom W.pairs q.2 HNP.out hem
      have hr0:Pl.rank q.2=0:=by
       cases hq2:q.2 with
       | pair k=>exact absurd hq2 (HNP.out k)
       | _=>rfl
      have HR:Hid (Pl.tl W.pairs q.2=[32,46,32]++Pl.text W.pairs q.2++[41]/\Pl.rank q.2=0):=⟨hta,hr0⟩
      clear hne hem HE hta hr0
      go_upto_region 10 with(first
       | (go_at_call 193;refine Calls.mono HF2.out ?_;rintro e w' ⟨rfl,rfl⟩)
       | (go_at_call 335;refine(jI _ b l2 _ HT2.out (by have:=HL3.out;show l2.length+3<=_;omega)).mono ?_;rintro e w3 ⟨rfl,ht3,hB3⟩))
      have HT3:Hid (TxtAt w3 b (l2++[32,46,32])):=ht3;have HB4:Hid (Below b w w3):=HB3.out.trans hB3;obtain⟨T3,x3,f3,xr3,e3,hmet3,hent3,hcall3⟩:=HS.out w3 (l2++[32,46,32]) _ q.2 ht3 (HL.out.below HB4.out) HW.out.2.2.2.1 HW.out.1 (by rw [HR.out.2];exact Nat.zero_le _) (by have:=HL3.out;simp only [List.length_append,List.length_cons,List.length_nil];omega);simp only [Value.iface.injEq] at e3;obtain⟨rfl,rfl⟩:=e3;unfold Enters at hent3;have HC3:Hid (Calls prog f3 #[xr3,.pointer (some ⟨b,0,none⟩)] w3 (SpPost W w3 b (l2++[32,46,32]) q.2)):=hcall3;have x13:w3.cell? ⟨kj,1,none⟩=some (.iface T2 x2):=(hB3.cell (p:=⟨kj,1,none⟩) HW.out.2.2.2.2.2.2.1).trans x1';clear hcall3 ht3 hB3 x1' hne'
      go_wp2_with (first
       | (go_at_call 335;refine(jI _ b l4 _ HT4.out (by have:=HL4.out;show l4.length+1<=_;omega)).mono ?_;rintro e w5 ⟨rfl,ht5,hB5⟩)
       | (refine Calls.mono HC3.out ?_;rintro e w4 ⟨rfl,hB4,l4,ht4,hQ4,hl4⟩;have HT4:Hid (TxtAt w4 b l4):=ht4;have HL4:Hid (l4.length<=513):=show l4.length<=513 from(by have:=HL3.out;have:=HR.out.2;simp only [List.length_append,List.length_cons,List.length_nil] at hl4;omega)))
      go_end0
      refine⟨rfl,(HB4.out.trans hB4).trans hB5,_,ht5,?_,by have:=HL4.out;show(l4++([41]:List UInt8)).length<=_;simp only [List.length_append,List.length_cons,List.length_nil,Pl.rank];omega⟩;refine Pl.Q.trans ?_ HQ3.out;rw [HR.out.1];have:=hQ4.app [41];show Pl.Q (l4++[41]) _;simpa using this
theorem uP(W:PW)(hP:WfP W)(s:Sg)(b:Nat):∀n,SpSaid W s b n
 | 0=>fun w l v p ht hL hv hw hr hl=>tR W s b w l v p ht hL hv hw hl (fun i e=>by subst e;simp [Pl.rank] at hr)
 | n+1=>fun w l v p ht hL hv hw hr hl=>by
  by_cases hp:∃i,p=.pair i
  ·obtain⟨i,rfl⟩:=hp
   cases hv with
   | pair _ k hk=>exact⟨_,_,_,_,rfl,Tryz.sp_pair k w,Tryz.ent_pair,yH W hP s b n (uP W hP s b n) w l i k ht hL hk (by simp only [Pl.rank] at hr;omega) hl⟩
  ·exact tR W s b w l v p ht hL hv hw hl (fun i e=>hp ⟨i,e⟩)
theorem txt_new(w:World):TxtAt (w.alloc (.cells #[.slice none 0 0] TTxt)) w.heap.size []:=⟨_,heap_alloc_new w _,World.ownsRow_nil _ _ _ _⟩
theorem hH(W:PW)(hP:WfP W)(s:Sg)(w:World)(v:Value)(p:PV)(hL:Lie w s W.pairs w.heap.size)(hv:RV s v p)(hw:WfV W p) :Calls prog 126 #[v] w fun e w'=>e=.returned (.string ⟨(Pl.cut (Pl.text W.pairs p)).toArray⟩)/\Below w.heap.size w w':=by
 have hB:Below w.heap.size w (w.alloc (.cells #[.slice none 0 0] TTxt)):=cX w _ _ (Nat.le_refl _);obtain⟨T,x,f,xr,rfl,hmet,hent,hcall⟩:=uP W hP s w.heap.size (Pl.rank p) _ [] v p (txt_new w) (hL.below hB) hv hw (Nat.le_refl _) (by simp)
 have hrk:Pl.rank p<=1000000000:=by
  have:=hP.len
  cases p with
  | pair i=>have h:i<W.pairs.length:=hw;simp only [Pl.rank];omega
  | _=>simp [Pl.rank]
 have HB:Hid (Below w.heap.size w (w.alloc (.cells #[.slice none 0 0] TTxt))):=hB;have HC:Hid (Calls prog f #[xr,.pointer (some ⟨w.heap.size,0,none⟩)] (w.alloc (.cells #[.slice none 0 0] TTxt)) (SpPost W (w.alloc (.cells #[.slice none 0 0] TTxt)) w.heap.size [] p)):=hcall;have HR:Hid (Pl.rank p<=1000000000):=hrk;unfold Enters at hent;unfold TTxt at hmet;clear hcall hL hv hw hB hrk hP;go_enter func126,ntmps126
 go_wp2_with (first
  | (go_at_call 168;refine(p_told _ _ l4 HT4.out HL4.out).mono ?_;rintro e w5 ⟨rfl,rfl⟩)
  | (refine Calls.mono HC.out ?_;rintro e w4 ⟨rfl,hB4,l4,ht4,hQ4,hl4⟩;have HT4:Hid (TxtAt w4 w.heap.size l4):=ht4;have HL4:Hid (l4.length<=100000000000):=show l4.length<=_ from(by have:=HR.out;simp only [List.length_nil] at hl4;omega)))
 go_ret;exact⟨by rw [hQ4.cut];rfl,HB.out.trans hB4⟩
def Prm(w:World):Prop:=∀(k:Nat)(nm:Byt),prims[k]?=some nm->k<12->w.cell? ⟨1,k*2,none⟩=some (.string ⟨nm.toArray⟩)/\w.cell? ⟨1,k*2+1,none⟩=some (.int .i64 (arity nm:Nat))
theorem gR(nm:ByteArray)(n:Nat)(ao:Option Addr)(len cap:Nat)(w:World)(hn:n<=1000000000)(hs:nm.size<=1000) :Calls prog 298 #[.string nm,.int .i64 (n:Int),.slice ao len cap] w fun e w'=>w=w'/\((len=n/\e=.returned .nilIface)\/(len≠n/\∃es,e=.returned (aY es 10))):=by
 by_cases h:len=n
 ·subst h;go_enter func298,ntmps298;go_wp2_with fail;go_ret;exact⟨rfl,.inl ⟨trivial,rfl⟩⟩
 ·have hne:((len:Int)!=(n:Int))=true:=by simp;omega
  have hne2:((len:Int)==(n:Int))=false:=by simp;omega
  go_enter func298,ntmps298
  go_wp2_with (go_at_call 78;refine(bJ _ _ _).mono ?_;rintro e w' ⟨rfl,rfl⟩)
  go_ret;exact⟨rfl,.inr ⟨h,_,rfl⟩⟩
theorem lQ{nm:Byt}(h:nm∈prims):nm.length<=10:=by
 have:∀x∈prims,x.length<=10:=by decide
 exact this nm h
theorem dD(k:Nat)(nm:Byt)(code:Int)(w:World)(hp:Prm w)(hk:prims[k]?=some nm)(h12:k<12) :Calls prog 326 #[.int .i64 (k:Int),.int .i64 code] w fun e w'=>w=w'/\∃es,e=.returned (aY es code):=by
 obtain⟨c0,_⟩:=hp k nm hk h12;have hs:=lQ (List.mem_of_getElem? hk);have h0:(0:Int)<=(k:Int):=by omega
 have h1:(k:Int)<12:=by omega
 clear hp hk;go_enter func326,ntmps326;go_wp2_with (go_at_call 78;refine(bJ _ _ _).mono ?_;rintro e w' ⟨rfl,rfl⟩);go_ret;exact⟨rfl,_,rfl⟩
theorem uS(n:Int)(w:World)(hn:n.natAbs<=4611686018427387904):Calls prog 329 #[.int .i64 n] w fun e w'=>w=w'/\e=.returned (.int .i64 (n.natAbs:Int)):=by
 have h1:wrap64 (-n)=-n:=by unfold wrap64;omega
 go_enter func329,ntmps329
 go_wp2_with fail
 go_ret;exact⟨rfl,congrArg (fun x=>Ending.returned (.int .i64 x)) (show max n (-n)=_ from by omega)⟩
theorem le_big(n:Int):decide ((n.natAbs:Int)<=1099511627776)=decide (n.natAbs<=Pl.big):=by rw [decide_eq_decide];unfold Pl.big;omega
theorem uV(x y:Int)(w:World)(hx:x.natAbs<=Pl.big)(hy:y.natAbs<=Pl.big):Calls prog 328 #[.int .i64 0,.int .i64 x,.int .i64 y] w fun e w'=>w=w'/\e=.returned (.tuple #[.int .i64 (x+y),.bool (decide ((x+y).natAbs<=Pl.big))]):=by
 have hb:=le_big (x+y);unfold Pl.big at hx hy;have h1:wrap64 (x+y)=x+y:=by unfold wrap64;omega
 go_enter func328,ntmps328
 go_wp2_with (go_at_call 329;refine(uS _ _ (by omega)).mono ?_;rintro e w' ⟨rfl,rfl⟩)
 go_ret2;exact⟨rfl,rfl⟩
theorem uT(x y:Int)(w:World)(hx:x.natAbs<=Pl.big)(hy:y.natAbs<=Pl.big):Calls prog 328 #[.int .i64 1,.int .i64 x,.int .i64 y] w fun e w'=>w=w'/\e=.returned (.tuple #[.int .i64 (x-y),.bool (decide ((x-y).natAbs<=Pl.big))]):=by
 have hb:=le_big (x-y);unfold Pl.big at hx hy;have h1:wrap64 (x-y)=x-y:=by unfold wrap64;omega
 go_enter func328,ntmps328
 go_wp2_with (go_at_call 329;refine(uS _ _ (by omega)).mono ?_;rintro e w' ⟨rfl,rfl⟩)
 go_ret2;exact⟨rfl,rfl⟩
theorem zQ(x y:Int)(hx:x≠0):decide ((y.natAbs:Int)<=1099511627776 / (x.natAbs:Int))=decide ((x*y).natAbs<=Pl.big):=by
 rw [decide_eq_decide];have h0:(0:Int)<(x.natAbs:Int):=by omega
 rw [Int.le_ediv_iff_mul_le h0,Int.natAbs_mul];unfold Pl.big;constructor
 ·intro h;have:((y.natAbs*x.natAbs:Nat):Int)<=1099511627776:=by simpa using h
  rw [Nat.mul_comm];omega
 ·intro h;have:((x.natAbs*y.natAbs:Nat):Int)<=1099511627776:=by omega
  rw [Nat.mul_comm] at this;simpa using this
theorem uU(x y:Int)(w:World)(hx:x.natAbs<=Pl.big)(hy:y.natAbs<=Pl.big):Calls prog 328 #[.int .i64 2,.int .i64 x,.int .i64 y] w fun e w'=>Below w.heap.size w w'/\∃r,((x*y).natAbs<=Pl.big->r=x*y)/\e=.returned (.tuple #[.int .i64 r,.bool (decide ((x*y).natAbs<=Pl.big))]):=by
 have hw:(x*y).natAbs<=Pl.big->IntKind.i64.wrap (x*y)=x*y:=fun h=>by rw [IntKind.wrap_i64];unfold Pl.big at h;omega
 unfold Pl.big at hx hy;by_cases h0:x=0
 ·subst h0;have hz:(0:Int)*y=0:=by omega
  have hd:decide (((0:Int)*y).natAbs<=Pl.big)=true:=by rw [hz];rfl
  go_enter func328,ntmps328
  go_wp2_with fail
  go_region
  all_goals
   go_wp2_with fail
   go_ret2;exact⟨(Below.refl _ _).drew,0,fun _=>hz.symm,by rw [hd];rfl⟩
 ·have hb:(x==0)=false:=by simpa using h0
  have hm:=zQ x y h0;have hq:(x.natAbs:Int)≠0:=by omega
  have hqq:IntKind.i64.wrap (Int.tdiv 1099511627776 (x.natAbs:Int))=1099511627776 / (x.natAbs:Int):=by rw [IntKind.wrap_i64,Int.tdiv_eq_ediv_of_nonneg (by decide)];have h3:1099511627776 / (x.natAbs:Int)<=1099511627776:=Int.ediv_le_self _ (by decide);have h4:0<=1099511627776 / (x.natAbs:Int):=Int.ediv_nonneg (by decide) (by omega);omega
  have hm2:decide ((y.natAbs:Int)<=IntKind.i64.wrap (Int.tdiv 1099511627776 (x.natAbs:Int)))=decide ((x*y).natAbs<=Pl.big):=by rw [hqq];exact hm
  clear hqq hm;go_enter func328,ntmps328;go_wp2_with fail;go_region_with (go_at_call 329;refine(uS _ _ (by omega)).mono ?_;rintro e w' ⟨rfl,rfl⟩)
  all_goals
   go_wp2_with fail
   go_ret2;refine⟨(Below.refl _ _).drew,_,hw,?_⟩
   go_simp
end
open Pl (PS PF PFr Env)
section
open Go.RowKit Go.Maps
variable {w w':World} {M M':Nat->Prop} {v:Value} {b tb mb gb:Nat} {bs:List Nat}
def TSur:TypeId:=387
def TPile:TypeId:=258
def TRun:TypeId:=169
def TSes:TypeId:=148
def TPrS:TypeId:=333
def TCoS:TypeId:=526
inductive EnvR (M:Nat->Prop) (w:World) (s:Sg):Value->Env->Prop
 | nil:EnvR M w s (.pointer none) []
 | cons (b:Nat) (nv up:Value) (ao:Option Addr) (cap base:Nat) (ns:List Byt) (env:Env)
   (hb:w.heap[b]?=some (.cells #[nv,.slice ao ns.length cap,up] TSur (0,0))) (hm:¬M b) (hn:NmRow M w s nv ns) (hcap:ns.length<=cap)
   (hp:∀i,i<ns.length->∃g off,ao=some ⟨g,off,none⟩/\s.lp[base+i]?=some (some (g,off+i)))
   (h:EnvR M w s up env):EnvR M w s (.pointer (some ⟨b,0,none⟩)) (env++Pl.numb ns base)
theorem EnvR.go{s t:Sg}(hs:Stp M w M' w')(l:Sg.Le s t){e:Env}(h:EnvR M w s v e):EnvR M' w' t v e:=by
 induction h with
 | nil=>exact .nil
 | cons b nv up ao cap base ns env hb hm hn hcap hp _ ih =>
  obtain⟨e1,e2⟩:=hs.block b (aB hb) hm
  exact .cons b nv up ao cap base ns env (e1.trans hb) e2 (hn.go hs l) hcap (fun i hi=>by
   obtain⟨g,off,h1,h2⟩:=hp i hi
   exact⟨g,off,h1,bS l.lp h2⟩) ih
theorem EnvR.ptr{s:Sg}{e:Env}(h:EnvR M w s v e):∃o,v=.pointer o:=by cases h<;>exact⟨_,rfl⟩
def FmsAt(M:Nat->Prop)(w:World)(s:Sg)(v:Value)(fs:List PF):Prop:=∃us,Sl M w TForm 1 v us.length us/\All2 (RFm M w s) us fs
def ValsAt(M:Nat->Prop)(w:World)(s:Sg)(v:Value)(l:List PV):Prop:=∃us,Sl M w TVal 1 v us.length us/\All2 (RV s) us l
theorem FmsAt.go{s t:Sg}(hs:Stp M w M' w')(l:Sg.Le s t){fs:List PF}(h:FmsAt M w s v fs):FmsAt M' w' t v fs:=by obtain⟨us,h1,h2⟩:=h;exact⟨us,h1.stp hs,h2.mono (fun _ _ x=>x.go hs l)⟩
theorem ValsAt.go{s t:Sg}(hs:Stp M w M' w')(l:Sg.Le s t){fs:List PV}(h:ValsAt M w s v fs):ValsAt M' w' t v fs:=by obtain⟨us,h1,h2⟩:=h;exact⟨us,h1.stp hs,h2.mono (fun _ _ x=>x.le l)⟩
inductive TopR (M:Nat->Prop) (w:World) (s:Sg):Value->PFr->Prop
 | iff (a b c ev:Value) (fr:PFr) (x y z:PF) (hk:fr.form.k=.iff) (hf:fr.form.ks=[x,y,z]) (ha:∃T x,a=.iface T x) (h2:RFm M w s b y) (h3:RFm M w s c z) (he:EnvR M w s ev fr.env):TopR M w s (.iface 338 (.agg #[a,b,c,ev])) fr
 | set (k:Nat) (ev:Value) (fr:PFr) (hk:fr.form.k=.set) (hn:s.ns[k]?=some fr.form.nm) (he:EnvR M w s ev fr.env):TopR M w s (.iface 342 (.agg #[.string ⟨fr.form.nm.toArray⟩,.int .i64 (k:Int),ev])) fr
 | define (k:Nat) (fr:PFr) (hk:fr.form.k=.define) (hn:s.ns[k]?=some fr.form.nm):TopR M w s (.iface 344 (.agg #[.string ⟨fr.form.nm.toArray⟩,.int .i64 (k:Int)])) fr
 | begin (rv ev:Value) (fr:PFr) (hk:fr.form.k=.begin) (hr:FmsAt M w s rv (fr.form.ks.drop fr.pos)) (he:EnvR M w s ev fr.env):TopR M w s (.iface 375 (.agg #[rv,ev])) fr
 | call (vv rv ev:Value) (fr:PFr) (hk:fr.form.k=.call) (hv:ValsAt M w s vv fr.got) (hr:FmsAt M w s rv (fr.form.ks.drop fr.pos)) (he:EnvR M w s ev fr.env):TopR M w s (.iface 352 (.agg #[vv,rv,ev])) fr
theorem TopR.go{s t:Sg}(hs:Stp M w M' w')(l:Sg.Le s t){fr:PFr}(h:TopR M w s v fr):TopR M' w' t v fr:=by
 cases h with
 | iff a b c ev _ x y z hk hf ha h2 h3 he=>exact .iff a b c ev _ x y z hk hf ha (h2.go hs l) (h3.go hs l) (he.go hs l)
 | set k ev _ hk hn he=>exact .set k ev _ hk (bS l.ns hn) (he.go hs l)
 | define k _ hk hn=>exact .define k _ hk (bS l.ns hn)
 | begin rv ev _ hk hr he=>exact .begin rv ev _ hk (hr.go hs l) (he.go hs l)
 | call vv rv ev _ hk hv hr he=>exact .call vv rv ev _ hk (hv.go hs l) (hr.go hs l) (he.go hs l)
theorem TopR.iface{s:Sg}{fr:PFr}(h:TopR M w s v fr):∃T x,v=.iface T x:=by cases h<;>exact⟨_,_,rfl⟩
def FrR(M:Nat->Prop)(w:World)(s:Sg):Value->List PFr->Prop
 | v,[]=>v=.pointer none
 | v,f::r=>∃b top up,v=.pointer (some ⟨b,0,none⟩)/\¬M b/\w.heap[b]?=some (.cells #[top,up,.int .i64 ((r.length+1:Nat):Int)] TPile (0,0))/\TopR M w s top f/\FrR M w s up r
theorem FrR.go{s t:Sg}(hs:Stp M w M' w')(l:Sg.Le s t):∀(fs:List PFr)(v:Value),FrR M w s v fs->FrR M' w' t v fs
 | [],_,h=>h
 | f::r,v,h=>by obtain⟨b,top,up,h1,h2,h3,h4,h5⟩:=h;obtain⟨e1,e2⟩:=hs.block b (aB h3) h2;exact⟨b,top,up,h1,e2,e1.trans h3,h4.go hs l,FrR.go hs l r up h5⟩
theorem FrR.ptr{s:Sg}:∀{fs:List PFr} {v:Value},FrR M w s v fs->∃o,v=.pointer o
 | [],_,h=>⟨_,h⟩
 | _::_,_,h=>by obtain⟨b,_,_,h1,_⟩:=h;exact⟨_,h1⟩
def ProcAt(M:Nat->Prop)(w:World)(s:Sg)(b:Nat)(q:PF×Env):Prop:=¬M b/\∃nv body ev x,w.heap[b]?=some (.cells #[nv,body,ev] TPrS (0,0))/\q.1.ks=[x]/\NmRow M w s nv q.1.ns/\RFm M w s body x/\EnvR M w s ev q.2
def ContAt(M:Nat->Prop)(w:World)(s:Sg)(b:Nat)(c:List PFr):Prop:=¬M b/\∃kv,w.heap[b]?=some (.cells #[kv] TCoS (0,0))/\FrR M w s kv c
theorem ProcAt.go{s t:Sg}(hs:Stp M w M' w')(l:Sg.Le s t){q:PF×Env}(h:ProcAt M w s b q):ProcAt M' w' t b q:=by obtain⟨h1,nv,body,ev,x,h2,h3,h4,h5,h6⟩:=h;obtain⟨e1,e2⟩:=hs.block b (aB h2) h1;exact⟨e2,nv,body,ev,x,e1.trans h2,h3,h4.go hs l,h5.go hs l,h6.go hs l⟩
theorem ContAt.go{s t:Sg}(hs:Stp M w M' w')(l:Sg.Le s t){q:List PFr}(h:ContAt M w s b q):ContAt M' w' t b q:=by obtain⟨h1,kv,h2,h3⟩:=h;obtain⟨e1,e2⟩:=hs.block b (aB h2) h1;exact⟨e2,kv,e1.trans h2,h3.go hs l⟩
structure Bls{α:Type}(R:Nat->α->Prop)(bs:List Nat)(l:List α):Prop where
 len:bs.length=l.length
 nodup:bs.Nodup
 at_:∀(i b:Nat)(x:α),bs[i]?=some b->l[i]?=some x->R b x
theorem Bls.mono{α:Type}{R Q:Nat->α->Prop}{l:List α}(h:Bls R bs l)(hm:∀b x,R b x->Q b x):Bls Q bs l:=⟨h.len,h.nodup,fun i b x hb hx=>hm b x (h.at_ i b x hb hx)⟩
theorem Bls.push{α:Type}{R:Nat->α->Prop}{l:List α}(h:Bls R bs l){x:α}(hr:R b x)(hn:b∉bs):Bls R (bs++[b]) (l++[x]):=by
 refine⟨by simp [h.len],?_,?_⟩
 ·rw [List.nodup_append];refine⟨h.nodup,by simp,?_⟩;rintro a ha c hc;rintro rfl;simp at hc;subst hc;exact hn ha
 ·intro i c y hc hy;rcases Nat.lt_or_ge i bs.length with hi | hi
  ·rw [List.getElem?_append_left hi] at hc;rw [List.getElem?_append_left (by rw [<- h.len];exact hi)] at hy;exact h.at_ i c y hc hy
  ·rw [List.getElem?_append_right hi] at hc;rw [List.getElem?_append_right (by rw [<- h.len];exact hi),<-h.len] at hy;have h0:=(List.getElem?_eq_some_iff.1 hc).1;have h1:i-bs.length=0:=by simp at h0;omega
   rw [h1] at hc hy;simp at hc hy;subst hc hy;exact hr
theorem Bls.get{α:Type}{R:Nat->α->Prop}{l:List α}(h:Bls R bs l){i:Nat}(hb:bs[i]?=some b):∃x,l[i]?=some x/\R b x:=by have hi:=(List.getElem?_eq_some_iff.1 hb).1;have hx:=List.getElem?_eq_getElem (l:=l) (i:=i) (by rw [<- h.len];exact hi);exact⟨_,hx,h.at_ i b _ hb hx⟩
structure PlacesAt(M:Nat->Prop)(w:World)(s:Sg)(pl:List PV):Prop where
 len:s.lp.length=pl.length
 inj:∀(i j:Nat)(c:Nat×Nat),s.lp[i]?=some (some c)->s.lp[j]?=some (some c)->i=j
 at_:∀(i g o:Nat)(p:PV),s.lp[i]?=some (some (g,o))->pl[i]?=some p->M g/\∃cur v,w.heap[g]?=some (.cells cur TVal (0,0))/\cur[o]?=some v/\RV s v p
def s9(v:Value):Option (DataW Value×List MemPlace):=some (.held v,[])
structure GlobD(D:DataW Value)(s:Sg)(W:PW):Prop where
 tidy:Tidy D
 yes:∀(k:Nat)(nm:Byt)(i:Nat),s.ns[k]?=some nm->Pl.find W.globals nm=some i->Maps.has D (.int .i64 (k:Int))=true/\∃v p,(∀z,D.atKey (.int .i64 (k:Int)) z=.held v)/\W.places[i]?=some p/\RV s v p
 no:∀(k:Nat)(nm:Byt),s.ns[k]?=some nm->Pl.find W.globals nm=none->Maps.has D (.int .i64 (k:Int))=false
 keys:∀k:Nat,Maps.has D (.int .i64 (k:Int))=true->k<s.ns.length
 names:∀nm i,Pl.find W.globals nm=some i->nm∈s.ns/\s.lp[i]?=some none
 inj:∀a b i,Pl.find W.globals a=some i->Pl.find W.globals b=some i->a=b
def GlobAt(w:World)(gb:Nat)(s:Sg)(W:PW):Prop:=∃D:DataW Value,w.ownsMap prog 3 s9 gb W.globals.length D/\GlobD D s W
theorem own_low{P:Program}{k:TypeId}{R:Value->Option (DataW Value×List MemPlace)}{n:Nat}{D:DataW Value}(h:w.ownsMap P k R b n D):w.ownsMap P k R b (Maps.size D) D:=by obtain⟨es,c,h1,h2,h3,rfl⟩:=h;exact⟨es,c,h1,h2,Nat.le_of_eq (length_read (P:=P) (k:=k) (R0:=R) es).symm,rfl⟩
structure Wd(M:Nat->Prop)(w:World)(s:Sg)(tb mb sb gb:Nat)(W:PW):Prop where
 rdr:Rdr M w s tb mb W.pairs
 ses:w.heap[sb]?=some (.cells #[.map (some gb)] TSes (0,0))
 msb:¬M sb
 glob:GlobAt w gb s W
 mgb:M gb
 gne:gb≠mb
 procs:Bls (ProcAt M w s) s.qb W.procs
 conts:Bls (ContAt M w s) s.cb W.conts
 places:PlacesAt M w s W.places
 gs:Gs w M
 prm:Prm w
 gt:w.cell? ⟨0,0,none⟩=some (.iface 301 (.agg #[.pointer (some ⟨8,63,none⟩)]))
 ge:GE w
 tq:s.tq=330
 tc:s.tc=522
structure Mv(M:Nat->Prop)(w:World)(M':Nat->Prop)(w':World):Prop where
 stp:Stp M w M' w'
 keep:∀k,k<w.heap.size->M k->M' k/\(w'.heap[k]?=w.heap[k]? \/ ∃cur e fz,w.heap[k]?=some (.cells cur e fz)/\e≠TVal)
 lt:(∀k,M k->k<w.heap.size)->∀k,M' k->k<w'.heap.size
theorem Mv.below(h:Below w.heap.size w w'):Mv M w M w':=⟨Stp.of_below h,fun k hk hm=>⟨hm,.inl (h.block k hk)⟩,fun hl k hk=>Nat.lt_of_lt_of_le (hl k hk) h.size⟩
def Mn(M:Nat->Prop)(X:Nat->Prop)(k:Nat):Prop:=M k\/X k
theorem Mv.wide(X:Nat->Prop)(h:∀k,X k->w.heap.size<=k)(hb:Below w.heap.size w w')(hx:∀k,X k->k<w'.heap.size):Mv M w (Mn M X) w' :=⟨⟨hb.os,hb.tape,hb.output,hb.size,fun k hk hm=>⟨hb.block k hk,fun x=>x.elim hm (fun y=>by have:=h k y;omega)⟩⟩,fun k hk hm=>⟨.inl hm,.inl (hb.block k hk)⟩,fun hl k hk=>hk.elim (fun y=>Nat.lt_of_lt_of_le (hl k y) hb.size) (hx k)⟩
theorem PlacesAt.mv{s:Sg}{pl:List PV}(h:PlacesAt M w s pl)(hs:Mv M w M' w'):PlacesAt M' w' s pl :=
 ⟨h.len,h.inj,fun i g o p hl hp=>by
  obtain⟨h1,cur,v,h2,h3,h4⟩:=h.at_ i g o p hl hp;obtain⟨h5,h6⟩:=hs.keep g (aB h2) h1;rcases h6 with h6 | ⟨cur',e,fz,h6,h7⟩
  ·exact⟨h5,cur,v,h6.trans h2,h3,h4⟩
  ·rw [h2] at h6;simp only [Option.some.injEq,Obj.cells.injEq] at h6
   exact absurd h6.2.1.symm h7⟩
theorem PlacesAt.le{s t:Sg}{pl:List PV}(h:PlacesAt M w s pl)(l:Sg.Le s t)(hp:t.lp=s.lp):PlacesAt M w t pl :=
 ⟨by rw [hp];exact h.len,by rw [hp];exact h.inj,fun i g o p hl hq=>by
  rw [hp] at hl;obtain⟨h1,cur,v,h2,h3,h4⟩:=h.at_ i g o p hl hq
  exact⟨h1,cur,v,h2,h3,h4.le l⟩⟩
theorem bY(h:Gs w M)(hs:Stp M w M' w'){k o:Nat}(hk:k<8):w'.cell? ⟨k,o,none⟩=w.cell? ⟨k,o,none⟩:=World.cell?_of_block (w:=w) (hs.block k (Nat.lt_of_lt_of_le hk h.size) (h.low k hk)).1
theorem jN:1<8:=by decide
theorem kT:0<8:=by decide
theorem kU:6<8:=by decide
theorem Prm.stp(h:Prm w)(hg:Gs w M)(hs:Stp M w M' w'):Prm w':=fun k nm hk h12=>by rw [bY hg hs jN,bY hg hs jN];exact h k nm hk h12
theorem q7(hs:Mv M w M' w'){es:Array MapEntry}{c:Nat}(hb:w.heap[b]?=some (.map es c))(hm:M b):w'.heap[b]?=w.heap[b]? := by
 rcases(hs.keep b (aB hb) hm).2 with h | ⟨cur,e,fz,h,_⟩
 ·exact h
 ·rw [hb] at h;simp at h
theorem Tab.mapAt{ns:List (List UInt8)}(h:Tab w tb mb ns):∃es c,w.heap[mb]?=some (.map es c):=by obtain⟨D,⟨es,c,hb,_⟩,_⟩:=h.map;exact⟨es,c,hb⟩
theorem GlobAt.mapAt{s:Sg}{W:PW}(h:GlobAt w gb s W):∃es c,w.heap[gb]?=some (.map es c):=by obtain⟨D,⟨es,c,hb,_⟩,_⟩:=h;exact⟨es,c,hb⟩
theorem GlobAt.keep{s:Sg}{W:PW}(h:GlobAt w gb s W)(hk:w'.heap[gb]?=w.heap[gb]?):GlobAt w' gb s W:=by obtain⟨D,⟨es,c,hb,r⟩,hD⟩:=h;exact⟨D,⟨es,c,hk.trans hb,r⟩,hD⟩
theorem Rdr.mv{s:Sg}{ps:List (PV×PV)}(h:Rdr M w s tb mb ps)(hs:Mv M w M' w'):Rdr M' w' s tb mb ps:=by obtain⟨es,c,hb⟩:=h.tab.mapAt;obtain⟨e1,e2⟩:=hs.stp.block tb h.tab.lt.1 h.mtb;exact⟨h.tab.keep e1 (q7 hs hb h.mmb),h.pairs.stp hs.stp,(hs.keep mb h.tab.lt.2 h.mmb).1,e2,hs.lt h.mlt⟩
theorem Wd.mv{s:Sg}{sb:Nat}{W:PW}(h:Wd M w s tb mb sb gb W)(hs:Mv M w M' w'):Wd M' w' s tb mb sb gb W:=by
 obtain⟨es,c,hb⟩:=h.glob.mapAt;obtain⟨e1,e2⟩:=hs.stp.block sb (aB h.ses) h.msb
 exact⟨h.rdr.mv hs,e1.trans h.ses,e2,h.glob.keep (q7 hs hb h.mgb),(hs.keep gb (aB hb) h.mgb).1,h.gne,h.procs.mono (fun b x hx=>hx.go hs.stp (Sg.Le.refl _)),h.conts.mono (fun b x hx=>hx.go hs.stp (Sg.Le.refl _)),h.places.mv hs,h.gs.stp hs.stp,h.prm.stp h.gs hs.stp,
  (bY h.gs hs.stp kT).trans h.gt,by
   obtain⟨v,h1,h2⟩:=h.ge
   exact⟨v,(bY h.gs hs.stp kU).trans h1,h2⟩,h.tq,h.tc⟩
def OutR(M:Nat->Prop)(w:World)(v:Value)(l:Byt):Prop:=w.ownsRow 0 TBy 1 v l.length (cC l)/\∀g,v.ownBlock=some g->M g
structure RunAt(M:Nat->Prop)(w:World)(sb rb:Nat)(fv ev gv kv ov:Value):Prop where
 blk:w.heap[rb]?=some (.cells #[.pointer (some ⟨sb,0,none⟩),fv,ev,gv,kv,ov] TRun (0,0))
 mrb:M rb
def FormO(M:Nat->Prop)(w:World)(s:Sg)(v:Value)(ev gv:Value)(S:PS):Prop:=match S.form with
 | none=>v=.nilIface/\RV s gv S.val
 | some f=>RFm M w s v f/\EnvR M w s ev S.env
structure Sta(M:Nat->Prop)(w:World)(s:Sg)(sb rb:Nat)(S:PS)(out:Byt):Prop where
 ex:∃fv ev gv kv ov,RunAt M w sb rb fv ev gv kv ov/\FormO M w s fv ev gv S/\FrR M w s kv S.frames/\OutR M w ov out
end
end Go.Proofs.YtkgbdddkcjpgfaaGreatDoor
