import Derived.Test.YtkgbdddkcjpgfaaGreatDoorC07
import Derived.Test.YtkgbdddkcjpgfaaGreatDoorC05
import Derived.Test.YtkgbdddkcjpgfaaGreatDoorC03
namespace Go.Proofs.YtkgbdddkcjpgfaaGreatDoor
set_option maxHeartbeats 2000000
set_option maxRecDepth 100000
open Go.Proofs.Tryz
open Pl (PV kwB inW madeL)
section
open Go.RowKit
variable {bs s:List UInt8} {l:List (List UInt8)} {ok:Nat->Prop} {n:Nat} {w:World} {v:Value}
theorem fQ:∀(n:Nat)(bs:List UInt8) (l:List (List UInt8)),Pl.tkF n bs=some l->∀t∈l,cE t<4\/inW (t.headD 0)=true
 | 0,_,_,h=>by obtain rfl:=Option.some.inj h;simp
 | _+1,[],_,h=>by obtain rfl:=Option.some.inj h;simp
 | n+1,c::r,l,h=>by
  unfold Pl.tkF at h;split at h
  ·exact fQ n r l h
  split at h
  ·rename_i hc
   cases r with
   | nil=>simp at h
   | cons d q =>
    dsimp only at h;split at h
    ·rename_i hd;simp only [Option.map_eq_some_iff] at h;obtain⟨l1,h1,rfl⟩:=h;have ih:=fQ n q l1 h1;intro t ht;rcases List.mem_cons.1 ht with rfl | ht
     ·left;simp only [Bool.or_eq_true,beq_iff_eq] at hd hc;subst hc;rcases hd with rfl | rfl<;>decide
     ·exact ih t ht
    ·simp at h
  split at h
  ·rename_i hw;simp only [Option.map_eq_some_iff] at h;obtain⟨l1,h1,rfl⟩:=h;have ih:=fQ n _ l1 h1;intro t ht;rcases List.mem_cons.1 ht with rfl | ht
   ·exact .inr hw
   ·exact ih t ht
  split at h
  ·rename_i hp;simp only [Option.map_eq_some_iff] at h;obtain⟨l1,h1,rfl⟩:=h;have ih:=fQ n r l1 h1;intro t ht;rcases List.mem_cons.1 ht with rfl | ht
   ·left;simp only [Pl.punct,Bool.or_eq_true,beq_iff_eq] at hp;rcases hp with(rfl | rfl) | rfl<;>decide
   ·exact ih t ht
  ·simp at h
theorem dR(h:bF bs=some l):Pl.toks bs=some l/\l.all Pl.goodTok=true:=by
 unfold bF at h;split at h
 ·simp at h
 ·rename_i l' h1;split at h
  ·obtain rfl:=Option.some.inj h;exact⟨h1,by assumption⟩
  ·simp at h
theorem okSplit_none'(h:bF bs=none):Pl.toks bs=none\/∃l,Pl.toks bs=some l/\l.all Pl.goodTok=false:=by
 unfold bF at h;split at h
 ·left;assumption
 ·rename_i l' h1;split at h
  ·simp at h
  ·rename_i h2;exact .inr ⟨_,h1,by simpa using h2⟩
theorem sT(h:bF bs=some l)(hb:bs.length<=1000):l.length<=bs.length/\∀t∈l,OkT t:=by
 obtain⟨h1,h2⟩:=dR h;obtain⟨h3,h4⟩:=Pl.toks_size h1;refine⟨h3,fun t ht=>?_⟩;obtain⟨h5,h6⟩:=h4 t ht;refine⟨?_,h5,by omega⟩;rcases fQ _ _ _ h1 t ht with h7 | h7
 ·exact .inl h7
 ·have h8:=List.all_eq_true.1 h2 t ht;unfold Pl.goodTok at h8;rw [h7] at h8;right;simpa using h8
theorem kX(h:300<bs.length):Pl.check bs=1:=by unfold Pl.check;rw [if_pos h]
theorem pT(h:¬300<bs.length)(hk:bF bs=none):Pl.check bs=2:=by
 unfold Pl.check;rw [if_neg h];rcases okSplit_none' hk with h1 | ⟨l,h1,h2⟩
 ·rw [h1]
 ·rw [h1];dsimp only;rw [if_pos h2]
theorem aAM(h:¬300<bs.length)(hk:bF bs=some l)(hq:∀p,Pl.pd l.length l=some p->p.q≠[]):Pl.check bs=2:=by
 obtain⟨h1,h2⟩:=dR hk;unfold Pl.check;rw [if_neg h,h1];dsimp only;rw [if_neg (by simp [h2])]
 cases hp:Pl.pd l.length l with
 | none=>rfl
 | some p=>dsimp only;rw [if_pos (hq p hp)]
theorem aAN{p:Pl.PR}(h:¬300<bs.length)(hk:bF bs=some l)(hp:Pl.pd l.length l=some p)(hq:p.q=[]):Pl.check bs=if 20<p.dp then 3 else if p.gr=true then 4 else if Pl.isTop (l.length-1) p.t=true then 0 else 5:=by obtain⟨h1,h2⟩:=dR hk;unfold Pl.check;rw [if_neg h,h1];dsimp only;rw [if_neg (by simp [h2]),hp];dsimp only;rw [if_neg (by simp [hq])]
theorem kL{a b c:World}{B:Nat}{B2:Nat}(h1:Below B a b)(h:b.grownBy c (some B2))(h2:B<=B2)(hB:B<=a.heap.size):Below B a c :=⟨h.os.trans h1.os,h.tape.trans h1.tape,h.output.trans h1.output,Nat.le_trans h1.size h.size,fun k hk=>(h.block k (Nat.lt_of_lt_of_le hk (Nat.le_trans hB h1.size)) (fun e=>by obtain rfl:=Option.some.inj e;omega)).trans (h1.block k hk)⟩
def RdPost(w:World)(bs:List UInt8)(e:Ending)(w':World):Prop :=
 Below w.heap.size w w' /\
 ((∃(c:Nat)(s:ByteArray),Pl.check bs=c/\0<c/\c<=5/\e=.returned (.tuple #[.nilIface,aY s c])) \/
  ∃l p v,bF bs=some l/\l.length<=300/\Pl.pd l.length l=some p/\p.gr=false/\Pl.check bs=(if Pl.isTop (l.length-1) p.t=true then 0 else 5)/\e=.returned (.tuple #[v,.nilIface])/\RepP (fun k=>w.heap.size<=k) l.length w' v p.t)
theorem p_dread(s:ByteArray)(w:World)(hge:GE w) :Calls prog 64 #[.string s] w fun e w'=>RdPost w s.data.toList e w':=by
 have HGe:Hid (GE w):=hge;have hsz:s.data.toList.length=s.size:=by simp
 clear hge;by_cases hl:300<s.size
 ·have HC:Hid (Pl.check s.data.toList=1):=kX (by omega);have hl2:(300:Int)<(s.size:Int):=by omega
  go_enter func64,ntmps64
  go_wp2_with (go_at_call 78;refine(bJ _ _ _).mono ?_;rintro e w' ⟨rfl,rfl⟩)
  go_ret2;exact⟨Below.refl _ _,.inl ⟨1,_,HC.out,by omega,by omega,rfl⟩⟩
 ·have hl2:¬(300:Int)<(s.size:Int):=by omega
  have HL:Hid (¬300<s.data.toList.length):=by rw [hsz];exact hl
  have HSz:Hid (_=_):=hsz;clear hsz;go_enter func64,ntmps64;go_wp2_with fail;refine(p_split s w (by omega)).mono ?_;rintro e w1 ⟨hb1,hpost⟩;have HB1:Hid (Below _ _ _):=hb1;clear hb1;rcases hpost with⟨hno,v,es,rfl⟩ | ⟨l,v,hsome,rfl,hrow⟩
  ·have HC:Hid (Pl.check s.data.toList=2):=pT HL.out hno;clear hno;unfold aY;go_wp2_with fail;go_ret2;exact⟨HB1.out,.inl ⟨2,_,HC.out,by omega,by omega,rfl⟩⟩
  ·have HO:Hid (_=_):=hsome;have HT:Hid (TkSl w1 v l):=TkSl.of_own hrow;obtain⟨ao,cap,rfl,_⟩:=HT.out;obtain⟨hln,hok⟩:=sT hsome (by rw [HSz.out];omega);rw [HSz.out] at hln;have HOk:Hid (∀t∈l,OkT t):=hok;have HG1:Hid (GE w1):=HGe.out.below HB1.out;have hw1:=HG1.out.lt;clear hok hsome hrow;go_wp2_with fail;have HB2:Hid (Below w.heap.size w (w1.alloc (.cells #[.slice ao l.length cap,.int .i64 0,.int .i64 0,.bool false] PR (0,0)))):=HB1.out.alloc (HB1.out.size) _;have hb1s:=HB1.out.size;refine(p_whole l.length _ w1.heap.size (.slice ao l.length cap) l false (heap_alloc_new _ _) (HT.out.below ((Below.refl _ _).alloc (Nat.le_refl _) _)) (HG1.out.below ((Below.refl _ _).alloc (Nat.le_refl _) _)) hw1 (Nat.le_refl _) (by omega) HOk.out).mono ?_;rintro e w2 ⟨hg2,hpost⟩;have HB3:Hid (Below w.heap.size w w2):=kL HB2.out hg2 hb1s (Nat.le_refl _);clear hg2;rcases hpost with⟨es,rfl,hno⟩ | ⟨p,v,rst',hp,hq,rfl,hrep,hrd⟩
   ·have HC:Hid (Pl.check s.data.toList=2):=aAM HL.out HO.out hno;clear hno;unfold aY;go_wp2_with fail;go_ret2;exact⟨HB3.out,.inl ⟨2,_,HC.out,by omega,by omega,rfl⟩⟩
   ·have HC:Hid (_=_):=aAN HL.out HO.out hp hq;have HRp:Hid (RepP _ _ _ _ _):=hrep;have HP:Hid (_=_):=hp;obtain⟨T,x,rfl,_⟩:=hrep.iface;obtain⟨c0,c1,c2,c3⟩:=hrd.cells;rw [show max 0 p.dp=p.dp by omega] at c2;rw [Bool.false_or] at c3;clear hrep hrd hp hq;by_cases hd:20<p.dp
    ·have hd2:(20:Int)<(p.dp:Int):=by omega
     go_wp2_with (go_at_call 78;refine(bJ _ _ _).mono ?_;rintro e w' ⟨rfl,rfl⟩)
     go_ret2;exact⟨HB3.out,.inl ⟨3,_,HC.out.trans (if_pos hd),by omega,by omega,rfl⟩⟩
    ·have hd2:¬(20:Int)<(p.dp:Int):=by omega
     cases hgr:p.gr
     ·rw [hgr] at c3;have HGr:Hid (_=_):=hgr;clear hgr;go_wp2_with fail;go_ret2;refine⟨HB3.out,.inr ⟨l,p,_,HO.out,by omega,HP.out,HGr.out,HC.out.trans ?_,rfl,RepP.mono (fun _ _ hk=>Nat.le_trans HB2.out.size hk) _ _ _ HRp.out⟩⟩;rw [if_neg hd,if_neg (by simp [HGr.out])]
     ·rw [hgr] at c3;have HGr:Hid (_=_):=hgr;clear hgr;go_wp2_with (go_at_call 78;refine(bJ _ _ _).mono ?_;rintro e w' ⟨rfl,rfl⟩);go_ret2;exact⟨HB3.out,.inl ⟨4,_,HC.out.trans (by rw [if_neg hd,if_pos HGr.out]),by omega,by omega,rfl⟩⟩
theorem Tryz.asNumber_Name(v:Value)(w:World):(Instr.typeAssert (.iface 293 v) 109 117 true).run prog w=.ok (.tuple #[.string ByteArray.empty,.bool false]) w:=by kernel_rfl
theorem Tryz.asNumber_List(v:Value)(w:World):(Instr.typeAssert (.iface 293 v) 109 115 true).run prog w=.ok (.tuple #[.slice none 0 0,.bool false]) w:=by kernel_rfl
theorem Tryz.asTruth_Name(v:Value)(w:World):(Instr.typeAssert (.iface 295 v) 109 117 true).run prog w=.ok (.tuple #[.string ByteArray.empty,.bool false]) w:=by kernel_rfl
theorem Tryz.asTruth_List(v:Value)(w:World):(Instr.typeAssert (.iface 295 v) 109 115 true).run prog w=.ok (.tuple #[.slice none 0 0,.bool false]) w:=by kernel_rfl
theorem Tryz.asName_Name(v:Value)(w:World):(Instr.typeAssert (.iface 117 v) 109 117 true).run prog w=.ok (.tuple #[v,.bool true]) w:=by kernel_rfl
theorem Tryz.asName_List(v:Value)(w:World):(Instr.typeAssert (.iface 117 v) 109 115 true).run prog w=.ok (.tuple #[.slice none 0 0,.bool false]) w:=by kernel_rfl
theorem Tryz.asList_Name(v:Value)(w:World):(Instr.typeAssert (.iface 115 v) 109 117 true).run prog w=.ok (.tuple #[.string ByteArray.empty,.bool false]) w:=by kernel_rfl
theorem Tryz.asList_List(v:Value)(w:World):(Instr.typeAssert (.iface 115 v) 109 115 true).run prog w=.ok (.tuple #[v,.bool true]) w:=by kernel_rfl
def eG(ts:List Tr):List UInt8:=match Pl.headKw ts with
 | some h=>h
 | none=>[]
theorem RepP.at_name(h:RepP ok n w v (.lit (.string s))):v=.iface 117 (.string ⟨s.toArray⟩):=by
 cases n with
 | zero=>exact h.elim
 | succ n=>exact h
theorem v7(h:kwB s=false):(s==Pl.quoteW)=false/\(s==Pl.ifW)=false/\(s==Pl.lambdaW)=false/\(s==Pl.setW)=false/\(s==Pl.defineW)=false/\(s==Pl.beginW)=false/\(s==Pl.letW)=false:=by
 have h0:s∉Pl.kws:=fun hm=>by rw [(Pl.kwB_sound s).2 hm] at h;simp at h
 simp only [Pl.kws,List.mem_cons,List.not_mem_nil,or_false,not_or] at h0;obtain⟨h1,h2,h3,h4,h5,h6,h7⟩:=h0;exact⟨by simpa using h1,by simpa using h2,by simpa using h3,by simpa using h4,by simpa using h5,by simpa using h6,by simpa using h7⟩
theorem rB(h:kwB s=true):s=Pl.quoteW\/s=Pl.ifW\/s=Pl.lambdaW\/s=Pl.setW\/s=Pl.defineW\/s=Pl.beginW\/s=Pl.letW:=by have h0:=(Pl.kwB_sound s).1 h;simpa only [Pl.kws,List.mem_cons,List.not_mem_nil,or_false] using h0
theorem b8(s:List UInt8)(w:World):Calls prog 110 #[.string ⟨s.toArray⟩] w fun e w'=>e=.returned (.bool (kwB s))/\w=w':=by
 cases hk:kwB s
 ·obtain⟨h1,h2,h3,h4,h5,h6,h7⟩:=v7 hk;unfold Pl.quoteW at h1;unfold Pl.ifW at h2;unfold Pl.lambdaW at h3;unfold Pl.setW at h4;unfold Pl.defineW at h5;unfold Pl.beginW at h6;unfold Pl.letW at h7;clear hk;go_enter func110,ntmps110;go_wp2_with fail;go_ret;exact⟨rfl,rfl⟩
 ·rcases rB hk with rfl | rfl | rfl | rfl | rfl | rfl | rfl
  ·clear hk;unfold Pl.quoteW;go_enter func110,ntmps110;go_wp2_with fail;go_ret;exact⟨rfl,rfl⟩
  ·clear hk;unfold Pl.ifW;go_enter func110,ntmps110;go_wp2_with fail;go_ret;exact⟨rfl,rfl⟩
  ·clear hk;unfold Pl.lambdaW;go_enter func110,ntmps110;go_wp2_with fail;go_ret;exact⟨rfl,rfl⟩
  ·clear hk;unfold Pl.setW;go_enter func110,ntmps110;go_wp2_with fail;go_ret;exact⟨rfl,rfl⟩
  ·clear hk;unfold Pl.defineW;go_enter func110,ntmps110;go_wp2_with fail;go_ret;exact⟨rfl,rfl⟩
  ·clear hk;unfold Pl.beginW;go_enter func110,ntmps110;go_wp2_with fail;go_ret;exact⟨rfl,rfl⟩
  ·clear hk;unfold Pl.letW;go_enter func110,ntmps110;go_wp2_with fail;go_ret;exact⟨rfl,rfl⟩
theorem aS(s:ByteArray)(w:World):Calls prog 149 #[.string s] w fun e w'=>e=.returned (aY s 5)/\w=w':=by
 go_enter func149,ntmps149
 go_wp2_with (go_at_call 78;refine(bJ _ _ _).mono ?_;rintro e w' ⟨rfl,rfl⟩)
 go_ret;exact⟨rfl,rfl⟩
theorem oX(ok:Nat->Prop)(n:Nat)(sl:Value)(vs:List Value)(ts:List Tr)(w w0:World)(hS:SlOf w sl vs)(hl:vs.length=ts.length)(hA:∀(u:Value)(x:Tr),vs.head? = some u->ts.head? = some x->RepP ok n w0 u x):Calls prog 65 #[sl] w fun e w'=>e=.returned (.string ⟨(eG ts).toArray⟩)/\w=w':=by
 have as1:=Tryz.asNumber_Name;have as2:=Tryz.asTruth_Name;have as3:=Tryz.asName_Name;have as4:=Tryz.asList_Name
 match vs,ts,hl with
 | [],[],_ =>obtain⟨ao,cap,rfl,_⟩:=hS;go_enter func65,ntmps65;go_wp2_with fail;go_ret;exact⟨rfl,rfl⟩
 | u::us,t::r,hl =>
  obtain⟨g,off,cap,rfl,hcap,hg,c0,_⟩:=hS.cell0;have h:=hA u t rfl rfl;have hz:((us.length:Int)+1==0)=false:=by simp;omega
  clear hS hA hl;by_cases hs:∃s,t=.lit (.string s)
  ·obtain⟨s,rfl⟩:=hs;obtain rfl:=h.at_name;clear h
   cases hk:kwB s
   ·have HE:Hid (eG (.lit (.string s)::r)=[]):=by simp [Hid,eG,Pl.headKw,hk]
    go_enter func65,ntmps65
    go_wp2_with (go_at_call 110;refine(b8 _ _).mono ?_;rintro e w' ⟨rfl,rfl⟩)
    go_ret;exact⟨by rw [HE.out];rfl,rfl⟩
   ·have HE:Hid (eG (.lit (.string s)::r)=s):=by simp [Hid,eG,Pl.headKw,hk]
    go_enter func65,ntmps65
    go_wp2_with (go_at_call 110;refine(b8 _ _).mono ?_;rintro e w' ⟨rfl,rfl⟩)
    go_ret;exact⟨by rw [HE.out];rfl,rfl⟩
  ·have HE:Hid (eG (t::r)=[]):=by
    show eG (t::r)=[]
    have:Pl.headKw (t::r)=none:=by
     unfold Pl.headKw;split
     ·rename_i heq;obtain⟨h1,_⟩:=List.cons.inj heq;exact absurd ⟨_,h1⟩ hs
     ·rfl
    unfold eG;rw [this]
   obtain⟨x,hx⟩:∃x,u=.iface 293 x\/u=.iface 295 x\/u=.iface 115 x:=by
    cases n with
    | zero=>exact h.elim
    | succ n =>
     match t,h with
     | .lit (.int _ _),h=>obtain⟨k,rfl,_⟩:=h;exact⟨_,.inl rfl⟩
     | .lit (.bool _),h=>exact⟨_,.inr (.inl h)⟩
     | .lit (.string s),_=>exact absurd ⟨s,rfl⟩ hs
     | .agg ts,h=>obtain⟨sl,vs,rfl,_⟩:=h;exact⟨_,.inr (.inr rfl)⟩
   clear h hs;rcases hx with rfl | rfl | rfl
   ·go_enter func65,ntmps65
    go_wp2_with fail
    go_ret;exact⟨by rw [HE.out];rfl,rfl⟩
   ·go_enter func65,ntmps65
    go_wp2_with fail
    go_ret;exact⟨by rw [HE.out];rfl,rfl⟩
   ·go_enter func65,ntmps65
    go_wp2_with fail
    go_ret;exact⟨by rw [HE.out];rfl,rfl⟩
theorem Tryz.asNumber_Number(v:Value)(w:World):(Instr.typeAssert (.iface 293 v) 109 293 true).run prog w=.ok (.tuple #[v,.bool true]) w:=by kernel_rfl
theorem Tryz.asTruth_Truth(v:Value)(w:World):(Instr.typeAssert (.iface 295 v) 109 295 true).run prog w=.ok (.tuple #[v,.bool true]) w:=by kernel_rfl
theorem Tryz.asTruth_Number(v:Value)(w:World):(Instr.typeAssert (.iface 295 v) 109 293 true).run prog w=.ok (.tuple #[.int .i64 0,.bool false]) w:=by kernel_rfl
theorem Tryz.asName_Number(v:Value)(w:World):(Instr.typeAssert (.iface 117 v) 109 293 true).run prog w=.ok (.tuple #[.int .i64 0,.bool false]) w:=by kernel_rfl
theorem Tryz.asList_Number(v:Value)(w:World):(Instr.typeAssert (.iface 115 v) 109 293 true).run prog w=.ok (.tuple #[.int .i64 0,.bool false]) w:=by kernel_rfl
theorem Tryz.asName_Truth(v:Value)(w:World):(Instr.typeAssert (.iface 117 v) 109 295 true).run prog w=.ok (.tuple #[.bool false,.bool false]) w:=by kernel_rfl
theorem Tryz.asList_Truth(v:Value)(w:World):(Instr.typeAssert (.iface 115 v) 109 295 true).run prog w=.ok (.tuple #[.bool false,.bool false]) w:=by kernel_rfl
theorem RepP.list{ts:List Tr}(h:RepP ok (n+1) w v (.agg ts)):∃sl vs,v=.iface 115 sl/\SlOf w sl vs/\vs.length=ts.length/\ts.length<=1000/\∀(i:Nat)(u:Value)(x:Tr),vs[i]?=some u->ts[i]?=some x->RepP ok n w u x:=by obtain⟨sl,vs,hv,_,h3,h4,h5⟩:=h;exact⟨sl,vs,hv,bC h3,h3.1.trans (Nat.mul_one _),h5,h4⟩
theorem RepP.no_list{t:Tr}(h:RepP ok n w v t)(hn:¬∃s,t=.agg s):∃x,v=.iface 293 x\/v=.iface 295 x\/v=.iface 117 x:=by
 cases n with
 | zero=>exact h.elim
 | succ n =>
  match t,h with
  | .lit (.int _ _),h=>obtain⟨k,rfl,_⟩:=h;exact⟨_,.inl rfl⟩
  | .lit (.bool _),h=>exact⟨_,.inr (.inl h)⟩
  | .lit (.string s),h=>exact⟨_,.inr (.inr h)⟩
  | .agg ts,h=>exact absurd ⟨ts,rfl⟩ hn
def PbLe(s t:Sg):Prop:=∃l,t={s with pb:=s.pb++l}
theorem PbLe.refl(s:Sg):PbLe s s:=⟨[],by simp⟩
theorem PbLe.trans{a b c:Sg}(h:PbLe a b)(k:PbLe b c):PbLe a c:=by obtain⟨l,rfl⟩:=h;obtain⟨m,rfl⟩:=k;exact⟨l++m,by simp⟩
theorem PbLe.le{a b:Sg}(h:PbLe a b):Sg.Le a b:=by obtain⟨l,rfl⟩:=h;exact⟨rfl,rfl,List.prefix_append _ _,List.prefix_refl _,List.prefix_refl _,List.prefix_refl _,List.prefix_refl _⟩
theorem PbLe.add(s:Sg)(b:Nat):PbLe s (s.addPair b):=⟨[b],rfl⟩
def OfPost(M:Nat->Prop)(w:World)(s:Sg)(ps:List (PV×PV))(r:PV×List (PV×PV))(e:Ending)(w':World):Prop :=∃v t,e=.returned v/\RV t v r.1/\PairsAt M w' t (ps++r.2)/\Below w.heap.size w w'/\PbLe s t
def OfSaid(n:Nat):Prop:=∀(M:Nat->Prop)(ok:Nat->Prop)(w:World)(s:Sg) (ps:List (PV×PV)) (v:Value) (t:Tr),PairsAt M w s ps->(∀k,M k->k<w.heap.size)->RepP ok n w v t->cL n t ->
 Calls prog 114 #[v] w fun e w'=>OfPost M w s ps (Pl.made n ps.length t) e w'
theorem mD{α:Type}{l:List α}{k:Nat}{x:α}(h:l[k]?=some x):l.drop k=x::l.drop (k+1):=by obtain⟨hk,rfl⟩:=List.getElem?_eq_some_iff.1 h;exact List.drop_eq_getElem_cons hk
theorem zT(n b:Nat)(ts:List Tr)(k:Nat)(x:Tr)(h:ts[k]?=some x):madeL (Pl.made n) b (ts.drop k)=madeL (Pl.made n) b (x::ts.drop (k+1)):=by rw [mD h]
def OfInv(n:Nat)(M:Nat->Prop)(w wr:World)(s sk:Sg)(ps:List (PV×PV))(ts:List Tr)(k:Nat)(lv:Value):Prop :=RV sk lv (madeL (Pl.made n) ps.length (ts.drop k)).1/\PairsAt M wr sk (ps++(madeL (Pl.made n) ps.length (ts.drop k)).2)/\Below w.heap.size w wr/\PbLe s sk
theorem yR(n:Nat)(ih:OfSaid n)(M ok:Nat->Prop)(w:World)(s:Sg)(ps:List (PV×PV))(sl:Value)(vs:List Value)(ts:List Tr)(hP:PairsAt M w s ps)(hM:∀k,M k->k<w.heap.size)(hS:SlOf w sl vs)(hl:vs.length=ts.length)(hlen:ts.length<=1000)(hA:∀(i:Nat)(u:Value)(x:Tr),vs[i]?=some u->ts[i]?=some x->RepP ok n w u x)(hB:∀x∈ts,cL n x) :Calls prog 157 #[sl] w fun e w'=>OfPost M w s ps (madeL (Pl.made n) ps.length ts) e w':=by
 have HP:Hid (PairsAt M w s ps):=hP;have HM:Hid (∀k,M k->k<w.heap.size):=hM;have HA:Hid (∀(i:Nat)(u:Value)(x:Tr),vs[i]?=some u->ts[i]?=some x->RepP ok n w u x):=hA;have HB:Hid (∀x∈ts,cL n x):=hB;have HI:Hid (OfSaid n):=ih;have HL:Hid (vs.length=ts.length):=hl;obtain⟨ao,cap,rfl,hcap,hc⟩:=hS;have HC:Hid (∀(i:Nat)(u:Value),vs[i]?=some u->∃g off,ao=some ⟨g,off,none⟩/\g<w.heap.size/\w.cell? ⟨g,off+i,none⟩=some u):=hc;rw [hl];clear hP hM hA hB ih hc hl;go_enter func157,ntmps157;go_wp2_with fail
 go_loopw [3,4] (fun l i wr=>∃(k:Nat)(lv:Value)(sk:Sg),k<=ts.length/\i=.int .i64 ((k:Int)-1)/\l=lv/\Hid (OfInv n M w wr s sk ps ts k lv)) (fun _ i _=>(intOf i+1).toNat)
 case atStart =>
  refine⟨ts.length,_,s,Nat.le_refl _,by go_num,rfl,?_⟩;refine show OfInv _ _ _ _ _ _ _ _ _ _ from⟨?_,?_,Below.refl _ _,PbLe.refl _⟩
  ·rw [List.drop_length];exact .empty
  ·rw [List.drop_length];simpa [madeL] using HP.out
 case round =>
  obtain⟨k,lv,sk,hk,rfl,rfl,HK⟩:=hrel;rcases Nat.eq_zero_or_pos k with rfl | hpos
  ·have e0:(((0:Nat):Int)-1)=-1:=by omega
   rw [e0];go_wp2_with fail;go_ret;obtain⟨h1,h2,h3,h4⟩:=HK.out;exact⟨_,sk,rfl,h1,h2,h3,h4⟩
  ·obtain⟨j,rfl⟩:∃j,k=j+1:=⟨k-1,by omega⟩
   have e0:(((j+1:Nat):Int)-1)=(j:Int):=by omega
   rw [e0];have hjl:j<ts.length:=by omega
   obtain⟨tj,hx⟩:∃x,ts[j]?=some x:=⟨_,List.getElem?_eq_getElem hjl⟩
   obtain⟨vj,hvj⟩:∃x,vs[j]?=some x:=⟨_,List.getElem?_eq_getElem (by have:=HL.out;omega)⟩
   obtain⟨g,off,rfl,hg,hc⟩:=HC.out j vj hvj;have hR:=HA.out j vj tj hvj hx;have HK':=HK.out;obtain⟨h1,h2,h3,h4⟩:=HK';have hcr:=(h3.cell (p:=⟨g,off+j,none⟩) hg).trans hc;have HR:Hid (RepP ok n wr vj tj):=hR.later h3;have HBx:Hid (cL n tj):=HB.out _ (List.mem_of_getElem? hx);have HE:Hid (madeL (Pl.made n) ps.length (ts.drop j)=madeL (Pl.made n) ps.length (tj::ts.drop (j+1))):=zT n ps.length ts j _ hx;obtain⟨T,x,hv,hone⟩:=hR.iface;have hj1:(0:Int)<=(j:Int):=by omega
   have hj2:(j:Int)<(ts.length:Int):=by omega
   have HR':=HR;rw [hv] at hcr HR';obtain⟨T0,x0,hlv⟩:=h1.iface;subst hlv;clear hx hc hR hone hv h1 h2 h3 h4 HR hjl hvj;go_wp2_with fail;obtain⟨h1,h2,h3,h4⟩:=HK.out;refine(HI.out M ok wr sk _ _ tj h2 (fun k hk=>Nat.lt_of_lt_of_le (HM.out k hk) h3.size) HR'.out HBx.out).mono ?_;rintro e w2 ⟨v2,t2,rfl,k1,k2,k3,k4⟩;have hM2:∀k,M k->k<w2.heap.size:=fun k hk=>Nat.lt_of_lt_of_le (HM.out k hk) (Nat.le_trans h3.size k3.size);obtain⟨p1,p2⟩:=k2.push hM2 (p:=((Pl.made n (ps++(madeL (Pl.made n) ps.length (ts.drop (j+1))).2).length tj).1,(madeL (Pl.made n) ps.length (ts.drop (j+1))).1)) k1 (h1.le k4.le);have hB2:Below w.heap.size w (w2.alloc (.cells #[v2,.iface T0 x0] TPair)):=(h3.trans (k3.mono h3.size)).alloc (Nat.le_trans h3.size k3.size) _
   have HN:Hid (OfInv n M w (w2.alloc (.cells #[v2,.iface T0 x0] TPair)) s (t2.addPair w2.heap.size) ps ts j (.iface 367 (.pointer (some ⟨w2.heap.size,0,none⟩)))):=by
    refine show OfInv _ _ _ _ _ _ _ _ _ _ from⟨?_,?_,hB2,h4.trans (k4.trans (PbLe.add _ _))⟩
    ·rw [HE.out];simpa [madeL,Nat.add_assoc] using p2
    ·rw [HE.out];simpa [madeL,Nat.add_assoc] using p1
   obtain⟨T2,x2,rfl⟩:=k1.iface;clear h1 h2 h3 h4 k1 k2 k3 k4 hM2 p1 p2 hB2;go_wp2_with fail
   go_roundw
   case rel=>exact⟨j,_,_,by omega,by go_num,rfl,HN⟩
   case measure=>simp [intOf]
theorem p_of:∀n,OfSaid n
 | 0=>fun M ok w s ps v t _ _ h _=>h.elim
 | n+1=>fun M ok w s ps v t hP hM hR hB=>by
  have a1:=Tryz.asNumber_Number;have a2:=Tryz.asTruth_Truth;have a3:=Tryz.asTruth_Number;have a4:=Tryz.asName_Number;have a5:=Tryz.asList_Number;have a6:=Tryz.asName_Truth;have a7:=Tryz.asList_Truth;have a8:=Tryz.asName_Name;have a9:=Tryz.asList_Name;have a10:=Tryz.asList_List;have HP:Hid (PairsAt M w s (ps++[])):=show PairsAt M w s (ps++[]) from by rw [List.append_nil];exact hP
  match t,hR,hB with
  | .lit (.int _ m),hR,hB =>obtain⟨k,rfl,hk⟩:=hR;obtain rfl:=hk hB;clear hP hM hk hB;go_enter func114,ntmps114;go_wp2_with fail;go_ret;exact⟨_,s,rfl,.num _,HP.out,Below.refl _ _,PbLe.refl _⟩
  | .lit (.bool x),hR,hB =>
   obtain rfl:=(show v=_ from hR)
   clear hP hM hB hR;go_enter func114,ntmps114;go_wp2_with fail;go_ret;exact⟨_,s,rfl,.truth _,HP.out,Below.refl _ _,PbLe.refl _⟩
  | .lit (.string x),hR,hB =>
   obtain rfl:=(show v=_ from hR)
   clear hP hM hB hR;go_enter func114,ntmps114;go_wp2_with fail;go_ret;exact⟨_,s,rfl,.name _,HP.out,Below.refl _ _,PbLe.refl _⟩
  | .agg ts,hR,hB =>obtain⟨sl,vs,rfl,h1,h2,h3,h4⟩:=hR.list;have HC:Hid (Calls prog 157 #[sl] w fun e w'=>OfPost M w s ps (madeL (Pl.made n) ps.length ts) e w'):=yR n (p_of n) M ok w s ps sl vs ts hP hM h1 h2 h3 h4 hB;obtain⟨ao,cap,rfl,_⟩:=h1;clear hP hM hB hR h4 h2 h3;go_enter func114,ntmps114;go_wp2_with fail;refine Calls.mono HC.out ?_;rintro e w2 ⟨v2,t2,rfl,k1,k2⟩;have H1:Hid (RV t2 v2 _):=k1;have H2:Hid (_/\_):=k2;obtain⟨T2,x2,rfl⟩:=k1.iface;clear k1 k2;go_wp2_with fail;go_ret;exact⟨_,t2,rfl,H1.out,H2.out⟩
end
end Go.Proofs.YtkgbdddkcjpgfaaGreatDoor
