import Derived.Test.YtieooapcfpimlaaGreatDoorL06
import Derived.Test.YtieooapcfpimlaaGreatDoorL02
namespace Go.Proofs.YtieooapcfpimlaaGreatDoor
set_option maxHeartbeats 2000000
set_option maxRecDepth 100000
open Go.Proofs.Tryz
open Pl (PV EE AL)
section
open Go.RowKit
variable {ok:Nat->Prop} {n:Nat} {w:World} {v:Value} {s:List UInt8}
theorem Tryz.FY(v:Value)(w:World):(Instr.typeAssert (.iface 186 v) 112 120 true).run prog w=.ok (.tuple #[.string ByteArray.empty,.bool false]) w:=by kernel_rfl
theorem Tryz.EO(v:Value)(w:World):(Instr.typeAssert (.iface 186 v) 112 118 true).run prog w=.ok (.tuple #[.slice none 0 0,.bool false]) w:=by kernel_rfl
theorem Tryz.GO(v:Value)(w:World):(Instr.typeAssert (.iface 188 v) 112 120 true).run prog w=.ok (.tuple #[.string ByteArray.empty,.bool false]) w:=by kernel_rfl
theorem Tryz.E7(v:Value)(w:World):(Instr.typeAssert (.iface 188 v) 112 118 true).run prog w=.ok (.tuple #[.slice none 0 0,.bool false]) w:=by kernel_rfl
theorem Tryz.FM(v:Value)(w:World):(Instr.typeAssert (.iface 120 v) 112 120 true).run prog w=.ok (.tuple #[v,.bool true]) w:=by kernel_rfl
theorem Tryz.FN(v:Value)(w:World):(Instr.typeAssert (.iface 120 v) 112 118 true).run prog w=.ok (.tuple #[.slice none 0 0,.bool false]) w:=by kernel_rfl
theorem Tryz.IB(v:Value)(w:World):(Instr.typeAssert (.iface 118 v) 112 120 true).run prog w=.ok (.tuple #[.string ByteArray.empty,.bool false]) w:=by kernel_rfl
theorem Tryz.ET(v:Value)(w:World):(Instr.typeAssert (.iface 118 v) 112 118 true).run prog w=.ok (.tuple #[v,.bool true]) w:=by kernel_rfl
def eG(ts:List Tr):List UInt8:=match Pl.BJ ts with
 | some h=>h
 | none=>[]
theorem AN.QR(h:AN ok n w v (.lit (.string s))):v=.iface 120 (.string ⟨s.toArray⟩):=by
 cases n with
 | zero=>exact h.elim
 | succ n=>exact h
theorem v7(h:EE s=false):(s==Pl.CB)=false/\(s==Pl.VN)=false/\(s==Pl.C3)=false/\(s==Pl.LR)=false/\(s==Pl.CK)=false/\(s==Pl.FX)=false/\(s==Pl.K2)=false:=by
 have a:s∉Pl.RZ:=fun b=>by rw [(Pl.IH s).2 b] at h;simp at h
 simp only [Pl.RZ,List.mem_cons,List.not_mem_nil,or_false,not_or] at a;obtain⟨c,d,e,f,g,i,j⟩:=a;exact⟨by simpa using c,by simpa using d,by simpa using e,by simpa using f,by simpa using g,by simpa using i,by simpa using j⟩
theorem kwB_true(h:EE s=true):s=Pl.CB\/s=Pl.VN\/s=Pl.C3\/s=Pl.LR\/s=Pl.CK\/s=Pl.FX\/s=Pl.K2:=by have a:=(Pl.IH s).1 h;simpa only [Pl.RZ,List.mem_cons,List.not_mem_nil,or_false] using a
theorem p_isKeyword(s:List UInt8)(w:World):Calls prog 52 #[.string ⟨s.toArray⟩] w fun e b=>e=.returned (.bool (EE s))/\w=b:=by
 cases a:EE s
 ·obtain⟨c,d,f,g,h,i,j⟩:=v7 a;unfold Pl.CB at c;unfold Pl.VN at d;unfold Pl.C3 at f;unfold Pl.LR at g;unfold Pl.CK at h;unfold Pl.FX at i;unfold Pl.K2 at j;clear a;go_enter func52,ntmps52;go_wp2_with fail;go_ret;exact⟨rfl,rfl⟩
 ·rcases kwB_true a with rfl | rfl | rfl | rfl | rfl | rfl | rfl
  ·clear a;unfold Pl.CB;go_enter func52,ntmps52;go_wp2_with fail;go_ret;exact⟨rfl,rfl⟩
  ·clear a;unfold Pl.VN;go_enter func52,ntmps52;go_wp2_with fail;go_ret;exact⟨rfl,rfl⟩
  ·clear a;unfold Pl.C3;go_enter func52,ntmps52;go_wp2_with fail;go_ret;exact⟨rfl,rfl⟩
  ·clear a;unfold Pl.LR;go_enter func52,ntmps52;go_wp2_with fail;go_ret;exact⟨rfl,rfl⟩
  ·clear a;unfold Pl.CK;go_enter func52,ntmps52;go_wp2_with fail;go_ret;exact⟨rfl,rfl⟩
  ·clear a;unfold Pl.FX;go_enter func52,ntmps52;go_wp2_with fail;go_ret;exact⟨rfl,rfl⟩
  ·clear a;unfold Pl.K2;go_enter func52,ntmps52;go_wp2_with fail;go_ret;exact⟨rfl,rfl⟩
theorem aS(s:ByteArray)(w:World):Calls prog 71 #[.string s] w fun e a=>e=.returned (aY s 5)/\w=a:=by
 go_enter func71,ntmps71
 go_wp2_with (go_at_call 33;refine(bJ _ _ _).mono ?_;rintro e a ⟨rfl,rfl⟩)
 go_ret;exact⟨rfl,rfl⟩
theorem oX(ok:Nat->Prop)(n:Nat)(sl:Value)(vs:List Value)(b:List Tr)(w q:World)(d:DB w sl vs)(f:vs.length=b.length)(m:∀(u:Value)(x:Tr),vs.head? = some u->b.head? = some x->AN ok n q u x):Calls prog 41 #[sl] w fun e i=>e=.returned (.string ⟨(eG b).toArray⟩)/\w=i:=by
 have v:=Tryz.FY;have y:=Tryz.GO;have z:=Tryz.FM;have A:=Tryz.IB
 match vs,b,f with
 | [],[],_ =>obtain⟨F,j,rfl,_⟩:=d;go_enter func41,ntmps41;go_wp2_with fail;go_ret;exact⟨rfl,rfl⟩
 | u::B,t::r,f =>
  obtain⟨g,C,j,rfl,o,G,H,_⟩:=d.cell0;have h:=m u t rfl rfl;have I:((B.length:Int)+1==0)=false:=by simp;omega
  clear d m f;by_cases c:∃s,t=.lit (.string s)
  ·obtain⟨s,rfl⟩:=c;obtain rfl:=h.QR;clear h
   cases p:EE s
   ·have a:Hid (eG (.lit (.string s)::r)=[]):=by simp [Hid,eG,Pl.BJ,p]
    go_enter func41,ntmps41
    go_wp2_with (go_at_call 52;refine(p_isKeyword _ _).mono ?_;rintro e i ⟨rfl,rfl⟩)
    go_ret;exact⟨by rw [a.out];rfl,rfl⟩
   ·have a:Hid (eG (.lit (.string s)::r)=s):=by simp [Hid,eG,Pl.BJ,p]
    go_enter func41,ntmps41
    go_wp2_with (go_at_call 52;refine(p_isKeyword _ _).mono ?_;rintro e i ⟨rfl,rfl⟩)
    go_ret;exact⟨by rw [a.out];rfl,rfl⟩
  ·have a:Hid (eG (t::r)=[]):=by
    show eG (t::r)=[]
    have:Pl.BJ (t::r)=none:=by
     unfold Pl.BJ;split
     ·rename_i l;obtain⟨D,_⟩:=List.cons.inj l;exact absurd ⟨_,D⟩ c
     ·rfl
    unfold eG;rw [this]
   obtain⟨x,E⟩:∃x,u=.iface 186 x\/u=.iface 188 x\/u=.iface 118 x:=by
    cases n with
    | zero=>exact h.elim
    | succ n =>
     match t,h with
     | .lit (.int _ _),h=>obtain⟨k,rfl,_⟩:=h;exact⟨_,.inl rfl⟩
     | .lit (.bool _),h=>exact⟨_,.inr (.inl h)⟩
     | .lit (.string s),_=>exact absurd ⟨s,rfl⟩ c
     | .agg b,h=>obtain⟨sl,vs,rfl,_⟩:=h;exact⟨_,.inr (.inr rfl)⟩
   clear h c;rcases E with rfl | rfl | rfl
   ·go_enter func41,ntmps41
    go_wp2_with fail
    go_ret;exact⟨by rw [a.out];rfl,rfl⟩
   ·go_enter func41,ntmps41
    go_wp2_with fail
    go_ret;exact⟨by rw [a.out];rfl,rfl⟩
   ·go_enter func41,ntmps41
    go_wp2_with fail
    go_ret;exact⟨by rw [a.out];rfl,rfl⟩
theorem Tryz.KN(v:Value)(w:World):(Instr.typeAssert (.iface 186 v) 112 186 true).run prog w=.ok (.tuple #[v,.bool true]) w:=by kernel_rfl
theorem Tryz.LZ(v:Value)(w:World):(Instr.typeAssert (.iface 188 v) 112 188 true).run prog w=.ok (.tuple #[v,.bool true]) w:=by kernel_rfl
theorem Tryz.K9(v:Value)(w:World):(Instr.typeAssert (.iface 188 v) 112 186 true).run prog w=.ok (.tuple #[.int .i64 0,.bool false]) w:=by kernel_rfl
theorem Tryz.L0(v:Value)(w:World):(Instr.typeAssert (.iface 120 v) 112 186 true).run prog w=.ok (.tuple #[.int .i64 0,.bool false]) w:=by kernel_rfl
theorem Tryz.L1(v:Value)(w:World):(Instr.typeAssert (.iface 118 v) 112 186 true).run prog w=.ok (.tuple #[.int .i64 0,.bool false]) w:=by kernel_rfl
theorem Tryz.DM(v:Value)(w:World):(Instr.typeAssert (.iface 120 v) 112 188 true).run prog w=.ok (.tuple #[.bool false,.bool false]) w:=by kernel_rfl
theorem Tryz.DP(v:Value)(w:World):(Instr.typeAssert (.iface 118 v) 112 188 true).run prog w=.ok (.tuple #[.bool false,.bool false]) w:=by kernel_rfl
theorem AN.list{b:List Tr}(h:AN ok (n+1) w v (.agg b)):∃c a,v=.iface 118 c/\DB w c a/\a.length=b.length/\b.length<=1000/\∀(i:Nat)(u:Value)(x:Tr),a[i]?=some u->b[i]?=some x->AN ok n w u x:=by obtain⟨c,a,e,_,d,f,g⟩:=h;exact⟨c,a,e,bC d,d.1.trans (Nat.mul_one _),g,f⟩
theorem AN.KR{t:Tr}(h:AN ok n w v t)(a:¬∃s,t=.agg s):∃x,v=.iface 186 x\/v=.iface 188 x\/v=.iface 120 x:=by
 cases n with
 | zero=>exact h.elim
 | succ n =>
  match t,h with
  | .lit (.int _ _),h=>obtain⟨k,rfl,_⟩:=h;exact⟨_,.inl rfl⟩
  | .lit (.bool _),h=>exact⟨_,.inr (.inl h)⟩
  | .lit (.string s),h=>exact⟨_,.inr (.inr h)⟩
  | .agg b,h=>exact absurd ⟨b,rfl⟩ a
def GU(s t:Sg):Prop:=∃l,t={s with pb:=s.pb++l}
theorem GU.refl(s:Sg):GU s s:=⟨[],by simp⟩
theorem GU.trans{a b c:Sg}(h:GU a b)(k:GU b c):GU a c:=by obtain⟨l,rfl⟩:=h;obtain⟨m,rfl⟩:=k;exact⟨l++m,by simp⟩
theorem GU.le{a b:Sg}(h:GU a b):Sg.Le a b:=by obtain⟨l,rfl⟩:=h;exact⟨rfl,rfl,List.prefix_append _ _,List.prefix_refl _,List.prefix_refl _,List.prefix_refl _,List.prefix_refl _⟩
theorem GU.add(s:Sg)(b:Nat):GU s (s.DD b):=⟨[b],rfl⟩
def VI(M:Nat->Prop)(w:World)(s:Sg)(ps:List (PV×PV))(r:PV×List (PV×PV))(e:Ending)(w':World):Prop :=∃v t,e=.returned v/\RV t v r.1/\BD M w' t (ps++r.2)/\Below w.heap.size w w'/\GU s t
def VH(n:Nat):Prop:=∀(M:Nat->Prop)(ok:Nat->Prop)(w:World)(s:Sg) (ps:List (PV×PV)) (v:Value) (t:Tr),BD M w s ps->(∀k,M k->k<w.heap.size)->AN ok n w v t->cL n t ->
 Calls prog 56 #[v] w fun e w'=>VI M w s ps (Pl.made n ps.length t) e w'
theorem mD{α:Type}{l:List α}{k:Nat}{x:α}(h:l[k]?=some x):l.drop k=x::l.drop (k+1):=by obtain⟨a,rfl⟩:=s_ h;exact List.drop_eq_getElem_cons a
theorem zT(n b:Nat)(a:List Tr)(k:Nat)(x:Tr)(h:a[k]?=some x):AL (Pl.made n) b (a.drop k)=AL (Pl.made n) b (x::a.drop (k+1)):=by rw [mD h]
def QW(n:Nat)(M:Nat->Prop)(w wr:World)(s sk:Sg)(ps:List (PV×PV))(ts:List Tr)(k:Nat)(lv:Value):Prop :=RV sk lv (AL (Pl.made n) ps.length (ts.drop k)).1/\BD M wr sk (ps++(AL (Pl.made n) ps.length (ts.drop k)).2)/\Below w.heap.size w wr/\GU s sk
theorem yR(n:Nat)(R:VH n)(M ok:Nat->Prop)(w:World)(s:Sg)(ps:List (PV×PV))(sl:Value)(vs:List Value)(a:List Tr)(S:BD M w s ps)(U:∀k,M k->k<w.heap.size)(hS:DB w sl vs)(E:vs.length=a.length)(V:a.length<=1000)(W:∀(i:Nat)(u:Value)(x:Tr),vs[i]?=some u->a[i]?=some x->AN ok n w u x)(X:∀x∈a,cL n x) :Calls prog 79 #[sl] w fun e w'=>VI M w s ps (AL (Pl.made n) ps.length a) e w':=by
 have HP:=h_ S;have Y:=h_ U;have HA:=h_ W;have HB:=h_ X;have HI:=h_ R;have HL:=h_ E;obtain⟨ao,ab,rfl,Z,m⟩:=hS;have HC:=h_ m;rw [E];clear S U W X R m E;go_enter func79,ntmps79;go_wp2_with fail
 go_loopw [3,4] (fun l i wr=>∃(k:Nat)(F:Value)(A:Sg),k<=a.length/\i=.int .i64 ((k:Int)-1)/\l=F/\Hid (QW n M w wr s A ps a k F)) (fun _ i _=>(intOf i+1).toNat)
 case atStart =>
  refine⟨a.length,_,s,n_,by go_num,rfl,?_⟩;refine show QW _ _ _ _ _ _ _ _ _ _ from⟨?_,?_,r_,GU.refl _⟩
  ·rw [List.drop_length];exact .empty
  ·rw [List.drop_length];simpa [AL] using HP.out
 case round =>
  obtain⟨k,F,A,B,rfl,rfl,G⟩:=hrel;rcases Nat.eq_zero_or_pos k with rfl | aa
  ·have H:(((0:Nat):Int)-1)=-1:=by omega
   rw [H];go_wp2_with fail;go_ret;obtain⟨c,f,b,h⟩:=G.out;exact⟨_,A,rfl,c,f,b,h⟩
  ·obtain⟨j,rfl⟩:∃j,k=j+1:=⟨k-1,by omega⟩
   have H:(((j+1:Nat):Int)-1)=(j:Int):=by omega
   rw [H];have o:j<a.length:=by omega
   obtain⟨q,C⟩:∃x,a[j]?=some x:=⟨_,g_ o⟩
   obtain⟨vj,d⟩:∃x,vs[j]?=some x:=⟨_,g_ (by have:=HL.out;omega)⟩
   obtain⟨g,I,rfl,hg,m⟩:=HC.out j vj d;have J:=HA.out j vj q d C;have K:=G.out;obtain⟨c,f,b,h⟩:=K;have L:=(b.cell (p:=⟨g,I+j,none⟩) hg).trans m;have HR:=h_ (J.later b);have N:Hid (cL n q):=HB.out _ (q_ C);have HE:Hid (AL (Pl.made n) ps.length (a.drop j)=AL (Pl.made n) ps.length (q::a.drop (j+1))):=zT n ps.length a j _ C;obtain⟨T,x,hv,r⟩:=J.iface;have ac:(0:Int)<=(j:Int):=by omega
   have ad:(j:Int)<(a.length:Int):=by omega
   have t:=HR;rw [hv] at L t;obtain⟨T0,x0,O⟩:=c.iface;subst O;clear C m J r hv c f b h HR o d;go_wp2_with fail;obtain⟨c,f,b,h⟩:=G.out;refine(HI M ok wr A _ _ q f (fun k B=>l_ (Y k B) b.size) t N).mono ?_;rintro e v ⟨v2,t2,rfl,P,k2,D,Q⟩;have y:∀k,M k->k<v.heap.size:=fun k B=>l_ (Y k B) (t_ b.size D.size);obtain⟨p1,p2⟩:=k2.push y (p:=((Pl.made n (ps++(AL (Pl.made n) ps.length (a.drop (j+1))).2).length q).1,(AL (Pl.made n) ps.length (a.drop (j+1))).1)) P (c.le Q.le);have z:Below w.heap.size w (v.alloc (.cells #[v2,.iface T0 x0] E0)):=(b.trans (D.mono b.size)).alloc (t_ b.size D.size) _
   have HN:Hid (QW n M w (v.alloc (.cells #[v2,.iface T0 x0] E0)) s (t2.DD v.heap.size) ps a j (.iface 213 (.pointer (some ⟨v.heap.size,0,none⟩)))):=by
    refine show QW _ _ _ _ _ _ _ _ _ _ from⟨?_,?_,z,h.trans (Q.trans (GU.add _ _))⟩
    ·rw [HE.out];simpa [AL,Nat.add_assoc] using p2
    ·rw [HE.out];simpa [AL,Nat.add_assoc] using p1
   obtain⟨T2,x2,rfl⟩:=P.iface;clear c f b h P k2 D Q y p1 p2 z;go_wp2_with fail
   go_roundw
   case rel=>exact⟨j,_,_,by omega,by go_num,rfl,HN⟩
   case measure=>simp [intOf]
theorem p_of:∀n,VH n
 | 0=>fun M j w s f v t _ _ h _=>h.elim
 | n+1=>fun M j w s f v t c d a b=>by
  have H:=Tryz.KN;have I:=Tryz.LZ;have J:=Tryz.K9;have K:=Tryz.L0;have L:=Tryz.L1;have N:=Tryz.DM;have O:=Tryz.DP;have P:=Tryz.FM;have Q:=Tryz.IB;have y:=Tryz.ET;have g:Hid (BD M w s (f++[])):=show BD M w s (f++[]) from by rw [List.append_nil];exact c
  match t,a,b with
  | .lit (.int _ m),a,b =>obtain⟨k,rfl,l⟩:=a;obtain rfl:=l b;clear c d l b;go_enter func56,ntmps56;go_wp2_with fail;go_ret;exact⟨_,s,rfl,.num _,g,r_,GU.refl _⟩
  | .lit (.bool x),a,b =>
   obtain rfl:=(show v=_ from a)
   clear c d b a;go_enter func56,ntmps56;go_wp2_with fail;go_ret;exact⟨_,s,rfl,.AT _,g,r_,GU.refl _⟩
  | .lit (.string x),a,b =>
   obtain rfl:=(show v=_ from a)
   clear c d b a;go_enter func56,ntmps56;go_wp2_with fail;go_ret;exact⟨_,s,rfl,.name _,g,r_,GU.refl _⟩
  | .agg z,a,b =>obtain⟨A,B,rfl,o,p,q,r⟩:=a.list;have C:=h_ (yR n (p_of n) M j w s f A B z c d o p q r b);obtain⟨R,D,rfl,_⟩:=o;clear c d b a r p q;go_enter func56,ntmps56;go_wp2_with fail;refine Calls.mono C ?_;rintro e S ⟨T,E,rfl,i,u⟩;have F:=h_ i;have G:=h_ u;obtain⟨U,V,rfl⟩:=i.iface;clear i u;go_wp2_with fail;go_ret;exact⟨_,E,rfl,F,G⟩
end
end Go.Proofs.YtieooapcfpimlaaGreatDoor
