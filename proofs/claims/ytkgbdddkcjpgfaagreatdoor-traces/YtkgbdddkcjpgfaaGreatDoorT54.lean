/- For every script, text and number stepperlaw.Traces returns true (the lines that Trace tells of an input are those of the document's model, state by state, and so is its code) and what was handed in reads as it did: the tied card. Conditions: the package-level variables start as the program's text lays them (tied by the given tie); the card's own looks. -/
import Derived.Test.YtkgbdddkcjpgfaaGreatDoorT52
import Derived.Test.YtkgbdddkcjpgfaaGreatDoorT47
import Derived.Test.YtkgbdddkcjpgfaaGreatDoorT53
import Derived.Test.YtkgbdddkcjpgfaaGreatDoorT03
import Derived.Test.YtkgbdddkcjpgfaaGreatDoorT04
namespace Go.Proofs.YtkgbdddkcjpgfaaGreatDoor
set_option maxHeartbeats 1000000
set_option maxRecDepth 100000
open Go.Proofs.Tryz
open Pl (PW PF AE AW)
section
open Go.RowKit Go.Lib Go.Maps
def ZI(n:Int):Int:=if 3000<n/\n<=1000000 then 3000 else n
theorem few_ok(n:Int):Pl.over (ZI n)=true\/ZI n<=3000:=by
 unfold ZI;split
 ·exact .inr (Int.le_refl _)
 ·rename_i h;by_cases a:n<=3000
  ·exact .inr a
  ·refine .inl ?_;unfold Pl.over;simp;omega
theorem p_few(n:Int)(w:World):Calls prog 22 #[.int .i64 n] w fun e c=>e=.returned (.int .i64 (ZI n))/\w=c:=by
 by_cases a:3000<n
 ·by_cases b:n<=1000000
  ·rw [show ZI n=3000 from if_pos ⟨a,b⟩];go_enter func22,ntmps22;go_wp2_with fail;go_ret;exact⟨rfl,rfl⟩
  ·rw [show ZI n=n from if_neg (fun h=>b h.2)];go_enter func22,ntmps22;go_wp2_with fail;go_ret;exact⟨rfl,rfl⟩
 ·rw [show ZI n=n from if_neg (fun h=>a h.1)];go_enter func22,ntmps22;go_wp2_with fail;go_ret;exact⟨rfl,rfl⟩
theorem XH(w:World)(h j:Value)(l:List Ln)(r:E8 w h l)(s:E8 w j l)(K:l.length<=1000000) :Calls prog 25 #[h,j] w fun e t=>e=.returned (.bool true)/\∃n,t=w.drewN n:=by
 obtain⟨u,m,rfl,v,a⟩:=r;obtain⟨x,p,rfl,y,b⟩:=s;have z:=h_ a;have A:=h_ b;clear a b;go_enter func25,ntmps25;go_wp2_with fail
 go_loopw [5] (fun i wr=>∃(k n:Nat),k<=l.length/\i=.int .i64 k/\wr=w.drewN n) (fun i _=>l.length-(RowKit.intOf i).toNat)
 case atStart=>exact⟨0,0,Nat.zero_le _,rfl,rfl⟩
 case round =>
  obtain⟨k,n,L,rfl,rfl⟩:=hrel;by_cases d:k<l.length
  ·obtain⟨o,f⟩:∃o,l[k]?=some o:=⟨l[k],g_ d⟩
   obtain⟨g,rfl,M,B,C,D⟩:=z.out k o f;obtain⟨N,rfl,E,F,G,H⟩:=A.out k o f;obtain⟨c,I,J⟩:=o;have q:(k:Int)<(l.length:Int):=by omega
   clear f;dsimp only at B C D F G H;go_wp2_with fail;first | go_quiet (fail) | skip
   go_wp2_with fail
   go_roundw
   case rel=>exact⟨k+1,_,by omega,by go_num,rfl⟩
   case measure=>simp [RowKit.intOf];omega
  ·obtain rfl:k=l.length:=by omega
   go_wp2_with fail
   go_ret;exact⟨rfl,n,rfl⟩
theorem E8.below{w w':World}{v:Value}{l:List Ln}(h:E8 w v l)(a:Below w.heap.size w w'):E8 w' v l:=by obtain⟨d,c,e,f,i⟩:=h;refine⟨d,c,e,f,fun k o j=>?_⟩;obtain⟨g,m,b,n,q,r⟩:=i k o j;exact⟨g,m,l_ b a.size,(a.cell (p:=⟨g,_,none⟩) b).trans n,(a.cell (p:=⟨g,_,none⟩) b).trans q,(a.cell (p:=⟨g,_,none⟩) b).trans r⟩
theorem E8.slice{w:World}{v:Value}{l:List Ln}(h:E8 w v l):∃b n a,v=.slice b n a:=by obtain⟨b,a,e,_⟩:=h;exact⟨b,_,a,e⟩
theorem aEV(W:PW)(t:AE)(n:Int):(Pl.BG W t n).2.length<=1000000:=by
 unfold Pl.BG;split
 ·simp
 ·rename_i a;split
  ·simp
  ·split
   ·have:=Pl.L8 n.toNat (Pl.AR W ‹PF›) (Pl.AV W ‹PF›);have b:n.toNat<=1000000:=by unfold Pl.over at a;simp at a;omega
    show(Pl.trace _ _ _).length<=_;omega
   ·simp
theorem aFZ(w:World)(v:Value)(ins:List (ByteArray×Int))(x:ByteArray)(n:Int)(J:JF w v ins)(m:ins.length<=maxLen)(z:∀i∈ins,i.1.size<=maxLen)(K:x.size<=maxLen)(h:Low w) :Calls prog 5 #[v,.string x,.int .i64 n] w fun e a=>e=.returned (.bool true)/\Below w.heap.size w a:=by
 have A:=xL ins z 3000 (by omega);have s:=tU 3000 ins;generalize B:eD 3000 ins=b at *;have o:=few_ok n;have G:Hid (∀j,Calls prog 22 #[.int .i64 n] j fun e a=>e=.returned (.int .i64 (ZI n))/\j=a):=fun j=>p_few n j;generalize ZI n=d at *;have p:=aEV (Pl.AF AW (b.map B5)).1 x.data.toList d
 have S:Hid (Calls prog 18 #[v,.int .i64 3000] w fun e a=>∃c,e=.returned c/\Hid (Below w.heap.size w a/\F8 a c b)):=(XG w v 3000 ins J m).mono (fun e a ⟨c,g,q,y⟩=>by
  rw [B] at y
  exact⟨c,g,q,scr_of y⟩)
 have L:Hid (∀j c,Below w.heap.size w j/\F8 j c b->Calls prog 23 #[c,.string x,.int .i64 d] j fun e a=>∃f,e=.returned (.tuple #[f,.int .i64 ((Pl.BG (Pl.AF AW (b.map B5)).1 x.data.toList d).1:Int)])/\Hid (Below w.heap.size w a/\F8 a c b/\E8 a f (Pl.BG (Pl.AF AW (b.map B5)).1 x.data.toList d).2)):=fun j c ⟨g,q⟩=>by have l:=h.below g;exact(XB j c b x d (scr_in q) (t_ s (by unfold GK;omega)) l.DI l.B3 l.JQ l.gt l.ge).mono (fun e a ⟨f,C,t,H⟩=>⟨f,C,g.trans (t.mono g.size),q.below t,H⟩)
 have M:Hid (∀u c f,Below w.heap.size w u/\F8 u c b/\E8 u f (Pl.BG (Pl.AF AW (b.map B5)).1 x.data.toList d).2->Calls prog 24 #[c,.string x,.int .i64 d] u fun e a=>∃k,e=.returned (.tuple #[k,.int .i64 ((Pl.BG (Pl.AF AW (b.map B5)).1 x.data.toList d).1:Int)])/\Hid (Below w.heap.size w a/\E8 a f (Pl.BG (Pl.AF AW (b.map B5)).1 x.data.toList d).2/\E8 a k (Pl.BG (Pl.AF AW (b.map B5)).1 x.data.toList d).2)):=fun u c f ⟨g,q,y⟩=>by have l:=h.below g;exact(aFW wE u c b x d q s A K o ⟨l.DI,l.B3⟩).mono (fun e a ⟨k,C,t,H⟩=>⟨k,C,g.trans (t.mono g.size),y.below t,aBO H⟩)
 have N:Hid (∀r f k,Below w.heap.size w r/\E8 r f (Pl.BG (Pl.AF AW (b.map B5)).1 x.data.toList d).2/\E8 r k (Pl.BG (Pl.AF AW (b.map B5)).1 x.data.toList d).2->Calls prog 25 #[f,k] r fun e a=>e=.returned (.bool true)/\Hid (Below w.heap.size w a)):=fun r f k ⟨g,q,y⟩=>by exact(XH r f k _ q y p).mono (fun e a ⟨C,n,t⟩=>⟨C,by subst t;exact g.trans ((U2 r n).mono g.size)⟩)
 obtain⟨X,T,rfl,_,_⟩:=J;clear A s p m z K h B o;generalize Pl.BG (Pl.AF AW (b.map B5)).1 x.data.toList d=R at *;obtain⟨Y,Z⟩:=R;dsimp only at L M N;go_enter func5,ntmps5
 go_wp2_with (first
  | (go_at_call 18;refine Calls.mono S ?_;rintro e j ⟨c,rfl,D⟩;obtain⟨U,n1,O,rfl⟩:=D.2.slice)
  | (go_at_call 22;refine(G _).mono ?_;rintro e a ⟨rfl,rfl⟩)
  | (go_at_call 23;refine Calls.mono (L _ _ D) ?_;rintro e u ⟨f,rfl,E⟩;obtain⟨V,n2,P,rfl⟩:=E.2.2.slice)
  | (go_at_call 24;refine Calls.mono (M _ _ _ E) ?_;rintro e r ⟨k,rfl,F⟩;obtain⟨W,n3,Q,rfl⟩:=F.2.2.slice)
  | (go_at_call 25;refine Calls.mono (N _ _ _ F) ?_;rintro e w4 ⟨rfl,I⟩)
  | (go_at_call 17;refine(p_num _ _).mono ?_;rintro e a ⟨rfl,rfl⟩))
 go_ret;exact⟨rfl,I⟩
end
section
open Go.ChangeShapes Go.WideShapes Go.ChangeAt Go.RowKit Go.Deep
theorem aED(os:Os)(c:os.Started)(H:Type)(enc:TypeId×Value->H)(F:Stop.Interp) :ReturnsInLeavingWide {calm:=true} checked os 5 .any (fun w a=>(Rows.tracesSpec.pre enc prog Tryz.f5 [] false w a/\laidMetH prog Rows.tracesRow.laid w)/\sizedMet enc prog Tryz.f5 (OpenSpec.ofChange Rows.tracesSpec) false w a)
   ((OpenSpec.ofChange Rows.tracesSpec).postWith enc prog Tryz.f5 F (outsideKept [.timePasses]) false true false):=by
 refine dV (C:=checked) (X:=fun w _=>laidMetH prog Rows.tracesRow.laid w) (fun _ _ _ I h=>h.of_heap I) Tryz.own c (by kernel_rfl) func5
  (mI (enc:=enc) (C:=checked) (os:=os) (X:=fun w _=>laidMetH prog Rows.tracesRow.laid w) (World.doorLaid prog 86 os) #[.slice none 0 0,.string ByteArray.empty,.int .i64 0] 8 rfl (World.shaped_of_RefB (by kernel_rfl) (by kernel_rfl)) (by kernel_rfl) (by kernel_rfl) (by kernel_rfl) (aAK os _)) ?_
 intro W f a J Y m n d B _ K L;have b:∀(j:Nat) t v,Tryz.f5.params[j]?=some t->a[j]?=some v->Value.okWide prog W .any f t v:=d;have g:=B;obtain⟨p,q,i,M,rfl,N,O⟩:=B;have o:DataW.TrodAll enc prog W 0 (fun _=>true) true Tryz.f5.params.toList a.toList J p:=i;rw [params5] at o b K;have k:∀x∈p,x.block<W.heap.size:=DataW.TrodAll.lt o;obtain⟨D,P,Q,Z,d1,d2,r,p1,p2,rfl,rfl,rfl,E,R,S⟩:=trodAll_three o;obtain⟨rfl,rfl⟩:=trodVars_none M;obtain⟨u,T,l,y⟩:=xN (b 0 26 D rfl rfl) E;obtain⟨s,rfl,rfl,rfl,G⟩:=ChangeMaps.open_string underlying9 (b 1 9 P rfl rfl) R;obtain⟨U,rfl,rfl,rfl,z⟩:=open_int underlying3 (b 2 3 Q rfl rfl) S;clear i d;simp only [List.append_nil] at g k;refine(aFZ W D u s U T l y G (PJ n L)).mono fun e W' ⟨V,A⟩=>?_;subst V;refine⟨_,rfl,⟨_,_,_,[],r,[],g,?_,?_,?_,A.frame _,fun h=>by cases h⟩,A.os⟩
 ·exact trodAll_mk1 (shut_bool underlying4 true)
 ·have:=trodAll_mk3 (tX E k A) (ChangeMaps.shut_string underlying9 G) (shut_int underlying3 z);rw [show r++([]++[])=r from by simp] at this;exact this
 ·rfl
theorem aEF:Rows.TracesSaid :=
 OpenClaim.holds_of_wide_leaving_time 5 Tryz.f5 rfl rfl rfl rfl rfl rfl rfl ⟨rfl,rfl,rfl,rfl,rfl⟩ rfl rfl rfl rfl rfl (by kernel_rfl) func5 aEE
  (of_decide_eq_true (by kernel_rfl)) (by unfold Func.isWrapper;rw [if_neg (of_decide_eq_false (by kernel_rfl))];exact⟨rfl,rfl⟩)
  (fun b a H enc _ F=>aED b a H enc F)
end
section
open Go
theorem traces_card_holds:Rows.TracesCardSaid :=
 mN .later true [.data,.data,.data,.handle,.sentinel,.sentinel,.data] true Rows.tracesCard.stood.harness true
  aEF tr_wf traces_row_tie rfl ⟨rfl,rfl⟩ tr_main rfl
  (fun f c d b=>by
   obtain rfl:f=5:=i_ ((show prog.funcNamed "stepper/stepperlaw.Traces"=some 5 by kernel_rfl).symm.trans d) |>.symm;obtain rfl:c=Tryz.f5:=(i_ (func5.symm.trans b)).symm
   exact⟨aFV,fun j t a=>by
    rw [params5] at a;rcases j with _ | _ | _ | j
    ·obtain rfl:26=t:=i_ a;exact aFE.1
    ·obtain rfl:9=t:=i_ a;exact aFE.2.1
    ·obtain rfl:3=t:=i_ a;exact aFE.2.2
    ·simp at a⟩)
  tr_goes
end
end Go.Proofs.YtkgbdddkcjpgfaaGreatDoor
