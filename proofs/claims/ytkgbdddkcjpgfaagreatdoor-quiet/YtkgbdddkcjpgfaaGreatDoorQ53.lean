import Derived.Test.YtkgbdddkcjpgfaaGreatDoorQ51
import Derived.Test.YtkgbdddkcjpgfaaGreatDoorQ52
namespace Go.Proofs.YtkgbdddkcjpgfaaGreatDoor
set_option maxHeartbeats 2000000
set_option maxRecDepth 100000
open Pl (PW AE PO)
section
theorem aLS:∀(l:List (AE×Int)) (W:PW) (j:Nat) (o:PO),(∀i,i<=j->∀p,(Pl.AF W l).2[i]?=some p->p.code≠7)->(Pl.AF W l).2[j]?=some o->(Pl.fses (W,false) l).2[j]?=some o
 | [],_,_,_,_,h=>by simp [Pl.AF] at h
 | i::r,W,j,o,a,h=>by
  have b:(Pl.answer W i).2.code≠7:=a 0 (Nat.zero_le _) _ rfl;have e:Pl.fans (W,false) i=(((Pl.answer W i).1,false),(Pl.answer W i).2):=by unfold Pl.fans;rw [if_neg (by simp),decide_eq_false b]
  simp only [Pl.fses,e]
  cases j with
  | zero=>exact h
  | succ j =>rw [List.getElem?_cons_succ];refine aLS r _ j o (fun c f p d=>?_) h;exact a (c+1) (by omega) p d
end
section
open Go.RowKit
variable {w:World} {n:Nat}
theorem KB.row{v:Value}{l:List PO}(h:KB w v l)(c:l.length=n):∃b a,v=.slice b n a/\n<=a:=by obtain⟨b,a,e,d,_⟩:=h;subst c;exact⟨b,a,e,d⟩
theorem F8.row{v:Value}{l:List (ByteArray×Int)}(h:F8 w v l)(c:l.length=n):∃b a,v=.slice b n a/\n<=a:=by obtain⟨b,a,e,d,_⟩:=h;subst c;exact⟨b,a,e,d⟩
theorem KB.get{a:Option Addr}{cap:Nat}{l:List PO}(h:KB w (.slice a n cap) l){k:Nat}{o:PO}(c:l[k]?=some o):∃g,a=some ⟨g,0,none⟩/\g<w.heap.size/\w.cell? ⟨g,k*3,none⟩=some (.int .i64 (o.code:Int))/\w.cell? ⟨g,k*3+1,none⟩=some (.string ⟨o.out.toArray⟩)/\w.cell? ⟨g,k*3+2,none⟩=some (.string ⟨o.val.toArray⟩):=by obtain⟨d,b,e,i,f⟩:=h;simp only [Value.slice.injEq] at e;obtain⟨rfl,_,_⟩:=e;exact f k o c
end
open Go.Proofs.Tryz
open Pl (AW)
section
open Go.RowKit Go.Lib Go.Maps
theorem p_twins(w:World)(v:Value)(ins:List (ByteArray×Int))(W:JF w v ins)(y:ins.length*24<=140737488351232)(h:Low w) :Calls prog 10 #[v] w fun e d=>e=.returned (.bool true)/\Below w.heap.size w d:=by
 have x:(aGR ins).length<=GK:=by unfold aGR GK;rw [List.length_map];omega
 have z:=aMR w v ins W y;generalize aGR ins=f at *;obtain⟨n,E⟩:∃n,f.length=n:=⟨_,rfl⟩
 have F:(Pl.AF AW (f.map B5)).2.length=n:=by rw [Pl.PP,List.length_map,E]
 have C:(Pl.fses (AW,false) (f.map B5)).2.length=n:=by rw [Pl.fses_len,List.length_map,E]
 have N:=h_ (aLS (f.map B5) AW)
 have X:Hid (Calls prog 31 #[v] w fun e d=>∃q a,e=.returned (.slice q n a)/\Hid (Below w.heap.size w d/\F8 d (.slice q n a) f)):=z.mono (fun e d ⟨j,l,u,O⟩=>by
  have Y:=vK O;obtain⟨q,a,rfl,_⟩:=Y.row E
  exact⟨q,a,l,u,Y⟩)
 have Z:Hid (∀b j,Below w.heap.size w b/\F8 b j f->Calls prog 26 #[] b fun e d=>e=.returned (.bool true)/\Hid (Below w.heap.size w d/\F8 d j f)):=fun b j ⟨l,u⟩=>(aNL b (h.below l)).mono (fun e d ⟨D,t⟩=>⟨D,l.trans (t.mono l.size),u.below t⟩);have H3:Hid (∀b j,Below w.heap.size w b/\F8 b j f->Calls prog 32 #[] b fun e d=>e=.returned (.bool true)/\Hid (Below w.heap.size w d/\F8 d j f)):=fun b j ⟨l,u⟩=>(aNJ b (h.below l)).mono (fun e d ⟨D,t⟩=>⟨D,l.trans (t.mono l.size),u.below t⟩)
 have P:Hid (∀b j,Below w.heap.size w b/\F8 b j f->Calls prog 19 #[j] b fun e d=>∃q a,e=.returned (.slice q n a)/\n<=a/\Hid (Below w.heap.size w d/\F8 d j f/\KB d (.slice q n a) (Pl.AF AW (f.map B5)).2)):=fun b j ⟨l,u⟩=>(j0 b j f u x (h.below l)).mono (fun e d ⟨r,D,t,G⟩=>by
  obtain⟨q,a,rfl,Q⟩:=G.row F
  exact⟨q,a,D,Q,l.trans (t.mono l.size),u.below t,G⟩)
 have M:Hid (∀b j R,Below w.heap.size w b/\F8 b j f/\KB b R (Pl.AF AW (f.map B5)).2->Calls prog 28 #[j] b fun e d=>∃q a,e=.returned (.slice q n a)/\n<=a/\Hid (Below w.heap.size w d/\KB d R (Pl.AF AW (f.map B5)).2/\KB d (.slice q n a) (Pl.fses (AW,false) (f.map B5)).2)):=fun b j R ⟨l,u,O⟩=>(aK8 b j f u x (h.below l)).mono (fun e d ⟨r,D,t,G⟩=>by
  obtain⟨q,a,rfl,Q⟩:=G.row C
  exact⟨q,a,D,Q,l.trans (t.mono l.size),O.below t,G⟩)
 obtain⟨A,hA⟩:∃A,A=(Pl.AF AW (f.map B5)).2:=⟨_,rfl⟩
 obtain⟨B,hB⟩:∃B,B=(Pl.fses (AW,false) (f.map B5)).2:=⟨_,rfl⟩
 rw [<- hA] at N P M F;rw [<- hB] at N M C;have ae:n<=5870000000000:=by rw [<- E];exact x
 obtain⟨q,a,rfl,_,_⟩:=W;clear x h hA hB z y E C;go_enter func10,ntmps10
 go_wp2_with (first
  | (go_at_call 31;refine Calls.mono X ?_;rintro e b ⟨af,aa,rfl,H⟩)
  | (go_at_call 26;refine Calls.mono (Z _ _ H) ?_;rintro e w2 ⟨rfl,I⟩)
  | (go_at_call 32;refine Calls.mono (H3 _ _ I) ?_;rintro e w3 ⟨rfl,J⟩)
  | (go_at_call 19;refine Calls.mono (P _ _ J) ?_;rintro e w4 ⟨ag,ab,rfl,ah,K⟩)
  | (go_at_call 28;refine Calls.mono (M _ _ _ K) ?_;rintro e S ⟨ai,ac,rfl,aj,s⟩))
 clear X Z H3 P M H I J K
 go_loopw [7] (fun i wr=>∃(k m:Nat),k<=n/\i=.int .i64 k/\wr=S.drewN m/\Hid (∀i,i<k->∀p,A[i]?=some p->p.code≠7)) (fun i _=>n-(RowKit.intOf i).toNat)
 case atStart=>exact⟨0,0,Nat.zero_le _,rfl,rfl,fun i T=>absurd T (Nat.not_lt_zero _)⟩
 case round =>
  obtain⟨k,m,hk,rfl,rfl,HN⟩:=hrel;by_cases ak:k<n
  ·obtain⟨o,L⟩:∃o,A[k]?=some o:=⟨A[k],g_ (by omega)⟩
   obtain⟨g,rfl,hg,a0,a1,a2⟩:=s.2.1.get L;have ad:(k:Int)<(n:Int):=by omega
   by_cases h7:o.code=7
   ·have e7:(o.code:Int)=7:=by omega
    rw [e7] at a0;clear L;go_wp2_with fail;go_ret;exact⟨rfl,s.1.trans ((U2 S _).mono s.1.size)⟩
   ·have U:∀i,i<=k->∀p,A[i]?=some p->p.code≠7:=fun i T p z=>by
     rcases Nat.lt_or_ge i k with h | h
     ·exact HN.out i h p z
     ·obtain rfl:i=k:=by omega
      rw [L] at z;obtain rfl:=i_ z;exact h7
    obtain⟨g',rfl,al,b0,b1,b2⟩:=s.2.2.get (N k o U L);have V:Hid (∀i,i<k+1->∀p,A[i]?=some p->p.code≠7):=fun i T p z=>U i (by omega) p z;have e7:((o.code:Int)==7)=false:=by simp;omega
    obtain⟨c,am,an⟩:=o;dsimp only at *;clear L U HN h7;go_wp2_with fail;first | go_quiet (fail) | skip
    go_wp2_with fail
    go_roundw
    case rel=>exact⟨k+1,_,by omega,by go_num,rfl,V⟩
    case measure=>simp [RowKit.intOf];omega
  ·obtain rfl:k=n:=by omega
   go_wp2_with fail
   go_ret;exact⟨rfl,s.1.trans ((U2 S _).mono s.1.size)⟩
end
section
open Go.ChangeShapes Go.WideShapes Go.ChangeAt Go.RowKit Go.Deep
theorem aIW(os:Os)(b:os.Started)(H:Type)(enc:TypeId×Value->H)(F:Stop.Interp) :ReturnsInLeavingWide {calm:=true} checked os 10 .any (fun w a=>(Rows.twinsSpec.pre enc prog Tryz.f10 [] false w a/\laidMetH prog Rows.twinsRow.laid w)/\sizedMet enc prog Tryz.f10 (OpenSpec.ofChange Rows.twinsSpec) false w a)
   ((OpenSpec.ofChange Rows.twinsSpec).postWith enc prog Tryz.f10 F (outsideKept [.timePasses]) false true false):=by
 refine dV (C:=checked) (X:=fun w _=>laidMetH prog Rows.twinsRow.laid w) (fun _ _ _ A h=>h.of_heap A) Tryz.own b (by kernel_rfl) func10
  (mI (enc:=enc) (C:=checked) (os:=os) (X:=fun w _=>laidMetH prog Rows.twinsRow.laid w) (World.doorLaid prog 86 os) #[.slice none 0 0] 8 rfl (World.shaped_of_RefB (by kernel_rfl) (by kernel_rfl)) (by kernel_rfl) (by kernel_rfl) (by kernel_rfl) (aAK os _)) ?_
 intro W f a B M k l c s _ u D;have d:∀(j:Nat) t v,Tryz.f10.params[j]?=some t->a[j]?=some v->Value.okWide prog W .any f t v:=c;have g:=s;obtain⟨p,q,i,E,rfl,G,I⟩:=s;have m:DataW.TrodAll enc prog W 0 (fun _=>true) true Tryz.f10.params.toList a.toList B p:=i;rw [params10] at m d u;obtain⟨y,N,rfl,rfl,z⟩:=trodAll_one m;obtain⟨rfl,rfl⟩:=trodVars_none E;have n:∀x∈p,x.block<W.heap.size:=DataW.TrodAll.lt m;obtain⟨o,J,K⟩:=qA (d 0 26 y rfl rfl) z;clear i c;simp only [List.append_nil] at g;refine(p_twins W y o (aN5 J) (vN u K) (PJ l D)).mono fun e O ⟨L,r⟩=>?_;subst L;refine⟨_,rfl,⟨_,_,_,[],p,[],g,?_,?_,?_,r.frame _,fun h=>by cases h⟩,r.os⟩
 ·exact trodAll_mk1 (shut_bool underlying4 true)
 ·exact trodAll_mk1 (tX z n r)
 ·rfl
theorem aJB:Rows.TwinsSaid :=
 OpenClaim.holds_of_wide_leaving_time 10 Tryz.f10 rfl rfl rfl rfl rfl rfl rfl ⟨rfl,rfl,rfl,rfl,rfl⟩ rfl rfl rfl rfl rfl (by kernel_rfl) func10 aIX
  (of_decide_eq_true (by kernel_rfl)) (by unfold Func.isWrapper;rw [if_neg (of_decide_eq_false (by kernel_rfl))];exact⟨rfl,rfl⟩)
  (fun b a H enc _ F=>aIW b a H enc F)
end
end Go.Proofs.YtkgbdddkcjpgfaaGreatDoor
