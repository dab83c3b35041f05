import Derived.Test.YtkgbdddkcjpgfaaGreatDoorR51
import Derived.Test.YtkgbdddkcjpgfaaGreatDoorR52
namespace Go.Proofs.YtkgbdddkcjpgfaaGreatDoor
set_option maxHeartbeats 4000000
set_option maxRecDepth 100000
open Go.Proofs.Tryz
section
open Go
theorem aRH:Rows.escapesRow.wf (OpenSpec.ofChange Rows.escapesSpec)=true:=by kernel_rfl
theorem aRG:Tryz.f13.params.all (prog.readableRec ·)=true:=by kernel_rfl
theorem aRF:namedTie prog Rows.escapesRow.named Rows.escapesSpec.vars=true:=by kernel_rfl
theorem aQ1:(Rows.escapesRow.inPlace==prog.inPlace 13)=true:=by kernel_rfl
theorem aQ0:(Rows.escapesRow.unfollowed==prog.unfollowed 13)=true:=by kernel_rfl
theorem aQZ:(Rows.escapesRow.recurses==prog.recurses 13)=true:=by kernel_rfl
theorem aQY:(Rows.escapesRow.named==prog.varsNamed 13)=true:=by kernel_rfl
theorem aQX:(Rows.escapesRow.maps==(Tryz.f13.params.toList++Rows.escapesSpec.plain.varTypes prog).any (prog.mapsRec ·))=true:=by kernel_rfl
theorem aQW:(Rows.escapesRow.ifaces==(Tryz.f13.params.toList++Rows.escapesSpec.plain.varTypes prog).any (prog.ifacesRec ·))=true:=by kernel_rfl
theorem aQV:(Rows.escapesRow.mapsOut==prog.mapsAmong Tryz.f13.resultTypes.toList)=true:=by kernel_rfl
theorem aQU:(Rows.escapesRow.loops==(Tryz.f13.params.toList++Rows.escapesSpec.plain.varTypes prog).any (prog.loopsFrom ·))=true:=by kernel_rfl
theorem aQB:(Rows.escapesRow.wideKeys==(Tryz.f13.params.toList++Rows.escapesSpec.plain.varTypes prog++Tryz.f13.resultTypes.toList).any (prog.wideKeysFrom ·))=true:=by kernel_rfl
theorem aQT:Rows.escapesSpec.vars.all (prog.varReadable ·)=true:=by kernel_rfl
theorem aQS:Tryz.f13.resultTypes.all (fun t=>prog.readableRec t&&decide (t<prog.types.size))=true:=by kernel_rfl
theorem aQR:(Rows.escapesRow.ifacesOut==Tryz.f13.resultTypes.toList.any (prog.ifacesRec ·))=true:=by kernel_rfl
theorem aQQ:(Rows.escapesRow.loopsOut==Tryz.f13.resultTypes.toList.any (prog.loopsFrom ·))=true:=by kernel_rfl
theorem aQP:(Rows.escapesRow.pinned==Rows.escapesRow.pinnedBy)=true:=by kernel_rfl
theorem aQO:(Rows.escapesRow.veiled==(Tryz.f13.params.toList++Rows.escapesSpec.plain.varTypes prog++Tryz.f13.resultTypes.toList).any (prog.veiledRec ·))=true:=by kernel_rfl
theorem aQN:Rows.escapesRow.veiledFits prog Tryz.f13.params.toList (Tryz.f13.params.toList++Rows.escapesSpec.plain.varTypes prog++Tryz.f13.resultTypes.toList)=true:=by kernel_rfl
theorem aPA:joinedFacts prog 13 Tryz.f13 Rows.escapesSpec Rows.escapesRow=true:=nW aRH Tryz.fLaid Tryz.fMaps aRG aRF rfl Tryz.fStops rfl Tryz.fKnobs aQ1 aQ0 aQZ aQY aQX aQW aQV aQU aQB aQT aQS aQR aQQ Tryz.fPlain rfl Tryz.fHeard Tryz.fEnter Tryz.fLifts Tryz.fMake rfl rfl aQP aQO aQN
end
section
namespace Pl
def escS(a b c:Int):List Seg:=[
 ([([40,43,32],a),([32,40,99,97,108,108,47,99,99,32,40,108,97,109,98,100,97,32,40,107,41,32,40,43,32,49,32,40,98,101,103,105,110,32,40,100,105,115,112,108,97,121,32],b),([41,32,40,107,32],c)],[41,32,40,100,105,115,112,108,97,121,32,39,110,111,41,41,41,41,41,41]),
 ([],[40,100,101,102,105,110,101,32,107,32,48,41]),
 ([([40,45,32,40,99,97,108,108,47,99,99,32,40,108,97,109,98,100,97,32,40,99,41,32,40,98,101,103,105,110,32,40,115,101,116,33,32,107,32,99,41,32],a),([41,41,41,32],b)],[41]),
 ([([40,107,32],c)],[41]),
 ([([40,43,32,49,32,40,107,32],b)],[41,41]),
 ([],[40,100,101,102,105,110,101,32,114,32,40,99,97,108,108,47,99,99,32,40,108,97,109,98,100,97,32,40,99,41,32,99,41,41,41]),
 ([([40,114,32,40,108,97,109,98,100,97,32,40,118,41,32],a)],[41,41]),
 ([],[40,114,32,49,41]),
 ([([40,99,97,108,108,47,99,99,32,40,108,97,109,98,100,97,32,40,107,41,32],a)],[41,41]),
 ([],[40,107,32,49,32,50,41]),
 ([],[40,112,97,105,114,63,32,40,99,97,108,108,47,99,99,32,99,97,108,108,47,99,99,41,41])]
theorem esc_good(a b c:Int):(escS a b c).all segG=true:=by kernel_rfl
theorem esc_ses(a b c:Int):(aQL false AW ((escS a b c).map aQ6)).1.2=[⟨0,[]++cut (itoa b),cut (itoa (a+c))⟩,⟨0,[],[]⟩,⟨0,[],cut (itoa (a-b))⟩,⟨0,[],cut (itoa (c-b))⟩,⟨0,[],cut (itoa (b-b))⟩,⟨0,[],[]⟩,⟨0,[],[]⟩,⟨0,[],cut (itoa a)⟩,⟨0,[],cut (itoa a)⟩,⟨10,[],[]⟩,⟨0,[],[35,102]⟩]:=by kernel_rfl
theorem esc_conds(a b c:Int):(aQL false AW ((escS a b c).map aQ6)).2=[0+(cut (itoa b)).length<=1000,(a+c).natAbs<=CG,(a-b).natAbs<=CG,(c-b).natAbs<=CG,(b-b).natAbs<=CG]:=by kernel_rfl
end Pl
end
open Pl (AW)
section
open Go.RowKit Go.Lib Go.Maps
def escO(sa sb s1 s2 s3:ByteArray):List OB:=[(0,sb,s1),(0,⟨#[]⟩,⟨#[]⟩),(0,⟨#[]⟩,s2),(0,⟨#[]⟩,s3),(0,⟨#[]⟩,⟨#[48]⟩),(0,⟨#[]⟩,⟨#[]⟩),(0,⟨#[]⟩,⟨#[]⟩),(0,⟨#[]⟩,sa),(0,⟨#[]⟩,sa),(10,⟨#[]⟩,⟨#[]⟩),(0,⟨#[]⟩,⟨#[35,102]⟩)]
theorem esc_os{a b c:Int}{e f g h i:ByteArray}(u:0<=a/\a<1000)(v:0<=b/\b<1000)(w:0<=c/\c<1000)(l:e.data.toList=Pl.itoa a)(eb:f.data.toList=Pl.itoa b)(m:g.data.toList=Pl.itoa (a+c))(o:h.data.toList=Pl.itoa (a-b))(q:i.data.toList=Pl.itoa (c-b)) :(Pl.AF AW ((Pl.escS a b c).map Pl.segI)).2=(escO e f g h i).map poB:=by
 have B:∀{n:Int},-1000<n->n<2000->n.natAbs<=Pl.CG:=fun {n} y z=>by unfold Pl.CG;omega
 have r:Pl.itoa 0=[48]:=by unfold Pl.itoa Lib.itoa;rw [if_neg (by decide),decDigits,dif_pos (by decide)];rfl
 have t:=Pl.seg_all (Pl.escS a b c) (Pl.esc_good a b c) (fun s j x d=>by
  simp only [Pl.escS,List.mem_cons,List.not_mem_nil,or_false] at j
  rcases j with rfl | rfl | rfl | rfl | rfl | rfl | rfl | rfl | rfl | rfl | rfl<;>simp only [List.mem_cons,List.not_mem_nil,or_false] at d<;>first | exact d.elim | (rcases d with rfl | rfl | rfl<;>exact B (by dsimp only;omega) (by dsimp only;omega)) | (rcases d with rfl | rfl<;>exact B (by dsimp only;omega) (by dsimp only;omega)) | (subst d;exact B (by dsimp only;omega) (by dsimp only;omega)))
 rw [Pl.sesT_eq (ov:=false) _ _ AW t (by
  rw [Pl.esc_conds];intro p k;simp only [List.mem_cons,List.not_mem_nil,or_false] at k;rcases k with rfl | rfl | rfl | rfl | rfl
  ·rw [Pl.itoa_cut (B (by omega) (by omega))];have:=Pl.itoa_len (n:=b) (B (by omega) (by omega));omega
  ·exact B (by omega) (by omega)
  ·exact B (by omega) (by omega)
  ·exact B (by omega) (by omega)
  ·exact B (by omega) (by omega)),Pl.esc_ses,Pl.itoa_cut (B (by omega) (by omega)),Pl.itoa_cut (B (by omega) (by omega)),Pl.itoa_cut (B (by omega) (by omega)),Pl.itoa_cut (B (by omega) (by omega)),Pl.itoa_cut (B (by omega) (by omega)),Pl.itoa_cut (B (by omega) (by omega)),<-l,<-eb,<-m,<-o,<-q,Int.sub_self,r]
 rfl
theorem aRD(w:World)(x y z:Int)(hx : -9223372036854775808<=x/\x<=9223372036854775807)(hy : -9223372036854775808<=y/\y<=9223372036854775807)(hz : -9223372036854775808<=z/\z<=9223372036854775807)(h:Low w) :Calls prog 13 #[.int .i64 x,.int .i64 y,.int .i64 z] w fun e f=>e=.returned (.bool true)/\Below w.heap.size w f:=by
 have I:=aOX x 1000 (by decide);have J:=aOX y 1000 (by decide);have K:=aOX z 1000 (by decide);obtain⟨a,Q⟩:∃a,Hid (a=aOY x 1000):=⟨_,rfl⟩
 obtain⟨b,R⟩:∃a,Hid (a=aOY y 1000):=⟨_,rfl⟩
 obtain⟨c,S⟩:∃a,Hid (a=aOY z 1000):=⟨_,rfl⟩
 rw [<- Q.out] at I;rw [<- R.out] at J;rw [<- S.out] at K
 have mk:∀n:Int,-1000<n->n<2000->∃s:ByteArray,Hid (s=⟨(Pl.itoa n).toArray⟩)/\s.size<=14:=fun n h1 h2=>⟨_,rfl,by
  show(Pl.itoa n).toArray.size<=14;rw [List.size_toArray]
  exact Pl.itoa_len (by unfold Pl.CG;omega)⟩
 obtain⟨sa,L,za⟩:=mk a (by omega) (by omega);obtain⟨sb,M,zb⟩:=mk b (by omega) (by omega);obtain⟨sc,T,zc⟩:=mk c (by omega) (by omega);obtain⟨s1,U,_⟩:=mk (a+c) (by omega) (by omega);obtain⟨s2,V,_⟩:=mk (a-b) (by omega) (by omega);obtain⟨s3,W,_⟩:=mk (c-b) (by omega) (by omega);clear mk;have B:∀{s:ByteArray} {n:Int},s=⟨(Pl.itoa n).toArray⟩->s.data.toList=Pl.itoa n:=fun {s} {n} e=>by rw [e]
 have A:=esc_os I J K (B L) (B M) (B U) (B V) (B W);have F:=(show Hid (sa.data.toList=Pl.itoa a/\sb.data.toList=Pl.itoa b/\sc.data.toList=Pl.itoa c) from⟨B L,B M,B T⟩)
 clear B;have HP:Hid (∀(v r:Int)(w:World),Hid (r=aOY v 1000)->(-9223372036854775808<=v/\v<=9223372036854775807)->Calls prog 27 #[.int .i64 v,.int .i64 1000] w fun e f=>e=.returned (.int .i64 r)/\w=f):=fun v r w hr hv=>by rw [hr.out];exact aPG w v 1000 (by decide) hv
 have HA:=h_ (aNL w h);have HQ:Hid (∀d,Below w.heap.size w d->Calls prog 32 #[] d fun e f=>e=.returned (.bool true)/\Hid (Below w.heap.size w f)):=fun d l=>(aNJ d (h.below l)).mono (fun e f ⟨C,q⟩=>⟨C,l.trans (q.mono l.size)⟩);have HT:Hid (∀(n:Int)(s:ByteArray)(d:World),Hid (s=⟨(Pl.itoa n).toArray⟩)->n.natAbs<=1099511627776->Below w.heap.size w d->Calls prog 34 #[.int .i64 n] d fun e f=>e=.returned (.string s)/\Hid (Below w.heap.size w f)):=fun n s d X Y l=>(wE n d Y (h.below l).B3).mono (fun e f ⟨C,q,_⟩=>⟨by rw [X.out];exact C,l.trans (q.mono l.size)⟩);have HI:Hid (∀(d:World)(s:ByteArray),Below w.heap.size w d->Calls prog 35 #[.string s] d fun e f=>e=.returned (.agg #[.string s,.int .i64 2000])/\Hid (Below w.heap.size w f)):=fun d s l=>(aRC d s).mono (fun e f ⟨C,q⟩=>⟨C,l.trans (q.mono l.size)⟩);have H4:Hid _:=aP7 (w:=w) h A (n:=11) rfl (by decide) (by decide);have H5:=(show Hid _ from aP9 (w:=w) h A (fun o A=>by simp only [escO,List.map_cons,List.map_nil,List.mem_cons,List.not_mem_nil,or_false] at A;rcases A with rfl | rfl | rfl | rfl | rfl | rfl | rfl | rfl | rfl | rfl | rfl<;>simp [poB]) (n:=11) rfl (by decide) (by decide))
 have Z:Hid (∀(n:Int)(s:ByteArray)(j d:World)(g:Nat),g<j.heap.size->Hid (s=⟨(Pl.itoa n).toArray⟩)->n.natAbs<=1099511627776->KpB w j d->Calls prog 34 #[.int .i64 n] d fun e f=>e=.returned (.string s)/\(∀k,f.cell? ⟨g,k,none⟩=j.cell? ⟨g,k,none⟩)/\Hid (KpB w j f)):=fun n s j d g D X Y l=>(wE n d Y (h.below l.1).B3).mono (fun e f ⟨C,q,_⟩=>⟨by rw [X.out];exact C,(l.go q).cell D,l.go q⟩);have HE:Hid (∀(j d:World)(g:Nat)(o t:ByteArray),g<j.heap.size->KpB w j d->Calls prog 39 #[.agg #[.int .i64 0,.string o,.string t],.string t,.string o] d fun e f=>e=.returned (.bool true)/\(∀k,f.cell? ⟨g,k,none⟩=j.cell? ⟨g,k,none⟩)/\Hid (KpB w j f)):=fun j d g o t D l=>(aAT d 0 _ _ _ _).mono (fun e f ⟨C,q⟩=>⟨by rw [C];simp,(l.go q).cell D,l.go q⟩);have q1:IntKind.i64.wrap (a+c)=a+c:=IntWalk.i64_in _ (by omega);have q2:IntKind.i64.wrap (a-b)=a-b:=IntWalk.i64_in _ (by omega);have q3:IntKind.i64.wrap (c-b)=c-b:=IntWalk.i64_in _ (by omega);clear h A;go_enter func13,ntmps13
 go_upto_region 6 with(first
  | (go_at_call 26;refine Calls.mono HA ?_;rintro e d ⟨rfl,G⟩)
  | (go_at_call 32;refine Calls.mono (HQ _ G) ?_;rintro e d ⟨rfl,G⟩)
  | (go_at_call 27;refine Calls.mono (HP _ _ _ (by assumption) (by assumption)) ?_;rintro e w2 ⟨rfl,rfl⟩)
  | (go_at_call 34;refine Calls.mono (HT _ _ _ (by assumption) (by omega) G) ?_;rintro e d ⟨rfl,G⟩))
 go_upto_region 7 with(go_at_call 35;refine(HI _ _ G).mono ?_;rintro e d ⟨rfl,G⟩)
 all_goals (try (exfalso;omega))
 clear HA HQ HI
 go_upto_region 12 with(first
  | (go_at_call 19;refine Calls.mono (H4 _ _ G rfl (by obtain⟨ea,eb,ec⟩:=F.out;simp only [aO2,List.map_cons,List.map_nil,B5,ByteArray.data_append,Array.toList_append,ea,eb,ec,List.append_assoc,Pl.escS,Pl.segI,Pl.segT];try rfl)) ?_;rintro e w4 ⟨g,ac,rfl,ad,E⟩)
  | (go_at_call 28;refine Calls.mono (H5 _ _ _ _ ⟨E.1,E.2.1,E.2.2⟩ (by obtain⟨ea,eb,ec⟩:=F.out;simp only [aO2,List.map_cons,List.map_nil,B5,ByteArray.data_append,Array.toList_append,ea,eb,ec,List.append_assoc,Pl.escS,Pl.segI,Pl.segT];try rfl)) ?_;rintro e j ⟨g3,aa,rfl,ae,p⟩))
 clear H4 H5 E F;obtain⟨H,N,O⟩:∃H,Hid (H=(escO sa sb s1 s2 s3).map poB)/\H.length=11:=⟨_,rfl,rfl⟩
 rw [<- N.out] at p
 go_loopw [15] (fun i wr=>∃(k m:Nat),k<=11/\i=.int .i64 k/\wr=j.drewN m) (fun i _=>11-(RowKit.intOf i).toNat)
 case atStart=>exact⟨0,0,Nat.zero_le _,rfl,rfl⟩
 case round =>
  obtain⟨k,m,hk,rfl,rfl⟩:=hrel;by_cases af:k<11
  ·obtain⟨o,A⟩:∃o,H[k]?=some o:=⟨H[k],g_ (by omega)⟩
   obtain⟨_,e,D,a0,a1,a2⟩:=p.2.1.get A;obtain rfl:g=_:=by simpa using e
   obtain⟨_,e',ag,b0,b1,b2⟩:=p.2.2.get A;obtain rfl:g3=_:=by simpa using e'
   have ab:(k:Int)<11:=by omega
   obtain⟨c,ah,ai⟩:=o;dsimp only at *;clear A e e' O;go_wp2_with fail;first | go_quiet (fail) | skip
   go_wp2_with fail
   go_roundw
   case rel=>exact⟨k+1,_,by omega,by go_num,rfl⟩
   case measure=>simp [RowKit.intOf];omega
  ·obtain rfl:k=11:=by omega
   have P:Hid (KpB w j (j.drewN m)):=⟨p.1.trans ((U2 j _).mono p.1.size),U2 j _⟩
   have D:g<j.heap.size:=by
    obtain⟨_,e,D,_⟩:=p.2.1.get (k:=0) (o:=H[0]) (g_ (by omega));obtain rfl:g=_:=by simpa using e
    exact D
   have u:=p.2.1;rw [N.out] at u;have u:=aO8 u;simp only [aO3,escO,Nat.zero_add,Nat.reduceAdd,and_true] at u;obtain⟨z0,z1,z2,z3,z4,z5,z6,z7,z8,z9,aj,ak,al,am,an,ao,ap,aq,ar,au,av,aw,ax,ay,az,ba,bb,bc,bd,be,bf,bg,bh⟩:=u;clear O p
   go_wp2_with (first
    | (go_at_call 27;refine Calls.mono (HP _ _ _ (by assumption) (by assumption)) ?_;rintro e w2 ⟨rfl,rfl⟩)
    | (go_at_call 34;refine Calls.mono (Z _ _ _ _ _ D (by assumption) (by omega) P) ?_;rintro e w6 ⟨rfl,hq,P⟩)
    | (go_at_call 39;refine Calls.mono (HE _ _ _ _ _ D P) ?_;rintro e w6 ⟨rfl,hq,P⟩))
   go_ret;exact⟨rfl,P.1⟩
end
section
open Go.ChangeShapes Go.WideShapes Go.ChangeAt Go.RowKit Go.Deep
theorem aO9(os:Os)(c:os.Started)(H:Type)(enc:TypeId×Value->H)(F:Stop.Interp) :ReturnsInLeavingWide {calm:=true} checked os 13 .any (fun w a=>(Rows.escapesSpec.pre enc prog Tryz.f13 [] false w a/\laidMetH prog Rows.escapesRow.laid w)/\sizedMet enc prog Tryz.f13 (OpenSpec.ofChange Rows.escapesSpec) false w a)
   ((OpenSpec.ofChange Rows.escapesSpec).postWith enc prog Tryz.f13 F (outsideKept [.timePasses]) false true false):=by
 refine dV (C:=checked) (X:=fun w _=>laidMetH prog Rows.escapesRow.laid w) (fun _ _ _ x h=>h.of_heap x) Tryz.own c (by kernel_rfl) func13
  (mI (enc:=enc) (C:=checked) (os:=os) (X:=fun w _=>laidMetH prog Rows.escapesRow.laid w) (World.doorLaid prog 86 os) #[.int .i64 0,.int .i64 0,.int .i64 0] 8 rfl (World.shaped_of_RefB (by kernel_rfl) (by kernel_rfl)) (by kernel_rfl) (by kernel_rfl) (by kernel_rfl) (aAK os _)) ?_
 intro W f a y R n o d r _ z A;have b:∀(j:Nat) t v,Tryz.f13.params[j]?=some t->a[j]?=some v->Value.okWide prog W .any f t v:=d;have g:=r;obtain⟨p,q,i,B,rfl,D,E⟩:=r;have s:DataW.TrodAll enc prog W 0 (fun _=>true) true Tryz.f13.params.toList a.toList y p:=i;rw [params13] at s b z;obtain⟨G,I,J,S,T,U,V,Y,Z,rfl,rfl,rfl,K,L,M⟩:=trodAll_three s;obtain⟨rfl,rfl⟩:=trodVars_none B;obtain⟨N,rfl,rfl,rfl,k⟩:=open_int underlying3 (b 0 3 G rfl rfl) K;obtain⟨O,rfl,rfl,rfl,l⟩:=open_int underlying3 (b 1 3 I rfl rfl) L;obtain⟨P,rfl,rfl,rfl,m⟩:=open_int underlying3 (b 2 3 J rfl rfl) M;clear i d;simp only [List.append_nil] at g;refine(aRD W N O P (kA k) (kA l) (kA m) (PJ o A)).mono fun e W' ⟨Q,u⟩=>?_;subst Q;refine⟨_,rfl,⟨_,_,_,[],[],[],g,?_,?_,?_,u.frame _,fun h=>by cases h⟩,u.os⟩
 ·exact trodAll_mk1 (shut_bool underlying4 true)
 ·exact trodAll_mk3 (shut_int underlying3 k) (shut_int underlying3 l) (shut_int underlying3 m)
 ·rfl
theorem aPH:Rows.EscapesSaid :=
 OpenClaim.holds_of_wide_leaving_time 13 Tryz.f13 rfl rfl rfl rfl rfl rfl rfl ⟨rfl,rfl,rfl,rfl,rfl⟩ rfl rfl rfl rfl rfl (by kernel_rfl) func13 aPA
  (of_decide_eq_true (by kernel_rfl)) (by unfold Func.isWrapper;rw [if_neg (of_decide_eq_false (by kernel_rfl))];exact⟨rfl,rfl⟩)
  (fun b a H enc _ F=>aO9 b a H enc F)
end
end Go.Proofs.YtkgbdddkcjpgfaaGreatDoor
