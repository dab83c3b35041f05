import Derived.Test.YtkgbdddkcjpgfaaGreatDoorR51
import Derived.Test.YtkgbdddkcjpgfaaGreatDoorR52
namespace Go.Proofs.YtkgbdddkcjpgfaaGreatDoor
set_option maxHeartbeats 4000000
set_option maxRecDepth 100000
open Go.Proofs.Tryz
section
open Go
theorem sums_1:Rows.sumsRow.wf (OpenSpec.ofChange Rows.sumsSpec)=true:=by kernel_rfl
theorem sums_4:Tryz.f11.params.all (prog.readableRec ·)=true:=by kernel_rfl
theorem sums_5:namedTie prog Rows.sumsRow.named Rows.sumsSpec.vars=true:=by kernel_rfl
theorem sums_10:(Rows.sumsRow.inPlace==prog.inPlace 11)=true:=by kernel_rfl
theorem sums_11:(Rows.sumsRow.unfollowed==prog.unfollowed 11)=true:=by kernel_rfl
theorem sums_12:(Rows.sumsRow.recurses==prog.recurses 11)=true:=by kernel_rfl
theorem sums_13:(Rows.sumsRow.named==prog.varsNamed 11)=true:=by kernel_rfl
theorem sums_14:(Rows.sumsRow.maps==(Tryz.f11.params.toList++Rows.sumsSpec.plain.varTypes prog).any (prog.mapsRec ·))=true:=by kernel_rfl
theorem sums_15:(Rows.sumsRow.ifaces==(Tryz.f11.params.toList++Rows.sumsSpec.plain.varTypes prog).any (prog.ifacesRec ·))=true:=by kernel_rfl
theorem sums_16:(Rows.sumsRow.mapsOut==prog.mapsAmong Tryz.f11.resultTypes.toList)=true:=by kernel_rfl
theorem sums_17:(Rows.sumsRow.loops==(Tryz.f11.params.toList++Rows.sumsSpec.plain.varTypes prog).any (prog.loopsFrom ·))=true:=by kernel_rfl
theorem aRL:(Rows.sumsRow.wideKeys==(Tryz.f11.params.toList++Rows.sumsSpec.plain.varTypes prog++Tryz.f11.resultTypes.toList).any (prog.wideKeysFrom ·))=true:=by kernel_rfl
theorem sums_18:Rows.sumsSpec.vars.all (prog.varReadable ·)=true:=by kernel_rfl
theorem sums_19:Tryz.f11.resultTypes.all (fun t=>prog.readableRec t&&decide (t<prog.types.size))=true:=by kernel_rfl
theorem sums_20:(Rows.sumsRow.ifacesOut==Tryz.f11.resultTypes.toList.any (prog.ifacesRec ·))=true:=by kernel_rfl
theorem sums_21:(Rows.sumsRow.loopsOut==Tryz.f11.resultTypes.toList.any (prog.loopsFrom ·))=true:=by kernel_rfl
theorem sums_26:(Rows.sumsRow.pinned==Rows.sumsRow.pinnedBy)=true:=by kernel_rfl
theorem sums_27:(Rows.sumsRow.veiled==(Tryz.f11.params.toList++Rows.sumsSpec.plain.varTypes prog++Tryz.f11.resultTypes.toList).any (prog.veiledRec ·))=true:=by kernel_rfl
theorem sums_28:Rows.sumsRow.veiledFits prog Tryz.f11.params.toList (Tryz.f11.params.toList++Rows.sumsSpec.plain.varTypes prog++Tryz.f11.resultTypes.toList)=true:=by kernel_rfl
theorem aP3:joinedFacts prog 11 Tryz.f11 Rows.sumsSpec Rows.sumsRow=true:=nW sums_1 Tryz.fLaid Tryz.fMaps sums_4 sums_5 rfl Tryz.fStops rfl Tryz.fKnobs sums_10 sums_11 sums_12 sums_13 sums_14 sums_15 sums_16 sums_17 aRL sums_18 sums_19 sums_20 sums_21 Tryz.fPlain rfl Tryz.fHeard Tryz.fEnter Tryz.fLifts Tryz.fMake rfl rfl sums_26 sums_27 sums_28
end
section
namespace Pl
def sumS(s:UInt8)(a b:Int):List Seg:=[
 ([([40,s,32],a),([32],b)],[41]),
 ([([40,100,101,102,105,110,101,32,97,32],a)],[41]),
 ([],[40,100,101,102,105,110,101,32,102,32,40,108,97,109,98,100,97,32,40,120,32,121,41,32,40,s,32,120,32,121,41,41,41]),
 ([([40,102,32,97,32],b)],[41]),
 ([([40,108,101,116,32,40,40,120,32],a),([41,32,40,98,32],b)],[41,41,32,40,102,32,120,32,98,41,41]),
 ([([40,40,105,102,32,35,102,32,99,97,114,32,s,41,32,97,32,40,98,101,103,105,110,32,49,32],b)],[41,41])]
def sumO(s:UInt8)(a b:Int):List PO:=[⟨0,[],cut (OF (valK s a b))⟩,⟨0,[],[]⟩,⟨0,[],[]⟩,⟨0,[],cut (OF (valK s a b))⟩,⟨0,[],cut (OF (valK s a b))⟩,⟨0,[],cut (OF (valK s a b))⟩]
def bigO:List PO:=[⟨11,[],[]⟩,⟨0,[],[]⟩,⟨0,[],[]⟩,⟨11,[],[]⟩,⟨11,[],[]⟩,⟨11,[],[]⟩]
theorem sum_good(s:UInt8)(c:s∈signL)(a b:Int):(sumS s a b).all segG=true:=by simp only [signL,List.mem_cons,List.not_mem_nil,or_false] at c;rcases c with rfl | rfl | rfl | rfl | rfl<;>kernel_rfl
theorem sum_ses(s:UInt8)(c:s∈signL)(a b:Int):(aQL false AW ((sumS s a b).map aQ6)).1.2=sumO s a b/\(aQL false AW ((sumS s a b).map aQ6)).2=condK s a b++(condK s a b++(condK s a b++condK s a b)):=by simp only [signL,List.mem_cons,List.not_mem_nil,or_false] at c;rcases c with rfl | rfl | rfl | rfl | rfl<;>refine⟨?_,?_⟩<;>kernel_rfl
theorem sum_big(s:UInt8)(c:s=43\/s=45\/s=42)(a b:Int):(aQL true AW ((sumS s a b).map aQ6)).1.2=bigO/\(aQL true AW ((sumS s a b).map aQ6)).2=(condK s a b).map Not++((condK s a b).map Not++((condK s a b).map Not++(condK s a b).map Not)):=by rcases c with rfl | rfl | rfl<;>refine⟨?_,?_⟩<;>kernel_rfl
end Pl
end
open Pl (AE AW)
section
open Go.RowKit Go.Lib Go.Maps
def sumB(t:AE):List OB:=[oK t,(0,noB,noB),(0,noB,noB),oK t,oK t,oK t]
theorem sum_os{s:UInt8}(c:s∈Pl.signL){a b:Int}(m:a.natAbs<=Pl.CG)(n:b.natAbs<=Pl.CG) :(Pl.AF AW ((Pl.sumS s a b).map Pl.segI)).2=(sumB (Pl.toldT s a b)).map poB:=by
 have i:=Pl.seg_all (Pl.sumS s a b) (Pl.sum_good s c a b) (fun x j y g=>by
  simp only [Pl.sumS,List.mem_cons,List.not_mem_nil,or_false] at j
  rcases j with rfl | rfl | rfl | rfl | rfl | rfl<;>simp only [List.mem_cons,List.not_mem_nil,or_false] at g<;>first | exact g.elim | (rcases g with rfl | rfl<;>assumption) | (subst g;assumption))
 by_cases h:(Pl.bigK s a b).natAbs<=Pl.CG
 ·have e:Pl.toldT s a b=Pl.OF (Pl.valK s a b):=by unfold Pl.toldT;rw [if_pos h]
  obtain⟨o,k⟩:=Pl.told_len c h;have l:=Pl.cond_big c h
  rw [e,Pl.sesT_eq (ov:=false) _ _ AW i (by
   rw [(Pl.sum_ses s c a b).2];intro p f;simp only [List.mem_append,or_self] at f
   exact l p f),(Pl.sum_ses s c a b).1]
  unfold Pl.sumO sumB oK;rw [Pl.short_cut (by omega),if_neg k];rfl
 ·have e:Pl.toldT s a b=[]:=by unfold Pl.toldT;rw [if_neg h]
  have d:s=43\/s=45\/s=42:=by
   simp only [Pl.signL,List.mem_cons,List.not_mem_nil,or_false] at c;rcases c with rfl | rfl | rfl | rfl | rfl
   ·exact .inl rfl
   ·exact .inr (.inl rfl)
   ·exact .inr (.inr rfl)
   ·exact absurd (by simp [Pl.bigK]) h
   ·exact absurd (by simp [Pl.bigK]) h
  rw [e,Pl.sesT_eq (ov:=true) _ _ AW i (by
   rw [(Pl.sum_big s d a b).2];intro p f;simp only [List.mem_append,or_self] at f
   rcases d with rfl | rfl | rfl<;>simp [Pl.condK,Pl.bigK] at f h<;>(rw [f];simpa using h)),(Pl.sum_big s d a b).1]
  rfl
theorem p_sums(w:World)(c x y:Int)(hc : -9223372036854775808<=c/\c<=9223372036854775807)(hx : -9223372036854775808<=x/\x<=9223372036854775807)(hy : -9223372036854775808<=y/\y<=9223372036854775807)(h:Low w) :Calls prog 11 #[.int .i64 c,.int .i64 x,.int .i64 y] w fun e f=>e=.returned (.bool true)/\Below w.heap.size w f:=by
 have L:=aOX c 5 (by decide);obtain⟨k,O⟩:∃a,Hid (a=aOY c 5):=⟨_,rfl⟩
 rw [<- O.out] at L;obtain⟨sk,I,zk⟩:∃s:ByteArray,Hid (s=⟨#[sgB k]⟩)/\s.size=1:=⟨_,rfl,rfl⟩
 have HP:Hid (∀(v r:Int)(w:World),Hid (r=aOY v 5)->(-9223372036854775808<=v/\v<=9223372036854775807)->Calls prog 27 #[.int .i64 v,.int .i64 5] w fun e f=>e=.returned (.int .i64 r)/\w=f):=fun v r w hr P=>by rw [hr.out];exact aPG w v 5 (by decide) P
 have Q:Hid (∀(v:Int)(w:World),(-9223372036854775808<=v/\v<=9223372036854775807)->Calls prog 33 #[.int .i64 v] w fun e f=>∃r:Int,e=.returned (.int .i64 r)/\r.natAbs<=1099511627776/\w=f):=fun v w P=>aRB w v P;have HG:Hid (∀w:World,Calls prog 36 #[.int .i64 k] w fun e f=>e=.returned (.string sk)/\w=f):=fun w=>by rw [I.out];exact p_sign w k L
 have HA:=h_ (aNL w h);have HQ:Hid (∀d,Below w.heap.size w d->Calls prog 32 #[] d fun e f=>e=.returned (.bool true)/\Hid (Below w.heap.size w f)):=fun d m=>(aNJ d (h.below m)).mono (fun e f ⟨A,z⟩=>⟨A,m.trans (z.mono m.size)⟩);have HT:Hid (∀(n:Int)(s:ByteArray)(d:World),Hid (s=⟨(Pl.itoa n).toArray⟩)->n.natAbs<=1099511627776->Below w.heap.size w d->Calls prog 34 #[.int .i64 n] d fun e f=>e=.returned (.string s)/\Hid (Below w.heap.size w f)):=fun n s d hs hn m=>(wE n d hn (h.below m).B3).mono (fun e f ⟨A,z,_⟩=>⟨by rw [hs.out];exact A,m.trans (z.mono m.size)⟩);have HI:Hid (∀(d:World)(s:ByteArray),Below w.heap.size w d->Calls prog 35 #[.string s] d fun e f=>e=.returned (.agg #[.string s,.int .i64 2000])/\Hid (Below w.heap.size w f)):=fun d s m=>(aRC d s).mono (fun e f ⟨A,z⟩=>⟨A,m.trans (z.mono m.size)⟩);have D:=h_ h;clear h;go_enter func11,ntmps11
 go_upto_region 5 with(first
  | (go_at_call 26;refine Calls.mono HA ?_;rintro e d ⟨rfl,E⟩)
  | (go_at_call 32;refine Calls.mono (HQ _ E) ?_;rintro e d ⟨rfl,E⟩)
  | (go_at_call 27;refine Calls.mono (HP _ _ _ (by assumption) (by assumption)) ?_;rintro e R ⟨rfl,rfl⟩)
  | (go_at_call 33;refine Calls.mono (Q _ _ (by assumption)) ?_;rintro e R ⟨a,rfl,S,rfl⟩))
 go_upto_region 6 with(go_at_call 33;refine Calls.mono (Q _ _ (by assumption)) ?_;rintro e R ⟨b,rfl,T,rfl⟩)
 have mk:∀n:Int,n.natAbs<=1099511627776->∃s:ByteArray,Hid (s=⟨(Pl.itoa n).toArray⟩)/\s.size<=14:=fun n U=>⟨_,rfl,by
  show(Pl.itoa n).toArray.size<=14;rw [List.size_toArray]
  exact Pl.itoa_len U⟩
 obtain⟨sa,V,za⟩:=mk a S;obtain⟨sb,W,zb⟩:=mk b T;clear mk HA HQ HP Q
 go_upto_region 9 with(first
  | (go_at_call 34;refine Calls.mono (HT _ _ _ (by assumption) (by assumption) E) ?_;rintro e d ⟨rfl,E⟩)
  | (go_at_call 36;refine Calls.mono (HG _) ?_;rintro e R ⟨rfl,rfl⟩)
  | (go_at_call 35;refine(HI _ _ E).mono ?_;rintro e d ⟨rfl,E⟩))
 all_goals (try (exfalso;omega))
 clear HI HT HG;have j:=sum_os (aQG k) S T;have X:∀{s:ByteArray} {n:Int},s=⟨(Pl.itoa n).toArray⟩->s.data.toList=Pl.itoa n:=fun {s} {n} e=>by rw [e]
 have F:=(show Hid (sk.data.toList=[sgB k]/\sa.data.toList=Pl.itoa a/\sb.data.toList=Pl.itoa b) from⟨by rw [I.out],X V,X W⟩)
 clear X;obtain⟨t,J⟩:∃t,Hid (t=Pl.toldT (sgB k) a b):=⟨_,rfl⟩
 rw [<- J.out] at j;have H4:Hid _:=aP7 (w:=w) D j (n:=6) rfl (by decide) (by decide)
 have H5:=(show Hid _ from aP9 (w:=w) D j (fun o j=>by
  have Y:(oK t).1≠7:=by unfold oK;split<;>simp
  simp only [sumB,List.map_cons,List.map_nil,List.mem_cons,List.not_mem_nil,or_false] at j
  rcases j with rfl | rfl | rfl | rfl | rfl | rfl<;>first | exact Y | simp [poB]) (n:=6) rfl (by decide) (by decide))
 have K:Hid (∀(q d:World),KpB w q d->Calls prog 37 #[.int .i64 k,.int .i64 a,.int .i64 b] d fun e f=>e=.returned (.string ⟨t.toArray⟩)/\Hid (KpB w q f)):=fun q d m=>(aQ9 d k a b L S T (D.below m.1).B3).mono (fun e f ⟨A,z⟩=>⟨by rw [J.out];exact A,m.go z⟩);clear j
 go_upto_region 15 with(first
  | (go_at_call 19;refine Calls.mono (H4 _ _ E rfl (by obtain⟨Z,ea,eb⟩:=F.out;simp only [aO2,List.map_cons,List.map_nil,B5,ByteArray.data_append,Array.toList_append,Z,ea,eb,List.append_assoc,Pl.sumS,Pl.segI,Pl.segT];try rfl)) ?_;rintro e w4 ⟨g,ad,rfl,ae,B⟩)
  | (go_at_call 28;refine Calls.mono (H5 _ _ _ _ ⟨B.1,B.2.1,B.2.2⟩ (by obtain⟨Z,ea,eb⟩:=F.out;simp only [aO2,List.map_cons,List.map_nil,B5,ByteArray.data_append,Array.toList_append,Z,ea,eb,List.append_assoc,Pl.sumS,Pl.segI,Pl.segT];try rfl)) ?_;rintro e q ⟨H,ab,rfl,af,p⟩)
  | (go_at_call 37;refine Calls.mono (K q _ ⟨p.1,r_⟩) ?_;rintro e w6 ⟨rfl,HK⟩))
 clear H4 H5 K B F
 have M:g<q.heap.size/\H<q.heap.size:=by
  obtain⟨_,e,U,_⟩:=p.2.1.get (k:=0) rfl;obtain⟨_,G,h2,_⟩:=p.2.2.get (k:=0) rfl;obtain rfl:g=_:=by simpa using e
  obtain rfl:H=_:=by simpa using G
  exact⟨U,h2⟩
 have HC:Hid (∀d:World,KpB w q d->Calls prog 38 #[.agg #[.int .i64 ((oK t).1:Int),.string (oK t).2.1,.string (oK t).2.2],.string ⟨t.toArray⟩] d fun e f=>e=.returned (.bool true)/\(∀k,f.cell? ⟨H,k,none⟩=q.cell? ⟨H,k,none⟩)/\Hid (KpB w q f)):=fun d m=>(p_came d t).mono (fun e f ⟨A,z⟩=>⟨A,(m.go z).cell M.2,m.go z⟩);have HO:Hid (∀k:Nat,k<6->(sumB t)[k]?=some (if k=1\/k=2 then(0,noB,noB) else oK t)):=fun k L=>by rcases(show k=0\/k=1\/k=2\/k=3\/k=4\/k=5 from by omega) with rfl | rfl | rfl | rfl | rfl | rfl<;>rfl
 go_loopw [18] (fun i wr=>∃k:Nat,k<=6/\i=.int .i64 k/\Hid (KpB w q wr)) (fun i _=>6-(RowKit.intOf i).toNat)
 case atStart=>exact⟨0,Nat.zero_le _,rfl,HK⟩
 case round =>
  obtain⟨u,ag,rfl,l⟩:=hrel;by_cases aa:u<6
  ·have ac:(u:Int)<6:=by omega
   have j:=HO.out u aa;by_cases C:u=1\/u=2
   ·rw [if_pos C] at j;have j:((sumB t).map poB)[u]?=some (poB (0,noB,noB)):=by rw [List.getElem?_map,j];rfl
    obtain⟨_,e,_,N,_,_⟩:=p.2.1.get j;obtain rfl:g=_:=by simpa using e
    obtain⟨_,G,_,b0,_,_⟩:=p.2.2.get j;obtain rfl:H=_:=by simpa using G
    rw [<- l.cell M.1] at N;rw [<- l.cell M.2] at b0;clear j e G;rcases C with rfl | rfl
    all_goals
     go_wp2_with fail
     first | go_quiet (fail) | skip
     go_wp2_with fail
     go_roundw
     case rel=>first | exact⟨2,by decide,by go_num,l⟩ | exact⟨3,by decide,by go_num,l⟩
     case measure=>simp [RowKit.intOf]
   ·rw [if_neg C] at j;have j:((sumB t).map poB)[u]?=some (poB (oK t)):=by rw [List.getElem?_map,j];rfl
    obtain⟨_,e,_,N,a1,a2⟩:=p.2.1.get j;obtain rfl:g=_:=by simpa using e
    obtain⟨_,G,_,b0,b1,b2⟩:=p.2.2.get j;obtain rfl:H=_:=by simpa using G
    simp only [poB] at N a1 a2 b0 b1 b2;rw [<- l.cell M.1] at N a1 a2;have n1:((u:Int)==1)=false:=by simp;omega
    have n2:((u:Int)==2)=false:=by simp;omega
    clear j e G C
    go_wp2_with (first
     | (go_at_call 38;refine Calls.mono (HC _ l) ?_;rintro e w7 ⟨rfl,hq,l⟩))
    go_roundw
    case rel=>exact⟨u+1,by omega,by go_num,l⟩
    case measure=>simp [RowKit.intOf];omega
  ·obtain rfl:u=6:=by omega
   go_wp2_with fail
   go_ret;exact⟨rfl,l.1⟩
end
section
open Go.ChangeShapes Go.WideShapes Go.ChangeAt Go.RowKit Go.Deep
theorem aP2(os:Os)(c:os.Started)(H:Type)(enc:TypeId×Value->H)(F:Stop.Interp) :ReturnsInLeavingWide {calm:=true} checked os 11 .any (fun w a=>(Rows.sumsSpec.pre enc prog Tryz.f11 [] false w a/\laidMetH prog Rows.sumsRow.laid w)/\sizedMet enc prog Tryz.f11 (OpenSpec.ofChange Rows.sumsSpec) false w a)
   ((OpenSpec.ofChange Rows.sumsSpec).postWith enc prog Tryz.f11 F (outsideKept [.timePasses]) false true false):=by
 refine dV (C:=checked) (X:=fun w _=>laidMetH prog Rows.sumsRow.laid w) (fun _ _ _ x h=>h.of_heap x) Tryz.own c (by kernel_rfl) func11
  (mI (enc:=enc) (C:=checked) (os:=os) (X:=fun w _=>laidMetH prog Rows.sumsRow.laid w) (World.doorLaid prog 86 os) #[.int .i64 0,.int .i64 0,.int .i64 0] 8 rfl (World.shaped_of_RefB (by kernel_rfl) (by kernel_rfl)) (by kernel_rfl) (by kernel_rfl) (by kernel_rfl) (aAK os _)) ?_
 intro W f a y R n o d r _ z A;have b:∀(j:Nat) t v,Tryz.f11.params[j]?=some t->a[j]?=some v->Value.okWide prog W .any f t v:=d;have g:=r;obtain⟨p,q,i,B,rfl,D,E⟩:=r;have s:DataW.TrodAll enc prog W 0 (fun _=>true) true Tryz.f11.params.toList a.toList y p:=i;rw [params11] at s b z;obtain⟨G,I,J,S,T,U,V,Y,Z,rfl,rfl,rfl,K,L,M⟩:=trodAll_three s;obtain⟨rfl,rfl⟩:=trodVars_none B;obtain⟨N,rfl,rfl,rfl,k⟩:=open_int underlying3 (b 0 3 G rfl rfl) K;obtain⟨O,rfl,rfl,rfl,l⟩:=open_int underlying3 (b 1 3 I rfl rfl) L;obtain⟨P,rfl,rfl,rfl,m⟩:=open_int underlying3 (b 2 3 J rfl rfl) M;clear i d;simp only [List.append_nil] at g;refine(p_sums W N O P (kA k) (kA l) (kA m) (PJ o A)).mono fun e W' ⟨Q,u⟩=>?_;subst Q;refine⟨_,rfl,⟨_,_,_,[],[],[],g,?_,?_,?_,u.frame _,fun h=>by cases h⟩,u.os⟩
 ·exact trodAll_mk1 (shut_bool underlying4 true)
 ·exact trodAll_mk3 (shut_int underlying3 k) (shut_int underlying3 l) (shut_int underlying3 m)
 ·rfl
theorem aQK:Rows.SumsSaid :=
 OpenClaim.holds_of_wide_leaving_time 11 Tryz.f11 rfl rfl rfl rfl rfl rfl rfl ⟨rfl,rfl,rfl,rfl,rfl⟩ rfl rfl rfl rfl rfl (by kernel_rfl) func11 aP3
  (of_decide_eq_true (by kernel_rfl)) (by unfold Func.isWrapper;rw [if_neg (of_decide_eq_false (by kernel_rfl))];exact⟨rfl,rfl⟩)
  (fun b a H enc _ F=>aP2 b a H enc F)
end
end Go.Proofs.YtkgbdddkcjpgfaaGreatDoor
