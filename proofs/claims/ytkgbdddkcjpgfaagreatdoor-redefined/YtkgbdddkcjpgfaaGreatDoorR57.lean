import Derived.Test.YtkgbdddkcjpgfaaGreatDoorR51
import Derived.Test.YtkgbdddkcjpgfaaGreatDoorR52
namespace Go.Proofs.YtkgbdddkcjpgfaaGreatDoor
set_option maxHeartbeats 4000000
set_option maxRecDepth 100000
open Go.Proofs.Tryz
section
open Go
theorem aP6:Rows.redefinedRow.wf (OpenSpec.ofChange Rows.redefinedSpec)=true:=by kernel_rfl
theorem aP5:Tryz.f12.params.all (prog.readableRec ·)=true:=by kernel_rfl
theorem aP4:namedTie prog Rows.redefinedRow.named Rows.redefinedSpec.vars=true:=by kernel_rfl
theorem aPY:(Rows.redefinedRow.inPlace==prog.inPlace 12)=true:=by kernel_rfl
theorem aPX:(Rows.redefinedRow.unfollowed==prog.unfollowed 12)=true:=by kernel_rfl
theorem aPW:(Rows.redefinedRow.recurses==prog.recurses 12)=true:=by kernel_rfl
theorem aPV:(Rows.redefinedRow.named==prog.varsNamed 12)=true:=by kernel_rfl
theorem aPU:(Rows.redefinedRow.maps==(Tryz.f12.params.toList++Rows.redefinedSpec.plain.varTypes prog).any (prog.mapsRec ·))=true:=by kernel_rfl
theorem aPT:(Rows.redefinedRow.ifaces==(Tryz.f12.params.toList++Rows.redefinedSpec.plain.varTypes prog).any (prog.ifacesRec ·))=true:=by kernel_rfl
theorem aPS:(Rows.redefinedRow.mapsOut==prog.mapsAmong Tryz.f12.resultTypes.toList)=true:=by kernel_rfl
theorem aPR:(Rows.redefinedRow.loops==(Tryz.f12.params.toList++Rows.redefinedSpec.plain.varTypes prog).any (prog.loopsFrom ·))=true:=by kernel_rfl
theorem aPE:(Rows.redefinedRow.wideKeys==(Tryz.f12.params.toList++Rows.redefinedSpec.plain.varTypes prog++Tryz.f12.resultTypes.toList).any (prog.wideKeysFrom ·))=true:=by kernel_rfl
theorem aPQ:Rows.redefinedSpec.vars.all (prog.varReadable ·)=true:=by kernel_rfl
theorem aPP:Tryz.f12.resultTypes.all (fun t=>prog.readableRec t&&decide (t<prog.types.size))=true:=by kernel_rfl
theorem aPO:(Rows.redefinedRow.ifacesOut==Tryz.f12.resultTypes.toList.any (prog.ifacesRec ·))=true:=by kernel_rfl
theorem aPN:(Rows.redefinedRow.loopsOut==Tryz.f12.resultTypes.toList.any (prog.loopsFrom ·))=true:=by kernel_rfl
theorem aPM:(Rows.redefinedRow.pinned==Rows.redefinedRow.pinnedBy)=true:=by kernel_rfl
theorem aPL:(Rows.redefinedRow.veiled==(Tryz.f12.params.toList++Rows.redefinedSpec.plain.varTypes prog++Tryz.f12.resultTypes.toList).any (prog.veiledRec ·))=true:=by kernel_rfl
theorem aPK:Rows.redefinedRow.veiledFits prog Tryz.f12.params.toList (Tryz.f12.params.toList++Rows.redefinedSpec.plain.varTypes prog++Tryz.f12.resultTypes.toList)=true:=by kernel_rfl
theorem aO5:joinedFacts prog 12 Tryz.f12 Rows.redefinedSpec Rows.redefinedRow=true:=nW aP6 Tryz.fLaid Tryz.fMaps aP5 aP4 rfl Tryz.fStops rfl Tryz.fKnobs aPY aPX aPW aPV aPU aPT aPS aPR aPE aPQ aPP aPO aPN Tryz.fPlain rfl Tryz.fHeard Tryz.fEnter Tryz.fLifts Tryz.fMake rfl rfl aPM aPL aPK
end
section
namespace Pl
def redS(wd:AE)(s t:UInt8)(a b:Int):List Seg:=[
 ([],[40,100,101,102,105,110,101,32,111,108,100,32,s,41]),
 ([],[40,100,101,102,105,110,101,32,110,101,119,32,t,41]),
 ([([40,100,101,102,105,110,101,32,102,32,40,108,97,109,98,100,97,32,40,41,32,40,s,32],a),([32],b)],[41,41,41]),
 ([([40,100,101,102,105,110,101,32,103,32,40,108,97,109,98,100,97,32,40,104,41,32,40,99,111,110,115,32,40,s,32],a),([32],b),([41,32,40,99,111,110,115,32,40,104,41,32,40,s,32],a),([32],b)],[41,41,41,41,41]),
 ([],[40,102,41]),
 ([],[40,100,101,102,105,110,101,32,107,101,112,116,32,48,41]),
 ([],[40,98,101,103,105,110,32,40,99,97,108,108,47,99,99,32,40,108,97,109,98,100,97,32,40,107,41,32,40,115,101,116,33,32,107,101,112,116,32,107,41,41,41,32,40,102,41,41]),
 ([],[40,103,32,40,108,97,109,98,100,97,32,40,41,32,40,115,101,116,33,32,s,32,110,101,119,41,41,41]),
 ([],[40,102,41]),
 ([],[40,107,101,112,116,32,49,41]),
 ([],40::(wd++[32,s,32,111,108,100,41])),
 ([],[40,102,41]),
 ([],[40,107,101,112,116,32,49,41])]
def redP(x y:AE):AE:=40::(x++32::32::46::32::(y++[41]))
def redO(x y:AE):List PO:=[⟨0,[],[]⟩,⟨0,[],[]⟩,⟨0,[],[]⟩,⟨0,[],[]⟩,⟨0,[],cut x⟩,⟨0,[],[]⟩,⟨0,[],cut x⟩,⟨0,[],cut (redP x y)⟩,⟨0,[],cut y⟩,⟨0,[],cut y⟩,⟨0,[],[]⟩,⟨0,[],cut x⟩,⟨0,[],cut x⟩]
def wdD:AE:=[100,101,102,105,110,101]
def wdS:AE:=[115,101,116,33]
theorem red_good(c:AE)(f:c=wdD\/c=wdS)(s t:UInt8)(d:s∈signL)(e:t∈signL)(a b:Int):(redS c s t a b).all segG=true:=by simp only [signL,List.mem_cons,List.not_mem_nil,or_false] at d e;rcases f with rfl | rfl<;>rcases d with rfl | rfl | rfl | rfl | rfl<;>rcases e with rfl | rfl | rfl | rfl | rfl<;>kernel_rfl
theorem red_ses(c:AE)(f:c=wdD\/c=wdS)(s t:UInt8)(d:s∈signL)(e:t∈signL)(a b:Int):(aQL false AW ((redS c s t a b).map aQ6)).1.2=redO (OF (valK s a b)) (OF (valK t a b)):=by simp only [signL,List.mem_cons,List.not_mem_nil,or_false] at d e;rcases f with rfl | rfl<;>rcases d with rfl | rfl | rfl | rfl | rfl<;>rcases e with rfl | rfl | rfl | rfl | rfl<;>kernel_rfl
theorem red_conds(c:AE)(f:c=wdD\/c=wdS)(s t:UInt8)(d:s∈signL)(e:t∈signL)(a b:Int):(aQL false AW ((redS c s t a b).map aQ6)).2=condK s a b++(condK s a b++(condK s a b++(condK t a b++(condK t a b++(condK t a b++(condK s a b++condK s a b)))))):=by simp only [signL,List.mem_cons,List.not_mem_nil,or_false] at d e;rcases f with rfl | rfl<;>rcases d with rfl | rfl | rfl | rfl | rfl<;>rcases e with rfl | rfl | rfl | rfl | rfl<;>kernel_rfl
end Pl
end
open Pl (AE AW)
section
open Go.RowKit Go.Lib Go.Maps
def redB(sf st:ByteArray):List OB:=[(0,noB,noB),(0,noB,noB),(0,noB,noB),(0,noB,noB),(0,noB,sf),(0,noB,noB),(0,noB,sf),(0,noB,⟨#[40]⟩++sf++⟨#[32,32,46,32]⟩++st++⟨#[41]⟩),(0,noB,st),(0,noB,st),(0,noB,noB),(0,noB,sf),(0,noB,sf)]
theorem aO6{s:UInt8}{a b:Int}(c:0<=a/\a<1000)(d:0<=b/\b<1000):(Pl.bigK s a b).natAbs<=Pl.CG:=by
 have e:a*b<=999*999:=Int.mul_le_mul (by omega) (by omega) (by omega) (by omega);have f:0<=a*b:=Int.mul_nonneg c.1 d.1;unfold Pl.bigK Pl.CG
 repeat' split
 all_goals omega
theorem red_os{d:AE}(h:d=Pl.wdD\/d=Pl.wdS){s t:UInt8}(e:s∈Pl.signL)(f:t∈Pl.signL){a b:Int}(k:0<=a/\a<1000)(m:0<=b/\b<1000){n o:ByteArray}(v:n.data.toList=Pl.toldT s a b)(w:o.data.toList=Pl.toldT t a b) :(Pl.AF AW ((Pl.redS d s t a b).map Pl.segI)).2=(redB n o).map poB:=by
 have E:a.natAbs<=Pl.CG:=by unfold Pl.CG;omega
 have F:b.natAbs<=Pl.CG:=by unfold Pl.CG;omega
 have z:=Pl.seg_all (Pl.redS d s t a b) (Pl.red_good d h s t e f a b) (fun x q y g=>by
  simp only [Pl.redS,List.mem_cons,List.not_mem_nil,or_false] at q
  rcases q with rfl | rfl | rfl | rfl | rfl | rfl | rfl | rfl | rfl | rfl | rfl | rfl | rfl<;>simp only [List.mem_cons,List.not_mem_nil,or_false] at g<;>first | exact g.elim | (rcases g with rfl | rfl | rfl | rfl<;>assumption) | (rcases g with rfl | rfl<;>assumption))
 have i:=aO6 (s:=s) k m;have j:=aO6 (s:=t) k m;have A:=Pl.cond_big e i;have B:=Pl.cond_big f j;have C:=(Pl.told_len e i).1;have D:=(Pl.told_len f j).1;have r:Pl.toldT s a b=Pl.OF (Pl.valK s a b):=by unfold Pl.toldT;rw [if_pos i]
 have u:Pl.toldT t a b=Pl.OF (Pl.valK t a b):=by unfold Pl.toldT;rw [if_pos j]
 rw [Pl.sesT_eq (ov:=false) _ _ AW z (by
  rw [Pl.red_conds d h s t e f a b];intro p c;simp only [List.mem_append] at c
  rcases c with c | c | c | c | c | c | c | c<;>first | exact A p c | exact B p c),Pl.red_ses d h s t e f a b,<-r,<-u]
 rw [<- r] at C;rw [<- u] at D;unfold Pl.redO;rw [Pl.short_cut (l:=Pl.toldT s a b) (by omega),Pl.short_cut (l:=Pl.toldT t a b) (by omega),Pl.short_cut (l:=Pl.redP _ _) (by unfold Pl.redP;simp only [c_,a_,z_];omega),<-v,<-w];simp only [redB,List.map_cons,List.map_nil,poB,ByteArray.data_append,Array.toList_append,List.append_assoc];rfl
theorem aP8(w:World)(c d x y:Int)(B:Bool)(hc : -9223372036854775808<=c/\c<=9223372036854775807)(hd : -9223372036854775808<=d/\d<=9223372036854775807)(hx : -9223372036854775808<=x/\x<=9223372036854775807)(hy : -9223372036854775808<=y/\y<=9223372036854775807)(h:Low w) :Calls prog 12 #[.int .i64 c,.int .i64 d,.int .i64 x,.int .i64 y,.bool B] w fun e j=>e=.returned (.bool true)/\Below w.heap.size w j:=by
 have J:=aOX c 5 (by decide);have hn:=aOX d 5 (by decide);have O:=aOX x 1000 (by decide);have P:=aOX y 1000 (by decide);obtain⟨k,S⟩:∃a,Hid (a=aOY c 5):=⟨_,rfl⟩
 obtain⟨n,T⟩:∃a,Hid (a=aOY d 5):=⟨_,rfl⟩
 obtain⟨a,U⟩:∃a,Hid (a=aOY x 1000):=⟨_,rfl⟩
 obtain⟨b,V⟩:∃a,Hid (a=aOY y 1000):=⟨_,rfl⟩
 rw [<- S.out] at J;rw [<- T.out] at hn;rw [<- U.out] at O;rw [<- V.out] at P;obtain⟨sk,W,zk⟩:∃s:ByteArray,Hid (s=⟨#[sgB k]⟩)/\s.size=1:=⟨_,rfl,rfl⟩
 obtain⟨sn,X,zn⟩:∃s:ByteArray,Hid (s=⟨#[sgB n]⟩)/\s.size=1:=⟨_,rfl,rfl⟩
 have mk:∀n:Int,0<=n/\n<1000->∃s:ByteArray,Hid (s=⟨(Pl.itoa n).toArray⟩)/\s.size<=14:=fun n K=>⟨_,rfl,by
  show(Pl.itoa n).toArray.size<=14;rw [List.size_toArray]
  exact Pl.itoa_len (by unfold Pl.CG;omega)⟩
 obtain⟨sa,Y,za⟩:=mk a O;obtain⟨sb,Z,zb⟩:=mk b P
 have mt:∀k:Int,∃s:ByteArray,Hid (s=⟨(Pl.toldT (sgB k) a b).toArray⟩)/\s.size<=14:=fun k=>⟨_,rfl,by
  show(Pl.toldT (sgB k) a b).toArray.size<=14;have K:=aO6 (s:=sgB k) O P;rw [List.size_toArray];unfold Pl.toldT;rw [if_pos K]
  exact(Pl.told_len (aQG k) K).1⟩
 obtain⟨sf,aa,zf⟩:=mt k;obtain⟨st,ab,zt⟩:=mt n;clear mk mt;have F:=(show Hid (sk.data.toList=[sgB k]/\sn.data.toList=[sgB n]/\sa.data.toList=Pl.itoa a/\sb.data.toList=Pl.itoa b) from⟨by rw [W.out],by rw [X.out],by rw [Y.out],by rw [Z.out]⟩)
 have HO:Hid (∀C,(C=Pl.wdD\/C=Pl.wdS)->(Pl.AF AW ((Pl.redS C (sgB k) (sgB n) a b).map Pl.segI)).2=(redB sf st).map poB):=fun C Q=>red_os Q (aQG k) (aQG n) O P (by rw [aa.out]) (by rw [ab.out]);have HP:Hid (∀(v r m:Int)(w:World),Hid (r=aOY v m)->0<m->(-9223372036854775808<=v/\v<=9223372036854775807)->Calls prog 27 #[.int .i64 v,.int .i64 m] w fun e j=>e=.returned (.int .i64 r)/\w=j):=fun v r m w hr hm hv=>by rw [hr.out];exact aPG w v m hm hv
 have HG:Hid (∀(k:Int)(s:ByteArray)(w:World),Hid (s=⟨#[sgB k]⟩)->0<=k/\k<5->Calls prog 36 #[.int .i64 k] w fun e j=>e=.returned (.string s)/\w=j):=fun k s w hs J=>by rw [hs.out];exact p_sign w k J
 have HA:=h_ (aNL w h);have HQ:Hid (∀f,Below w.heap.size w f->Calls prog 32 #[] f fun e j=>e=.returned (.bool true)/\Hid (Below w.heap.size w j)):=fun f q=>(aNJ f (h.below q)).mono (fun e j ⟨D,A⟩=>⟨D,q.trans (A.mono q.size)⟩);have HT:Hid (∀(n:Int)(s:ByteArray)(f:World),Hid (s=⟨(Pl.itoa n).toArray⟩)->0<=n/\n<1000->Below w.heap.size w f->Calls prog 34 #[.int .i64 n] f fun e j=>e=.returned (.string s)/\Hid (Below w.heap.size w j)):=fun n s f hs hn q=>(wE n f (by omega) (h.below q).B3).mono (fun e j ⟨D,A,_⟩=>⟨by rw [hs.out];exact D,q.trans (A.mono q.size)⟩);have HI:Hid (∀(f:World)(s:ByteArray),Below w.heap.size w f->Calls prog 35 #[.string s] f fun e j=>e=.returned (.agg #[.string s,.int .i64 2000])/\Hid (Below w.heap.size w j)):=fun f s q=>(aRC f s).mono (fun e j ⟨D,A⟩=>⟨D,q.trans (A.mono q.size)⟩);have L:=h_ h;have M:Hid (∀(k:Int)(t:ByteArray)(p f:World),Hid (t=⟨(Pl.toldT (sgB k) a b).toArray⟩)->0<=k/\k<5->KpB w p f->Calls prog 37 #[.int .i64 k,.int .i64 a,.int .i64 b] f fun e j=>e=.returned (.string t)/\Hid (KpB w p j)):=fun k t p f ht J q=>(aQ9 f k a b J (by omega) (by omega) (h.below q.1).B3).mono (fun e j ⟨D,A⟩=>⟨by rw [ht.out];exact D,q.go A⟩);have HE:Hid (∀(p f:World)(g:Nat)(o t:ByteArray),g<p.heap.size->KpB w p f->Calls prog 39 #[.agg #[.int .i64 0,.string o,.string t],.string t,.string o] f fun e j=>e=.returned (.bool true)/\(∀k,j.cell? ⟨g,k,none⟩=p.cell? ⟨g,k,none⟩)/\Hid (KpB w p j)):=fun p f g o t H q=>(aAT f 0 _ _ _ _).mono (fun e j ⟨D,A⟩=>⟨by rw [D];simp,(q.go A).cell H,q.go A⟩);clear h;obtain⟨C,Q⟩:∃C,B=false/\C=Pl.wdD\/B=true/\C=Pl.wdS:=by cases B;exact⟨_,.inl ⟨rfl,rfl⟩⟩;exact⟨_,.inr ⟨rfl,rfl⟩⟩
 have I:=HO.out C (by rcases Q with⟨_,h⟩ | ⟨_,h⟩;exact .inl h;exact .inr h);have H4:Hid _:=aP7 (w:=w) L I (n:=13) rfl (by decide) (by decide)
 have H5:=(show Hid _ from aP9 (w:=w) L I (fun o I=>by
  simp only [redB,List.map_cons,List.map_nil,List.mem_cons,List.not_mem_nil,or_false] at I
  rcases I with rfl | rfl | rfl | rfl | rfl | rfl | rfl | rfl | rfl | rfl | rfl | rfl | rfl<;>simp [poB]) (n:=13) rfl (by decide) (by decide))
 clear I HO;rcases Q with⟨rfl,rfl⟩ | ⟨rfl,rfl⟩
 all_goals
  go_enter func12,ntmps12
  go_upto_region 12 with(first
   | (go_at_call 26;refine Calls.mono HA ?_;rintro e f ⟨rfl,G⟩)
   | (go_at_call 32;refine Calls.mono (HQ _ G) ?_;rintro e f ⟨rfl,G⟩)
   | (go_at_call 27;refine Calls.mono (HP _ _ _ _ (by assumption) (by decide) (by assumption)) ?_;rintro e w2 ⟨rfl,rfl⟩)
   | (go_at_call 34;refine Calls.mono (HT _ _ _ (by assumption) (by assumption) G) ?_;rintro e f ⟨rfl,G⟩)
   | (go_at_call 36;refine Calls.mono (HG _ _ _ (by assumption) (by assumption)) ?_;rintro e w2 ⟨rfl,rfl⟩)
   | (go_at_call 35;refine(HI _ _ G).mono ?_;rintro e f ⟨rfl,G⟩))
 all_goals (try (exfalso;omega))
 all_goals
  clear HA HQ HI HG HT
  go_upto_region 19 with(first
   | (go_at_call 19;refine Calls.mono (H4 _ _ G rfl (by obtain⟨ek,en,ea,eb⟩:=F.out;simp only [aO2,List.map_cons,List.map_nil,B5,ByteArray.data_append,Array.toList_append,ek,en,ea,eb,List.append_assoc,Pl.redS,Pl.segI,Pl.segT];try rfl)) ?_;rintro e w4 ⟨g,bk,rfl,bl,E⟩)
   | (go_at_call 28;refine Calls.mono (H5 _ _ _ _ ⟨E.1,E.2.1,E.2.2⟩ (by obtain⟨ek,en,ea,eb⟩:=F.out;simp only [aO2,List.map_cons,List.map_nil,B5,ByteArray.data_append,Array.toList_append,ek,en,ea,eb,List.append_assoc,Pl.redS,Pl.segI,Pl.segT];try rfl)) ?_;rintro e p ⟨R,bj,rfl,bm,u⟩;have HK:Hid (KpB w p p):=⟨u.1,r_⟩)
   | (go_at_call 27;refine Calls.mono (HP _ _ _ _ (by assumption) (by decide) (by assumption)) ?_;rintro e w2 ⟨rfl,rfl⟩)
   | (go_at_call 37;refine Calls.mono (M _ _ p _ (by assumption) (by assumption) HK) ?_;rintro e w6 ⟨rfl,HK⟩))
  clear H4 H5 M E F
  have H:g<p.heap.size/\R<p.heap.size:=by
   obtain⟨_,e,K,_⟩:=u.2.1.get (k:=0) rfl;obtain⟨_,e',h2,_⟩:=u.2.2.get (k:=0) rfl;obtain rfl:g=_:=by simpa using e
   obtain rfl:R=_:=by simpa using e'
   exact⟨K,h2⟩
  obtain⟨H,N⟩:=H;have ac:=h_ (aO8 u.2.1);have ad:=h_ (aO8 u.2.2);clear u
  go_loopw [24] (fun i wr=>∃k:Nat,k<=2/\i=.int .i64 k/\Hid (KpB w p wr)) (fun i _=>2-(RowKit.intOf i).toNat)
  case atStart=>exact⟨0,Nat.zero_le _,rfl,HK⟩
  case round =>
   obtain⟨k',bn,rfl,l⟩:=hrel;rcases(show k'=0\/k'=1\/k'=2 from by omega) with rfl | rfl | rfl
   ·have z:=ac.out;simp only [aO3,redB,noB,Nat.zero_add,Nat.reduceAdd,and_true] at z;obtain⟨z0,z1,z2,z3,z4,z5,z6,z7,z8,z9,ae,af,ag,ah,ai,aj,ak,al,am,an,ao,ap,aq,ar,au,av,aw,ax,ay,az,ba,bb,bc,bd,be,bf,bg,bh,bi⟩:=z;have hq:∀k,wr.cell? ⟨g,k,none⟩=p.cell? ⟨g,k,none⟩:=l.cell H;go_wp2_with (go_at_call 39;refine Calls.mono (HE _ _ _ _ _ H l) ?_;rintro e w6 ⟨rfl,hq,l⟩)
    go_roundw
    case rel=>exact⟨1,by decide,by go_num,l⟩
    case measure=>simp [RowKit.intOf]
   ·have z:=ad.out;simp only [aO3,redB,noB,Nat.zero_add,Nat.reduceAdd,and_true] at z;obtain⟨z0,z1,z2,z3,z4,z5,z6,z7,z8,z9,ae,af,ag,ah,ai,aj,ak,al,am,an,ao,ap,aq,ar,au,av,aw,ax,ay,az,ba,bb,bc,bd,be,bf,bg,bh,bi⟩:=z;have hq:∀k,wr.cell? ⟨R,k,none⟩=p.cell? ⟨R,k,none⟩:=l.cell N;go_wp2_with (go_at_call 39;refine Calls.mono (HE _ _ _ _ _ N l) ?_;rintro e w6 ⟨rfl,hq,l⟩)
    go_roundw
    case rel=>exact⟨2,by decide,by go_num,l⟩
    case measure=>simp [RowKit.intOf]
   ·go_wp2_with fail
    go_ret;exact⟨rfl,l.1⟩
end
section
open Go.ChangeShapes Go.WideShapes Go.ChangeAt Go.RowKit Go.Deep
section
variable {H:Type} {enc:TypeId×Value->H} {P:Program} {w:World} {base:Nat} {spare:Nat->Bool} {held:Bool}
theorem aPI{t t' t'' t3 t4:TypeId}{args:Array Value}{E:List (DataW H)}{ps:List MemPlace}(h:DataW.TrodAll enc P w base spare held [t,t',t'',t3,t4] args.toList E ps) :∃v l b m n d o c r s p u e x y,args=#[v,l,b,m,n]/\E=[d,o,c,r,s]/\ps=p++u++e++x++y/\DataW.Trod enc P w base spare held t v d p/\DataW.Trod enc P w base spare held t' l o u/\DataW.Trod enc P w base spare held t'' b c e/\DataW.Trod enc P w base spare held t3 m r x/\DataW.Trod enc P w base spare held t4 n s y:=by obtain⟨v,R,d,I,p,q,z,rfl,rfl,J,j⟩:=trodAll_cons h;obtain⟨l,K,o,F,u,S,rfl,rfl,rfl,A,f⟩:=trodAll_cons j;obtain⟨b,G,c,B,e,L,rfl,rfl,rfl,k,a⟩:=trodAll_cons f;obtain⟨m,M,r,N,x,T,rfl,rfl,rfl,C,g⟩:=trodAll_cons a;obtain⟨n,O,s,Q,y,U,rfl,rfl,rfl,D,i⟩:=trodAll_cons g;obtain⟨rfl,rfl,rfl⟩:=trodAll_nil i;exact⟨v,l,b,m,n,d,o,c,r,s,p,u,e,x,y,by cases args;simp_all,rfl,by simp,J,A,k,C,D⟩
end
theorem aO4(os:Os)(c:os.Started)(H:Type)(enc:TypeId×Value->H)(F:Stop.Interp) :ReturnsInLeavingWide {calm:=true} checked os 12 .any (fun w b=>(Rows.redefinedSpec.pre enc prog Tryz.f12 [] false w b/\laidMetH prog Rows.redefinedRow.laid w)/\sizedMet enc prog Tryz.f12 (OpenSpec.ofChange Rows.redefinedSpec) false w b)
   ((OpenSpec.ofChange Rows.redefinedSpec).postWith enc prog Tryz.f12 F (outsideKept [.timePasses]) false true false):=by
 refine dV (C:=checked) (X:=fun w _=>laidMetH prog Rows.redefinedRow.laid w) (fun _ _ _ z h=>h.of_heap z) Tryz.own c (by kernel_rfl) func12
  (mI (enc:=enc) (C:=checked) (os:=os) (X:=fun w _=>laidMetH prog Rows.redefinedRow.laid w) (World.doorLaid prog 86 os) #[.int .i64 0,.int .i64 0,.int .i64 0,.int .i64 0,.bool false] 8 rfl (World.shaped_of_RefB (by kernel_rfl) (by kernel_rfl)) (by kernel_rfl) (by kernel_rfl) (by kernel_rfl) (aAK os _)) ?_
 intro W f b A gs o r d s _ B D;have a:∀(j:Nat) t v,Tryz.f12.params[j]?=some t->b[j]?=some v->Value.okWide prog W .any f t v:=d;have g:=s;obtain⟨p,q,i,E,rfl,G,I⟩:=s;have u:DataW.TrodAll enc prog W 0 (fun _=>true) true Tryz.f12.params.toList b.toList A p:=i;rw [params12] at u a B;obtain⟨J,K,L,M,N,d0,d1,d2,d3,d4,p0,p1,p2,p3,p4,rfl,rfl,rfl,O,P,Q,R,S⟩:=aPI u;obtain⟨rfl,rfl⟩:=trodVars_none E;obtain⟨T,rfl,rfl,rfl,k⟩:=open_int underlying3 (a 0 3 J rfl rfl) O;obtain⟨U,rfl,rfl,rfl,l⟩:=open_int underlying3 (a 1 3 K rfl rfl) P;obtain⟨V,rfl,rfl,rfl,m⟩:=open_int underlying3 (a 2 3 L rfl rfl) Q;obtain⟨Y,rfl,rfl,rfl,n⟩:=open_int underlying3 (a 3 3 M rfl rfl) R;obtain⟨x,rfl,rfl,rfl⟩:=open_bool underlying4 (a 4 4 N rfl rfl) S;clear i d;simp only [List.append_nil] at g;refine(aP8 W T U V Y x (kA k) (kA l) (kA m) (kA n) (PJ r D)).mono fun e W' ⟨Z,y⟩=>?_;subst Z;refine⟨_,rfl,⟨_,_,_,[],[],[],g,?_,?_,?_,y.frame _,fun h=>by cases h⟩,y.os⟩
 ·exact trodAll_mk1 (shut_bool underlying4 true)
 ·exact⟨[],[],shut_int underlying3 k,trodAll_mk4 (shut_int underlying3 l) (shut_int underlying3 m) (shut_int underlying3 n) (shut_bool underlying4 x),rfl⟩
 ·rfl
theorem aO7:Rows.RedefinedSaid :=
 OpenClaim.holds_of_wide_leaving_time 12 Tryz.f12 rfl rfl rfl rfl rfl rfl rfl ⟨rfl,rfl,rfl,rfl,rfl⟩ rfl rfl rfl rfl rfl (by kernel_rfl) func12 aO5
  (of_decide_eq_true (by kernel_rfl)) (by unfold Func.isWrapper;rw [if_neg (of_decide_eq_false (by kernel_rfl))];exact⟨rfl,rfl⟩)
  (fun b a H enc _ F=>aO4 b a H enc F)
end
end Go.Proofs.YtkgbdddkcjpgfaaGreatDoor
