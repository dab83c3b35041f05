import Derived.Test.YtkgbdddkcjpgfaaGreatDoorQ51
import Derived.Test.YtkgbdddkcjpgfaaGreatDoorQ52
namespace Go.Proofs.YtkgbdddkcjpgfaaGreatDoor
set_option maxHeartbeats 4000000
set_option maxRecDepth 100000
open Pl (PW AE PO)
section
theorem aLS:∀(l:List (AE×Int)) (W:PW) (j:Nat) (o:PO),(∀i,i<=j->∀p,(Pl.AF W l).2[i]?=some p->p.code≠7)->(Pl.AF W l).2[j]?=some o->(Pl.fses (W,false) l).2[j]?=some o
 | [],_,_,_,_,h=>by simp [Pl.AF] at h
 | i::r,W,j,o,a,h=>by
  have b:(Pl.answer W i).2.code≠7:=a 0 (Nat.zero_le _) _ rfl;have e:Pl.fans (W,false) i=(((Pl.answer W i).1,false),(Pl.answer W i).2):=by unfold Pl.fans;rw [if_neg (by simp),decide_eq_false b]
  simp only [Pl.fses,e]
  cases j with
  | zero=>exact h
  | succ j =>rw [List.getElem?_cons_succ];refine aLS r _ j o (fun c f p d=>?_) h;exact a (c+1) (by omega) p d
end
section
open Go.RowKit
variable {w:World} {n:Nat}
theorem KB.row{v:Value}{l:List PO}(h:KB w v l)(c:l.length=n):∃b a,v=.slice b n a/\n<=a:=by obtain⟨b,a,e,d,_⟩:=h;subst c;exact⟨b,a,e,d⟩
theorem F8.row{v:Value}{l:List (ByteArray×Int)}(h:F8 w v l)(c:l.length=n):∃b a,v=.slice b n a/\n<=a:=by obtain⟨b,a,e,d,_⟩:=h;subst c;exact⟨b,a,e,d⟩
theorem KB.get{a:Option Addr}{cap:Nat}{l:List PO}(h:KB w (.slice a n cap) l){k:Nat}{o:PO}(c:l[k]?=some o):∃g,a=some ⟨g,0,none⟩/\g<w.heap.size/\w.cell? ⟨g,k*3,none⟩=some (.int .i64 (o.code:Int))/\w.cell? ⟨g,k*3+1,none⟩=some (.string ⟨o.out.toArray⟩)/\w.cell? ⟨g,k*3+2,none⟩=some (.string ⟨o.val.toArray⟩):=by obtain⟨d,b,e,i,f⟩:=h;simp only [Value.slice.injEq] at e;obtain⟨rfl,_,_⟩:=e;exact f k o c
end
open Go.Proofs.Tryz
open Pl (AW)
section
open Go.RowKit Go.Lib Go.Maps
theorem p_twins(w:World)(v:Value)(ins:List (ByteArray×Int))(W:JF w v ins)(y:ins.length*24<=140737488351232)(h:Low w) :Calls prog 10 #[v] w fun e d=>e=.returned (.bool true)/\Below w.heap.size w d:=by
 have x:(aGR ins).length<=GK:=by unfold aGR GK;rw [List.length_map];omega
 have z:=aMR w v ins W y;generalize aGR ins=f at *;obtain⟨n,E⟩:∃n,f.length=n:=⟨_,rfl⟩
 have F:(Pl.AF AW (f.map B5)).2.length=n:=by rw [Pl.PP,List.length_map,E]
 have C:(Pl.fses (AW,false) (f.map B5)).2.length=n:=by rw [Pl.fses_len,List.length_map,E]
 have N:=h_ (aLS (f.map B5) AW)
 have X:Hid (Calls prog 31 #[v] w fun e d=>∃q a,e=.returned (.slice q n a)/\Hid (Below w.heap.size w d/\F8 d (.slice q n a) f)):=z.mono (fun e d ⟨j,l,u,O⟩=>by
  have Y:=vK O;obtain⟨q,a,rfl,_⟩:=Y.row E
  exact⟨q,a,l,u,Y⟩)
 have Z:Hid (∀b j,Below w.heap.size w b/\F8 b j f->Calls prog 26 #[] b fun e d=>e=.returned (.bool true)/\Hid (Below w.heap.size w d/\F8 d j f)):=fun b j ⟨l,u⟩=>(aNL b (h.below l)).mono (fun e d ⟨D,t⟩=>⟨D,l.trans (t.mono l.size),u.below t⟩);have H3:Hid (∀b j,Below w.heap.size w b/\F8 b j f->Calls prog 32 #[] b fun e d=>e=.returned (.bool true)/\Hid (Below w.heap.size w d/\F8 d j f)):=fun b j ⟨l,u⟩=>(aNJ b (h.below l)).mono (fun e d ⟨D,t⟩=>⟨D,l.trans (t.mono l.size),u.below t⟩)
 have P:Hid (∀b j,Below w.heap.size w b/\F8 b j f->Calls prog 19 #[j] b fun e d=>∃q a,e=.returned (.slice q n a)/\n<=a/\Hid (Below w.heap.size w d/\F8 d j f/\KB d (.slice q n a) (Pl.AF AW (f.map B5)).2)):=fun b j ⟨l,u⟩=>(j0 b j f u x (h.below l)).mono (fun e d ⟨r,D,t,G⟩=>by
  obtain⟨q,a,rfl,Q⟩:=G.row F
  exact⟨q,a,D,Q,l.trans (t.mono l.size),u.below t,G⟩)
 have M:Hid (∀b j R,Below w.heap.size w b/\F8 b j f/\KB b R (Pl.AF AW (f.map B5)).2->Calls prog 28 #[j] b fun e d=>∃q a,e=.returned (.slice q n a)/\n<=a/\Hid (Below w.heap.size w d/\KB d R (Pl.AF AW (f.map B5)).2/\KB d (.slice q n a) (Pl.fses (AW,false) (f.map B5)).2)):=fun b j R ⟨l,u,O⟩=>(aK8 b j f u x (h.below l)).mono (fun e d ⟨r,D,t,G⟩=>by
  obtain⟨q,a,rfl,Q⟩:=G.row C
  exact⟨q,a,D,Q,l.trans (t.mono l.size),O.below t,G⟩)
 obtain⟨A,hA⟩:∃A,A=(Pl.AF AW (f.map B5)).2:=⟨_,rfl⟩
 obtain⟨B,hB⟩:∃B,B=(Pl.fses (AW,false) (f.map B5)).2:=⟨_,rfl⟩
 rw [<- hA] at N P M F;rw [<- hB] at N M C;have ae:n<=5870000000000:=by rw [<- E];exact x
 obtain⟨q,a,rfl,_,_⟩:=W;clear x h hA hB z y E C;go_enter func10,ntmps10
 go_wp2_with (first
  | (go_at_call 31;refine Calls.mono X ?_;rintro e b ⟨af,aa,rfl,H⟩)
  | (go_at_call 26;refine Calls.mono (Z _ _ H) ?_;rintro e w2 ⟨rfl,I⟩)
  | (go_at_call 32;refine Calls.mono (H3 _ _ I) ?_;rintro e w3 ⟨rfl,J⟩)
  | (go_at_call 19;refine Calls.mono (P _ _ J) ?_;rintro e w4 ⟨ag,ab,rfl,ah,K⟩)
  | (go_at_call 28;refine Calls.mono (M _ _ _ K) ?_;rintro e S ⟨ai,ac,rfl,aj,s⟩))
 clear X Z H3 P M H I J K
 go_loopw [7] (fun i wr=>∃(k m:Nat),k<=n/\i=.int .i64 k/\wr=S.drewN m/\Hid (∀i,i<k->∀p,A[i]?=some p->p.code≠7)) (fun i _=>n-(RowKit.intOf i).toNat)
 case atStart=>exact⟨0,0,Nat.zero_le _,rfl,rfl,fun i T=>absurd T (Nat.not_lt_zero _)⟩
 case round =>
  obtain⟨k,m,hk,rfl,rfl,HN⟩:=hrel;by_cases ak:k<n
  ·obtain⟨o,L⟩:∃o,A[k]?=some o:=⟨A[k],g_ (by omega)⟩
   obtain⟨g,rfl,hg,a0,a1,a2⟩:=s.2.1.get L;have ad:(k:Int)<(n:Int):=by omega
   by_cases h7:o.code=7
   ·have e7:(o.code:Int)=7:=by omega
    rw [e7] at a0;clear L;go_wp2_with fail;go_ret;exact⟨rfl,s.1.trans ((U2 S _).mono s.1.size)⟩
   ·have U:∀i,i<=k->∀p,A[i]?=some p->p.code≠7:=fun i T p z=>by
     rcases Nat.lt_or_ge i k with h | h
     ·exact HN.out i h p z
     ·obtain rfl:i=k:=by omega
      rw [L] at z;obtain rfl:=i_ z;exact h7
    obtain⟨g',rfl,al,b0,b1,b2⟩:=s.2.2.get (N k o U L);have V:Hid (∀i,i<k+1->∀p,A[i]?=some p->p.code≠7):=fun i T p z=>U i (by omega) p z;have e7:((o.code:Int)==7)=false:=by simp;omega
    obtain⟨c,am,an⟩:=o;dsimp only at *;clear L U HN h7;go_wp2_with fail;first | go_quiet (fail) | skip
    go_wp2_with fail
    go_roundw
    case rel=>exact⟨k+1,_,by omega,by go_num,rfl,V⟩
    case measure=>simp [RowKit.intOf];omega
  ·obtain rfl:k=n:=by omega
   go_wp2_with fail
   go_ret;exact⟨rfl,s.1.trans ((U2 S _).mono s.1.size)⟩
end
section
open Go.ChangeShapes Go.WideShapes Go.ChangeAt Go.RowKit Go.Deep
theorem aIW(os:Os)(b:os.Started)(H:Type)(enc:TypeId×Value->H)(F:Stop.Interp) :ReturnsInLeavingWide {calm:=true} checked os 10 .any (fun w a=>(Rows.twinsSpec.pre enc prog Tryz.f10 [] false w a/\laidMetH prog Rows.twinsRow.laid w)/\sizedMet enc prog Tryz.f10 (OpenSpec.ofChange Rows.twinsSpec) false w a)
   ((OpenSpec.ofChange Rows.twinsSpec).postWith enc prog Tryz.f10 F (outsideKept [.timePasses]) false true false):=by
 refine dV (C:=checked) (X:=fun w _=>laidMetH prog Rows.twinsRow.laid w) (fun _ _ _ A h=>h.of_heap A) Tryz.own b (by kernel_rfl) func10
  (mI (enc:=enc) (C:=checked) (os:=os) (X:=fun w _=>laidMetH prog Rows.twinsRow.laid w) (World.doorLaid prog 86 os) #[.slice none 0 0] 8 rfl (World.shaped_of_RefB (by kernel_rfl) (by kernel_rfl)) (by kernel_rfl) (by kernel_rfl) (by kernel_rfl) (aAK os _)) ?_
 intro W f a B M k l c s _ u D;have d:∀(j:Nat) t v,Tryz.f10.params[j]?=some t->a[j]?=some v->Value.okWide prog W .any f t v:=c;have g:=s;obtain⟨p,q,i,E,rfl,G,I⟩:=s;have m:DataW.TrodAll enc prog W 0 (fun _=>true) true Tryz.f10.params.toList a.toList B p:=i;rw [params10] at m d u;obtain⟨y,N,rfl,rfl,z⟩:=trodAll_one m;obtain⟨rfl,rfl⟩:=trodVars_none E;have n:∀x∈p,x.block<W.heap.size:=DataW.TrodAll.lt m;obtain⟨o,J,K⟩:=qA (d 0 26 y rfl rfl) z;clear i c;simp only [List.append_nil] at g;refine(p_twins W y o (aN5 J) (vN u K) (PJ l D)).mono fun e O ⟨L,r⟩=>?_;subst L;refine⟨_,rfl,⟨_,_,_,[],p,[],g,?_,?_,?_,r.frame _,fun h=>by cases h⟩,r.os⟩
 ·exact trodAll_mk1 (shut_bool underlying4 true)
 ·exact trodAll_mk1 (tX z n r)
 ·rfl
theorem aJB:Rows.TwinsSaid :=
 OpenClaim.holds_of_wide_leaving_time 10 Tryz.f10 rfl rfl rfl rfl rfl rfl rfl ⟨rfl,rfl,rfl,rfl,rfl⟩ rfl rfl rfl rfl rfl (by kernel_rfl) func10 aIX
  (of_decide_eq_true (by kernel_rfl)) (by unfold Func.isWrapper;rw [if_neg (of_decide_eq_false (by kernel_rfl))];exact⟨rfl,rfl⟩)
  (fun b a H enc _ F=>aIW b a H enc F)
end
open Pl (PW AE)
section
def aNM(o:AE×Int):Nat:=if Pl.over o.2 then 6 else Pl.check o.1
theorem bad_ans{o:AE×Int}(h:Pl.over o.2=true\/Pl.check o.1≠0)(W:PW):Pl.answer W o=(W,⟨aNM o,[],[]⟩):=by
 unfold Pl.answer aNM;by_cases a:Pl.over o.2=true
 ·rw [if_pos a,if_pos a]
 ·rw [if_neg a,if_neg a];have b:=h.resolve_left a;rw [if_pos b]
theorem aN4{o:AE×Int}(h:Pl.over o.2=true\/Pl.check o.1≠0)(X:PW×Bool):Pl.fans X o=(X,⟨aNM o,[],[]⟩):=by
 obtain⟨b,n⟩:=o;unfold aNM;by_cases a:Pl.over n=true
 ·rw [if_pos a];exact Pl.fans_over a
 ·rw [if_neg a];exact Pl.fans_check (by simpa using a) (h.resolve_left a)
theorem bad_pos{o:AE×Int}(h:Pl.over o.2=true\/Pl.check o.1≠0):aNM o≠0:=by
 unfold aNM;by_cases a:Pl.over o.2=true
 ·rw [if_pos a];decide
 ·rw [if_neg a];exact h.resolve_left a
theorem aNC:∀(l m:List (AE×Int)) (W:PW),Pl.AF W (l++m)=((Pl.AF (Pl.AF W l).1 m).1,(Pl.AF W l).2++(Pl.AF (Pl.AF W l).1 m).2)
 | [],_,_=>rfl
 | x::l,m,W=>by simp only [List.cons_append,Pl.AF,aNC l]
structure PutAt{α:Type}(A B:List α)(k:Nat)(x:α):Prop where
 at_:B[k]?=some x
 lo:∀i y,i<k->A[i]?=some y->B[i]?=some y
 hi:∀i y,k<=i->A[i]?=some y->B[i+1]?=some y
theorem aNG{α:Type}{a c:List α}{k:Nat}{x:α}(d:a.length=k):PutAt (a++c) (a++x::c) k x:=by
 subst d;refine⟨by rw [List.getElem?_append_right n_,Nat.sub_self];rfl,fun i y b h=>?_,fun i y b h=>?_⟩
 ·rw [List.getElem?_append_left b] at h ⊢;exact h
 ·rw [List.getElem?_append_right b] at h;rw [List.getElem?_append_right (by omega),show i+1-a.length=i-a.length+1 from by omega,List.getElem?_cons_succ];exact h
theorem bad_ses{o:AE×Int}(h:Pl.over o.2=true\/Pl.check o.1≠0)(a b:List (AE×Int))(W:PW):PutAt (Pl.AF W (a++b)).2 (Pl.AF W (a++o::b)).2 a.length ⟨aNM o,[],[]⟩:=by rw [aNC a b,aNC a (o::b)];simp only [Pl.AF,bad_ans h];exact aNG (Pl.PP _ _)
theorem aN3{o:AE×Int}(h:Pl.over o.2=true\/Pl.check o.1≠0)(a b:List (AE×Int))(X:PW×Bool):PutAt (Pl.fses X (a++b)).2 (Pl.fses X (a++o::b)).2 a.length ⟨aNM o,[],[]⟩:=by rw [Pl.fses_append a b,Pl.fses_append a (o::b)];simp only [Pl.fses,aN4 h];exact aNG (Pl.fses_len _ _)
end
open Go.Proofs.Tryz
open Pl (PO AW)
section
open Go.RowKit Go.Lib Go.Maps
theorem JF.below{w w':World}{v:Value}{l:List (ByteArray×Int)}(h:JF w v l)(a:Below w.heap.size w w'):JF w' v l:=by obtain⟨f,b,e,i,j⟩:=h;refine⟨f,b,e,i,fun k o m=>?_⟩;obtain⟨g,c,n,d,q,r⟩:=j k o m;exact⟨g,c,n,l_ d a.size,(a.cell (p:=⟨g,_,none⟩) d).trans q,(a.cell (p:=⟨g,_,none⟩) d).trans r⟩
structure Qs(w:World)(ob:ByteArray)(on:Int)(rv:Value)(ss:List (ByteArray×Int))(w1:World):Prop where
 below:Below w.heap.size w w1
 blk:w1.heap[w.heap.size]?=some (.cells #[.string ob,.int .i64 on] FG (0,0))
 row:w1.ownsRow (w.heap.size+1) FG 2 rv ss.length (ss.flatMap iL)
theorem Qs.later{w:World}{b:ByteArray}{on:Int}{rv:Value}{c:List (ByteArray×Int)}{w1 w2:World}(h:Qs w b on rv c w1)(a:Below w1.heap.size w1 w2):Qs w b on rv c w2 :=⟨h.below.trans (a.mono h.below.size),(a.block _ (aB h.blk)).trans h.blk,gA h.row (fun g e=>a.block g (h.row.lt g e).2)⟩
structure Four(w w':World)(ra rb rc rd:Value)(A B C D:List PO):Prop where
 below:Below w.heap.size w w'
 a:KB w' ra A
 b:KB w' rb B
 c:KB w' rc C
 d:KB w' rd D
def quB(k:Nat)(i:Nat):Nat:=if k<=i then i+1 else i
theorem PutAt.get{α:Type}{A B:List α}{k:Nat}{x:α}(h:PutAt A B k x){i:Nat}{y:α}(hi:A[i]?=some y):B[quB k i]?=some y:=by
 unfold quB;split
 ·exact h.hi i y (by assumption) hi
 ·exact h.lo i y (by omega) hi
def quS(ss:List (ByteArray×Int))(k:Nat)(o:ByteArray×Int):List (ByteArray×Int):=ss.take k++o::ss.drop k
theorem aNH(w:World)(v:Value)(ins:List (ByteArray×Int))(ae:Int)(E:ByteArray)(on:Int)(hS:JF w v ins)(af:ins.length*24<=140737488351232)(cw : -9223372036854775808<=ae/\ae<=9223372036854775807)(h:Low w)(ag:Pl.over on=true\/Pl.check E.data.toList≠0) :Calls prog 14 #[v,.int .i64 ae,.agg #[.string E,.int .i64 on]] w fun e s=>e=.returned (.bool true)/\Below w.heap.size w s:=by
 obtain⟨i0,ad,al,am,an⟩:=info_parts Tryz.YM;obtain⟨wq,ah⟩:∃wq,wq=w.alloc (.cells #[.string E,.int .i64 on] 41):=⟨_,rfl⟩
 have ap:Below w.heap.size w wq:=by rw [ah];exact b_
 have ba:wq.heap[w.heap.size]?=some (.cells #[.string E,.int .i64 on] FG (0,0)):=by rw [ah];exact heap_alloc_new _ _
 have bp:wq.heap.size=w.heap.size+1:=by rw [ah];simp
 have dr:(aGR ins).length*24<=140737488351232:=by unfold aGR;rw [List.length_map];exact af
 have hp:=aMR wq v ins (hS.below ap) af;generalize aGR ins=d at *;obtain⟨n,hn⟩:∃n,d.length=n:=⟨_,rfl⟩
 have H1:Hid (Calls prog 31 #[v] wq fun e s=>∃O l,e=.returned (.slice O n l)/\(n<=l/\((O=none/\n=0/\l=0)\/∃g,O=some ⟨g,0,none⟩))/\Hid (Qs w E on (.slice O n l) d s)):=hp.mono (fun e s ⟨rv,I,h2,h3⟩=>by
  have U:∀bb,rv=bb->Qs w E on bb d s:=fun bb e=>⟨ap.trans (h2.mono ap.size),(h2.block _ (aB ba)).trans ba,by rw [<- bp,<-e];exact h3⟩
  rcases h3.2 with⟨hv,h0⟩ | ⟨g,l,ds,hv,_,hg,hc,_⟩
  ·exact⟨none,0,by rw [I,hv];congr 2;omega,⟨by omega,.inl ⟨rfl,by omega,rfl⟩⟩,U _ (by rw [hv];congr 1;omega)⟩
  ·exact⟨some ⟨g,0,none⟩,l,by rw [I,hv];congr 2,⟨by omega,.inr ⟨g,rfl⟩⟩,U _ (by rw [hv];congr 1)⟩)
 have H2:Hid (∀f rv,Qs w E on rv d f->Calls prog 26 #[] f fun e s=>e=.returned (.bool true)/\Hid (Qs w E on rv d s)):=fun f rv U=>(aNL f (h.below U.below)).mono (fun e s ⟨V,F⟩=>⟨V,U.later F⟩);have H3:Hid (∀f rv,Qs w E on rv d f->Calls prog 32 #[] f fun e s=>e=.returned (.bool true)/\Hid (Qs w E on rv d s)):=fun f rv U=>(aNJ f (h.below U.below)).mono (fun e s ⟨V,F⟩=>⟨V,U.later F⟩);have H4:Hid (∀f rv,Qs w E on rv d f->Calls prog 15 #[.string E] f fun e s=>e=.returned (.int .i64 (Pl.check E.data.toList:Int))/\Hid (Qs w E on rv d s)):=fun f rv U=>(aNK E f (h.below U.below).ge (h.below U.below).gt).mono (fun e s ⟨V,F⟩=>⟨V,U.later F⟩);have P:=h_ h;have bq:∀w,Calls prog 27 #[.int .i64 ae,.int .i64 ((n:Int)+1)] w fun e s=>∃k:Nat,e=.returned (.int .i64 (k:Int))/\k<=n/\w=s:=fun w=>(p_pick w ae ((n:Int)+1) (by omega) cw (by omega)).mono (fun e s ⟨r,V,F,k3,k4⟩=>⟨r.toNat,by rw [V];congr 2;omega,by omega,k4⟩);have cx:=h_ bq;have bd:=(show Hid (Pl.over (B5 (E,on)).2=true\/Pl.check (B5 (E,on)).1≠0) from ag);obtain⟨dt,dp,rfl,_,_⟩:=hS;clear hp h bq ap ba bp af;rw [ah] at H1;clear ah;go_enter func14,ntmps14
 go_upto_region 4 with(first
  | (go_at_call 31;refine Calls.mono H1 ?_;rintro e f ⟨O,l,rfl,be,br⟩)
  | (go_at_call 26;refine Calls.mono (H2 _ _ br) ?_;rintro e w2 ⟨rfl,bs⟩)
  | (go_at_call 32;refine Calls.mono (H3 _ _ bs) ?_;rintro e w3 ⟨rfl,bf⟩))
 have c0:w3.cell? ⟨w.heap.size,0,none⟩=some (.string E):=aA bf.blk 0
 go_upto_region 7 with(go_at_call 15;refine Calls.mono (H4 _ _ bf) ?_;rintro e w4 ⟨rfl,K⟩)
 have c1:w4.cell? ⟨w.heap.size,1,none⟩=some (.int .i64 on):=aA K.blk 1;have bt:w4.cell? ⟨w.heap.size,0,none⟩=some (.string E):=aA K.blk 0
 have ay:∀c:Nat,c=Pl.check E.data.toList->(c=0/\(on<0\/1000000<on))\/c≠0:=fun c hc=>by
  rcases ag with h | h
  ·by_cases h0:c=0
   ·refine .inl ⟨h0,?_⟩;unfold Pl.over at h;simpa using h
   ·exact .inr h0
  ·exact .inr (by rw [hc];exact h)
 generalize bg:Pl.check E.data.toList=c at *;have du:IntKind.i64.wrap ((n:Int)+1)=(n:Int)+1:=IntWalk.i64_in _ (by omega);have HT:Hid True:=trivial;clear H1 H2 H3 H4 br bs bf;have bh:=ay c rfl;clear ay ag bg
 go_cut [43] (fun x wx=>x=.bool false/\wx=w4)
 case first =>
  rcases bh with⟨rfl,cy⟩ | hc
  ·rcases cy with h | h
   ·have bu:decide (on≥0)=false:=by simp;omega
    go_wp2_with fail
    go_meet
    exact⟨rfl,rfl⟩
   ·have bu:decide (on≥0)=true:=by simp;omega
    have dv:decide (on<=1000000)=false:=by simp;omega
    go_wp2_with fail
    go_meet
    exact⟨rfl,rfl⟩
  ·have bu:((c:Int)==0)=false:=by simp;omega
   go_wp2_with fail
   go_meet
   exact⟨rfl,rfl⟩
 case rest =>
  obtain⟨rfl,rfl⟩:=hcut
  go_upto_region 10 with(go_at_call 27;refine Calls.mono (cx _) ?_;rintro e w5 ⟨k,rfl,hk,rfl⟩)
  have aq:wc.ownsRow wc.heap.size FG 2 (.slice none 0 0) 0 []:=World.ownsRow_nil _ _ _ _;have bv:=K.below;have ar:=h_ bv;have cz:n<=l:=be.1;have bw:((d.take k).flatMap iL).length=k*2:=by rw [fG,List.length_take];omega
  have da:((d.drop k).flatMap iL).length=(n-k)*2:=by rw [fG,List.length_drop];omega
  have W:∀g,O=some ⟨g,0,none⟩->∀f,Below wc.heap.size wc f->∀j u,(d.flatMap iL)[j]?=some u->f.cell? (Addr.add ⟨g,0,none⟩ j)=some u:=fun g hg f hB j u hj=>by subst hg;have hr:=gA K.row (fun g' e=>hB.block g' (K.row.lt g' e).2);exact hr.cells (g:=g) rfl j u hj
  have bx:∀g,O=some ⟨g,0,none⟩->∀j u,((d.take k).flatMap iL)[j]?=some u->wc.cell? (Addr.add ⟨g,0,none⟩ j)=some u:=fun g hg j u hj=>W g hg wc r_ j u (by rw [<- List.take_append_drop k d,List.flatMap_append];exact bS (List.prefix_append _ _) hj);have bz:=h_ W;have ce:=h_ bx;have bi:=h_ be;clear W bx bv be;obtain⟨N,db⟩:∃x,x=wc:=⟨wc,rfl⟩
  subst db
  go_upto_region 11 with fail
  go_cut [11] (fun x wx=>∃ai Q,x=.slice ai k Q/\Hid (wx.ownsRow N.heap.size FG 2 (.slice ai k Q) k ((d.take k).flatMap iL)/\Below w.heap.size w wx/\Below N.heap.size N wx))
  case first =>
   rcases bi.out with⟨cf,⟨rfl,rfl,rfl⟩ | ⟨g,rfl⟩⟩
   ·obtain rfl:k=0:=by omega
    go_wp2_with (at_builtin;refine wpList_append_own_none rfl _ _ 26 rfl N.heap.size FG i0 2 underlying26 ad _ 0 [] rfl aq rfl ?_)
    go_meet
    exact⟨none,0,rfl,by simpa using aq,ar,r_⟩
   ·have dc:k<=l:=by omega
    go_wp2_with (at_builtin;refine wpList_append_own _ rfl _ _ 26 rfl N.heap.size FG i0 (.agg #[.string ⟨#[]⟩,.int .i64 0]) 2 24 underlying26 ad al am an rfl (by decide) _ 0 [] rfl aq ⟨g,0,none⟩ k l ((d.take k).flatMap iL) rfl bw (ce g rfl) (aG _) (by unfold maxLen;omega) (by omega) n_ ?_;intro v1 w5 t aa _;have dd:=own_first t aa ar;clear t aa)
    obtain⟨t,de,H,ai,Q,rfl⟩:=dd
    go_meet
    exact⟨ai,Q,rfl,t,de,H⟩
  case rest =>
   obtain⟨ai,Q,rfl,aj⟩:=hcut;obtain⟨w5,df⟩:∃x,x=wc:=⟨wc,rfl⟩
   subst df;obtain⟨t,cg,H⟩:=aj.out;have d0:w5.cell? ⟨w.heap.size,0,none⟩=some (.string E):=(H.cell (p:=⟨w.heap.size,0,none⟩) (aB K.blk)).trans bt;have d1:w5.cell? ⟨w.heap.size,1,none⟩=some (.int .i64 on):=(H.cell (p:=⟨w.heap.size,1,none⟩) (aB K.blk)).trans c1;have bj:=t.alloc (.cells #[.string E,.int .i64 on] FG);have ch:=H.size;unfold FG at bj
   go_upto_region 13 with(at_builtin;refine wpList_append_own _ rfl _ _ 26 rfl N.heap.size 41 i0 (.agg #[.string ⟨#[]⟩,.int .i64 0]) 2 24 underlying26 ad al am an rfl (by decide) _ k ((d.take k).flatMap iL) rfl bj ⟨w5.heap.size,0,none⟩ 1 1 [.string E,.int .i64 on] rfl rfl (newsI (heap_alloc_new w5 _)) (aG [(E,on)]) (by unfold maxLen;omega) (by omega) (by simp;omega) ?_;intro v2 w6 X L _)
   obtain⟨dg,ci,az,rfl⟩:=own_next cg ar.size t X L;have R:Below N.heap.size N w6:=(H.alloc ch _).grown L (by simp;omega) (fun j hj=>(t.lt j hj).1)
   have cj:∀g,O=some ⟨g,0,none⟩->∀j u,((d.drop k).flatMap iL)[j]?=some u->w6.cell? (Addr.add ⟨g,k*2,none⟩ j)=some u:=fun g hg j u hj=>by
    have:=bz.out g hg w6 R (k*2+j) u (by
     rw [<- List.take_append_drop k d,List.flatMap_append,List.getElem?_append_right (by omega),bw,Nat.add_sub_cancel_left]
     exact hj)
    rw [Addr.add_mid] at this ⊢;rw [Nat.zero_add] at this;exact this
   have ck:=h_ cj
   have ab:=(show Hid (∀(T:World)(v3:Value) ,T.ownsRow N.heap.size FG 2 v3 (k+1+(n-k)) (((d.take k).flatMap iL++[.string E,.int .i64 on])++(d.drop k).flatMap iL)->Below N.heap.size N T->∃q a,v3=.slice q (n+1) a/\Below w.heap.size w T/\F8 T (.slice O n l) d/\F8 T (.slice q (n+1) a) (quS d k (E,on))) from fun T v3 I h2=>by
    have e1:k+1+(n-k)=n+1:=by omega
    have e2:((d.take k).flatMap iL++[.string E,.int .i64 on])++(d.drop k).flatMap iL=(quS d k (E,on)).flatMap iL:=by unfold quS;rw [List.flatMap_append,List.flatMap_cons,List.append_assoc];rfl
    rw [e1,e2] at I;obtain⟨q,a,e3,_⟩:=cJ I;subst e3;have U:=K.later h2;have dh:(quS d k (E,on)).length=n+1:=by unfold quS;rw [a_,c_,List.length_take,List.length_drop];omega
    refine⟨q,a,rfl,U.below,vK U.row,vK (base:=N.heap.size) (by rw [dh];exact I)⟩)
   have Y:w6.ownsRow N.heap.size FG 2 (.slice ci (k+1) az) (k+1) ((d.take k).flatMap iL++[.string E,.int .i64 on]):=X;have cl:=R.size;clear t X L aq bj aj cg H ch cj d0 d1 ce bz
   go_cut [11] (fun x wx=>∃q a,x=.slice q (n+1) a/\Hid (Below w.heap.size w wx/\F8 wx (.slice O n l) d/\F8 wx (.slice q (n+1) a) (quS d k (E,on))))
   case first =>
    rcases bi.out with⟨cf,⟨rfl,rfl,rfl⟩ | ⟨g,rfl⟩⟩
    ·obtain rfl:k=0:=by omega
     go_wp2_with (at_builtin;refine wpList_append_own_none rfl _ _ 26 rfl N.heap.size FG i0 2 underlying26 ad _ _ _ rfl Y rfl ?_)
     go_meet
     obtain⟨q,a,q1,q2⟩:=ab.out w6 _ (by have e0:d=[]:=e_ hn;rw [e0];simpa [e0] using Y) R;exact⟨q,a,q1,q2⟩
    ·have dc:k<=l:=by omega
     have cm:Hid (∀(T:World)(v3:Value),w6.grownBy T (Value.slice ci (k+1) az).ownBlock->Below N.heap.size N T):=fun T v3 hg=>R.grown hg cl (fun j hj=>(Y.lt j hj).1);unfold FG at Y;by_cases bg:l=k
     ·subst bg;have di:(d.drop l).flatMap iL=[]:=by rw [List.drop_of_length_le (by omega)];rfl
      have dj:n-l=0:=by omega
      go_wp2_with (at_builtin;refine wpList_append_own _ rfl _ _ 26 rfl N.heap.size 41 i0 (.agg #[.string ⟨#[]⟩,.int .i64 0]) 2 24 underlying26 ad al am an rfl (by decide) _ (l+1) _ rfl Y ⟨g,0,none⟩ 0 0 [] rfl rfl (fun j u hj=>(by cases hj)) (fun u hu=>(by cases hu)) (by unfold maxLen;omega) (by omega) (by omega) ?_;intro v3 T Z M _)
      go_meet
      obtain⟨q,a,q1,q2⟩:=ab.out T v3 (by rw [di,dj];exact Z) (cm T v3 M);exact⟨q,a,q1,q2⟩
     ·go_wp2_with (at_builtin;refine wpList_append_own _ rfl _ _ 26 rfl N.heap.size 41 i0 (.agg #[.string ⟨#[]⟩,.int .i64 0]) 2 24 underlying26 ad al am an rfl (by decide) _ (k+1) _ rfl Y ⟨g,k*2,none⟩ (n-k) (l-k) ((d.drop k).flatMap iL) rfl da (ck g rfl) (aG _) (by unfold maxLen;omega) (by omega) (by omega) ?_;intro v3 T Z M _)
      go_meet
      obtain⟨q,a,q1,q2⟩:=ab.out T v3 Z (cm T v3 M);exact⟨q,a,q1,q2⟩
   case rest =>
    obtain⟨q,a,rfl,bk⟩:=hcut;obtain⟨w8,dk⟩:∃x,x=wc:=⟨wc,rfl⟩
    subst dk;obtain⟨G,ak⟩:∃G,G=quS d k (E,on):=⟨_,rfl⟩
    rw [<- ak] at bk;have cn:G.length=n+1:=by rw [ak];unfold quS;rw [a_,c_,List.length_take,List.length_drop];omega
    have au:Pl.over (B5 (E,on)).2=true\/Pl.check (B5 (E,on)).1≠0:=bd.out;have co:PutAt (Pl.AF AW (d.map B5)).2 (Pl.AF AW (G.map B5)).2 k ⟨aNM (B5 (E,on)),[],[]⟩:=by have:=bad_ses au ((d.take k).map B5) ((d.drop k).map B5) AW;rw [<- List.map_append,List.take_append_drop,<-List.map_cons,<-List.map_append,List.length_map,List.length_take,Nat.min_eq_left (by omega)] at this;rw [ak];exact this
    have cp:PutAt (Pl.fses (AW,false) (d.map B5)).2 (Pl.fses (AW,false) (G.map B5)).2 k ⟨aNM (B5 (E,on)),[],[]⟩:=by have:=aN3 au ((d.take k).map B5) ((d.drop k).map B5) (AW,false);rw [<- List.map_append,List.take_append_drop,<-List.map_cons,<-List.map_append,List.length_map,List.length_take,Nat.min_eq_left (by omega)] at this;rw [ak];exact this
    have dw:=bad_pos au;have aw:=h_ co;have ax:=h_ cp;have J:=(show Hid ((Pl.AF AW (d.map B5)).2.length=n/\(Pl.AF AW (G.map B5)).2.length=n+1/\(Pl.fses (AW,false) (d.map B5)).2.length=n/\(Pl.fses (AW,false) (G.map B5)).2.length=n+1) from⟨by rw [Pl.PP,List.length_map,hn],by rw [Pl.PP,List.length_map,cn],by rw [Pl.fses_len,List.length_map,hn],by rw [Pl.fses_len,List.length_map,cn]⟩)
    have bl:d.length<=GK:=by unfold GK;omega
    have bm:G.length<=GK:=by unfold GK;omega
    have K1:Hid (∀f,Below w.heap.size w f/\F8 f (.slice O n l) d/\F8 f (.slice q (n+1) a) G->Calls prog 19 #[.slice O n l] f fun e s=>∃ra ca,e=.returned (.slice ra n ca)/\n<=ca/\Hid (Below w.heap.size w s/\F8 s (.slice O n l) d/\F8 s (.slice q (n+1) a) G/\KB s (.slice ra n ca) (Pl.AF AW (d.map B5)).2)):=fun f ⟨I,h2,h3⟩=>(j0 f _ d h2 bl (P.below I)).mono (fun e s ⟨r,V,F,k3⟩=>by
     obtain⟨ra,ca,rfl,hc⟩:=k3.row J.1
     exact⟨ra,ca,V,hc,I.trans (F.mono I.size),h2.below F,h3.below F,k3⟩)
    have K2:Hid (∀f x,Below w.heap.size w f/\F8 f (.slice O n l) d/\F8 f (.slice q (n+1) a) G/\KB f x (Pl.AF AW (d.map B5)).2->Calls prog 19 #[.slice q (n+1) a] f fun e s=>∃rb cb,e=.returned (.slice rb (n+1) cb)/\n+1<=cb/\Hid (Below w.heap.size w s/\F8 s (.slice O n l) d/\F8 s (.slice q (n+1) a) G/\KB s x (Pl.AF AW (d.map B5)).2/\KB s (.slice rb (n+1) cb) (Pl.AF AW (G.map B5)).2)):=fun f x ⟨I,h2,h3,h4⟩=>(j0 f _ G h3 bm (P.below I)).mono (fun e s ⟨r,V,F,k3⟩=>by
     obtain⟨ra,ca,rfl,hc⟩:=k3.row J.2.1
     exact⟨ra,ca,V,hc,I.trans (F.mono I.size),h2.below F,h3.below F,h4.below F,k3⟩)
    have K3:Hid (∀f x y,Below w.heap.size w f/\F8 f (.slice O n l) d/\F8 f (.slice q (n+1) a) G/\KB f x (Pl.AF AW (d.map B5)).2/\KB f y (Pl.AF AW (G.map B5)).2->Calls prog 28 #[.slice O n l] f fun e s=>∃rc cc,e=.returned (.slice rc n cc)/\n<=cc/\Hid (Below w.heap.size w s/\F8 s (.slice q (n+1) a) G/\KB s x (Pl.AF AW (d.map B5)).2/\KB s y (Pl.AF AW (G.map B5)).2/\KB s (.slice rc n cc) (Pl.fses (AW,false) (d.map B5)).2)):=fun f x y ⟨I,h2,h3,h4,h5⟩=>(aK8 f _ d h2 bl (P.below I)).mono (fun e s ⟨r,V,F,k3⟩=>by
     obtain⟨ra,ca,rfl,hc⟩:=k3.row J.2.2.1
     exact⟨ra,ca,V,hc,I.trans (F.mono I.size),h3.below F,h4.below F,h5.below F,k3⟩)
    have K4:Hid (∀f x y z,Below w.heap.size w f/\F8 f (.slice q (n+1) a) G/\KB f x (Pl.AF AW (d.map B5)).2/\KB f y (Pl.AF AW (G.map B5)).2/\KB f z (Pl.fses (AW,false) (d.map B5)).2->Calls prog 28 #[.slice q (n+1) a] f fun e s=>∃rd cd,e=.returned (.slice rd (n+1) cd)/\n+1<=cd/\Hid (Four w s x y z (.slice rd (n+1) cd) (Pl.AF AW (d.map B5)).2 (Pl.AF AW (G.map B5)).2 (Pl.fses (AW,false) (d.map B5)).2 (Pl.fses (AW,false) (G.map B5)).2)):=fun f x y z ⟨I,h3,h4,h5,h6⟩=>(aK8 f _ G h3 bm (P.below I)).mono (fun e s ⟨r,V,F,k3⟩=>by
     obtain⟨ra,ca,rfl,hc⟩:=k3.row J.2.2.2
     exact⟨ra,ca,V,hc,I.trans (F.mono I.size),h4.below F,h5.below F,h6.below F,k3⟩)
    obtain⟨A,hA⟩:∃A,A=(Pl.AF AW (d.map B5)).2:=⟨_,rfl⟩
    obtain⟨B,hB⟩:∃B,B=(Pl.AF AW (G.map B5)).2:=⟨_,rfl⟩
    obtain⟨C,hC⟩:∃C,C=(Pl.fses (AW,false) (d.map B5)).2:=⟨_,rfl⟩
    obtain⟨D,hD⟩:∃D,D=(Pl.fses (AW,false) (G.map B5)).2:=⟨_,rfl⟩
    rw [<- hA] at aw J K1 K2 K3 K4;rw [<- hB] at aw J K2 K3 K4;rw [<- hC] at ax J K3 K4;rw [<- hD] at ax J K4;generalize aNM (B5 (E,on))=bc at *;clear hA hB hC hD co cp ak au P bi ck ab dg R Y cl bl bm K bt c1 ar
    go_upto_region 15 with(go_at_call 19;refine Calls.mono (K1 _ bk) ?_;rintro e w9 ⟨ra,ca,rfl,dx,aj⟩)
    go_upto_region 16 with(go_at_call 19;refine Calls.mono (K2 _ _ aj) ?_;rintro e dy ⟨rb,cb,rfl,dz,cq⟩)
    go_upto_region 17 with(go_at_call 28;refine Calls.mono (K3 _ _ _ cq) ?_;rintro e ea ⟨rc,cc,rfl,ec,cr⟩)
    go_upto_region 18 with(go_at_call 28;refine Calls.mono (K4 _ _ _ _ cr) ?_;rintro e cs ⟨rd,cd,rfl,ee,S⟩)
    clear K1 K2 K3 K4 aj cq cr bk;obtain⟨gb,rfl,ef,b0,b1,b2⟩:=S.b.get aw.at_;obtain⟨gd,rfl,eg,e0,e1,e2⟩:=S.d.get ax.at_;have dl:((bc:Int)==0)=false:=by simp;omega
    have dm:(k:Int)<(n:Int)+1:=by omega
    have dn:k<n+1:=by omega
    go_quiet (fail)
    clear b0 b1 b2 e0 e1 e2 dl dm dn;go_wp2_with fail
    go_loopw [16,17] (fun ov i wr=>∃(b:Bool)(j m:Nat),j<=n/\ov=.bool b/\i=.int .i64 (j:Int)/\wr=cs.drewN m) (fun _ i _=>n-(RowKit.intOf i).toNat)
    case atStart=>exact⟨true,0,_,Nat.zero_le _,rfl,rfl,rfl⟩
    case round =>
     obtain⟨b,j,m,hj,rfl,rfl,rfl⟩:=hrel;by_cases eh:j<n
     ·obtain⟨oa,bn⟩:∃o,A[j]?=some o:=⟨A[j]'(by have:=J.1;omega),g_ _⟩
      obtain⟨oc,bo⟩:∃o,C[j]?=some o:=⟨C[j]'(by have:=J.2.2.1;omega),g_ _⟩
      obtain⟨ga,rfl,ei,a0,a1,a2⟩:=S.a.get bn;obtain⟨gc,rfl,ej,c0,c1,c2⟩:=S.c.get bo;obtain⟨ek,eb,_,b0,b1,b2⟩:=S.b.get (aw.get bn);obtain⟨el,ed,_,d0,d1,d2⟩:=S.d.get (ax.get bo);simp only [o_,Addr.mk.injEq,and_true] at eb ed;subst eb ed;have dq:(j:Int)<(n:Int):=by omega
      obtain⟨ac,em,av⟩:=oa;obtain⟨en,eo,cv⟩:=oc;dsimp only at a0 a1 a2 b0 b1 b2 c0 c1 c2 d0 d1 d2;clear bn bo;have ep:(j:Int)+1<(n:Int)+1:=by omega
      have er:(j:Int)<(n:Int)+1:=by omega
      have es:j<n+1:=by omega
      have et:j+1<n+1:=by omega
      by_cases ct:k<=j
      ·have cu:(k:Int)<=(j:Int):=by omega
       have eq:quB k j=j+1:=by unfold quB;rw [if_pos ct]
       rw [eq] at b0 b1 b2 d0 d1 d2;clear eq
       cases b
       ·go_wp2_with fail
        go_quiet (fail)
        go_wp2_with fail
        go_roundw
        case rel=>exact⟨false,j+1,_,by omega,rfl,by go_num,rfl⟩
        case measure=>simp [RowKit.intOf];omega
       ·by_cases h7:ac=7
        ·have e7:(ac:Int)=7:=by omega
         rw [e7] at a0 b0;go_wp2_with fail
         go_quiet (fail)
         go_wp2_with fail
         go_roundw
         case rel=>exact⟨false,j+1,_,by omega,rfl,by go_num,rfl⟩
         case measure=>simp [RowKit.intOf];omega
        ·have e7:((ac:Int)!=7)=true:=by simp;omega
         go_wp2_with fail
         go_quiet (fail)
         go_wp2_with fail
         go_roundw
         case rel=>exact⟨true,j+1,_,by omega,rfl,by go_num,rfl⟩
         case measure=>simp [RowKit.intOf];omega
      ·have cu:¬(k:Int)<=(j:Int):=by omega
       have eq:quB k j=j:=by unfold quB;rw [if_neg ct]
       rw [eq] at b0 b1 b2 d0 d1 d2;clear eq
       cases b
       ·go_wp2_with fail
        go_quiet (fail)
        go_wp2_with fail
        go_roundw
        case rel=>exact⟨false,j+1,_,by omega,rfl,by go_num,rfl⟩
        case measure=>simp [RowKit.intOf];omega
       ·by_cases h7:ac=7
        ·have e7:(ac:Int)=7:=by omega
         rw [e7] at a0 b0;go_wp2_with fail
         go_quiet (fail)
         go_wp2_with fail
         go_roundw
         case rel=>exact⟨false,j+1,_,by omega,rfl,by go_num,rfl⟩
         case measure=>simp [RowKit.intOf];omega
        ·have e7:((ac:Int)!=7)=true:=by simp;omega
         go_wp2_with fail
         go_quiet (fail)
         go_wp2_with fail
         go_roundw
         case rel=>exact⟨true,j+1,_,by omega,rfl,by go_num,rfl⟩
         case measure=>simp [RowKit.intOf];omega
     ·obtain rfl:j=n:=by omega
      go_wp2_with fail
      go_ret;exact⟨rfl,S.below.trans ((U2 cs _).mono S.below.size)⟩
theorem aN2(w:World)(v:Value)(ins:List (ByteArray×Int))(x:Int)(b:ByteArray)(on:Int)(B:JF w v ins)(k:ins.length*24<=140737488351232)(h:Low w)(y:Pl.over on=false)(C:Pl.check b.data.toList=0) :Calls prog 14 #[v,.int .i64 x,.agg #[.string b,.int .i64 on]] w fun e c=>e=.returned (.bool true)/\Below w.heap.size w c:=by
 obtain⟨l,f⟩:∃l,l=w.alloc (.cells #[.string b,.int .i64 on] 41):=⟨_,rfl⟩
 have i:Below w.heap.size w l:=by rw [f];exact b_
 have m:l.heap[w.heap.size]?=some (.cells #[.string b,.int .i64 on] FG (0,0)):=by rw [f];exact heap_alloc_new _ _
 have p:l.heap.size=w.heap.size+1:=by rw [f];simp
 have D:=aMR l v ins (B.below i) k;generalize aGR ins=o at *
 have E:Hid (Calls prog 31 #[v] l fun e c=>∃q n g,e=.returned (.slice q n g)/\Hid (Qs w b on (.slice q n g) o c)):=D.mono (fun e c ⟨d,I,F,G⟩=>by
  obtain⟨q,g,e,_⟩:=cJ G;subst e
  exact⟨q,_,g,I,i.trans (F.mono i.size),(F.block _ (aB m)).trans m,by rw [<- p];exact G⟩)
 have J:Hid (∀a d,Qs w b on d o a->Calls prog 26 #[] a fun e c=>e=.returned (.bool true)/\Hid (Qs w b on d o c)):=fun a d j=>(aNL a (h.below j.below)).mono (fun e c ⟨r,s⟩=>⟨r,j.later s⟩);have K:Hid (∀a d,Qs w b on d o a->Calls prog 32 #[] a fun e c=>e=.returned (.bool true)/\Hid (Qs w b on d o c)):=fun a d j=>(aNJ a (h.below j.below)).mono (fun e c ⟨r,s⟩=>⟨r,j.later s⟩);have L:Hid (∀a d,Qs w b on d o a->Calls prog 15 #[.string b] a fun e c=>e=.returned (.int .i64 0)/\Hid (Qs w b on d o c)):=fun a d j=>(aNK b a (h.below j.below).ge (h.below j.below).gt).mono (fun e c ⟨r,s⟩=>⟨by rw [r,C];rfl,j.later s⟩);have M:0<=on/\on<=1000000:=by unfold Pl.over at y;simp at y;omega
 have N:decide (on≥0)=true:=by simp;omega
 have O:decide (on<=1000000)=true:=by simp;omega
 obtain⟨P,H,rfl,_,_⟩:=B;clear D h i m p k y C;rw [f] at E;clear f;go_enter func14,ntmps14
 go_upto_region 4 with(first
  | (go_at_call 31;refine Calls.mono E ?_;rintro e a ⟨q,n,g,rfl,z⟩)
  | (go_at_call 26;refine Calls.mono (J _ _ z) ?_;rintro e S ⟨rfl,A⟩)
  | (go_at_call 32;refine Calls.mono (K _ _ A) ?_;rintro e Q ⟨rfl,t⟩))
 have T:Q.cell? ⟨w.heap.size,0,none⟩=some (.string b):=aA t.blk 0
 go_upto_region 7 with(go_at_call 15;refine Calls.mono (L _ _ t) ?_;rintro e R ⟨rfl,u⟩)
 have U:R.cell? ⟨w.heap.size,1,none⟩=some (.int .i64 on):=aA u.blk 1;go_wp2_with fail;go_ret;exact⟨rfl,u.below⟩
theorem p_quiet(w:World)(v:Value)(ins:List (ByteArray×Int))(a:Int)(c:ByteArray)(on:Int)(f:JF w v ins)(b:ins.length*24<=140737488351232)(d : -9223372036854775808<=a/\a<=9223372036854775807)(h:Low w) :Calls prog 14 #[v,.int .i64 a,.agg #[.string c,.int .i64 on]] w fun e j=>e=.returned (.bool true)/\Below w.heap.size w j:=by
 by_cases g:Pl.over on=true
 ·exact aNH w v ins a c on f b d h (.inl g)
 ·by_cases i:Pl.check c.data.toList=0
  ·exact aN2 w v ins a c on f b h (by simpa using g) i
  ·exact aNH w v ins a c on f b d h (.inr i)
end
section
open Go.ChangeShapes Go.WideShapes Go.ChangeAt Go.RowKit Go.Deep
section
variable {H:Type} {enc:TypeId×Value->H} {W:World} {base:Nat} {sp:Nat->Bool} {held:Bool}
theorem in_open{r:Reach}{b0:Nat}{v:Value}{d:DataW H}{ps:List MemPlace}(a:Value.okWide prog W r b0 41 v)(p:DataW.Trod enc prog W base sp held 41 v d ps) :∃(s:ByteArray)(z:Int),v=.agg #[.string s,.int .i64 z]/\d=.agg [.lit (.string s.data.toList),.lit (.int .i64 z)]/\ps=[]/\s.size<=maxLen/\(Lit.int .i64 z).wf=true:=by
 obtain⟨b,c,rfl⟩:∃b c,v=.agg #[b,c]:=by
  simp only [Value.okWide,underlying41] at a;obtain⟨q,f,i,_⟩:=a;rw [Tryz.cellsIn] at i;obtain⟨l⟩:=q
  match l,i with
  | [b,c],_=>exact⟨b,c,f⟩
 obtain⟨j,t⟩:=p;obtain⟨u,w,n,k,D,x,f⟩:=trod_struct2 underlying41 t;simp only [Prod.mk.injEq] at k;obtain⟨rfl,rfl⟩:=k
 have g:DataW.trod enc prog W base sp held n 9 [b]=some u:=by
  have e:(((Value.agg #[b,c]).cells.toList.drop 0).take (prog.cellsOf 9))=[b]:=by rw [Tryz.KU];rfl
  rw [<- e];exact x
 have h:DataW.trod enc prog W base sp held n 3 [c]=some w:=by
  have e:(((Value.agg #[b,c]).cells.toList.drop 1).take (prog.cellsOf 3))=[c]:=by rw [Tryz.P2];rfl
  rw [<- e];exact f
 obtain⟨s,m,y,A⟩:=DataW.trod_string underlying9 g;obtain⟨z,o,B,C⟩:=DataW.trod_int underlying3 h;simp only [List.cons.injEq,and_true] at m o;subst m o y B;exact⟨s,z,rfl,rfl,rfl,A,C⟩
theorem in_shut{s:ByteArray}{z:Int}(a:s.size<=maxLen)(b:(Lit.int .i64 z).wf=true):DataW.Trod enc prog W base sp held 41 (.agg #[.string s,.int .i64 z]) (.agg [.lit (.string s.data.toList),.lit (.int .i64 z)]) []:=by
 refine⟨2,?_⟩
 have:=trod_struct2_mk (enc:=enc) (w:=W) (base:=base) (spare:=sp) (held:=held) (n:=1) (cs:=(Value.agg #[.string s,.int .i64 z]).cells.toList) (y0:=(.lit (.string s.data.toList),[])) (y1:=(.lit (.int .i64 z),[])) underlying41 (by rw [Tryz.cellsIn];rfl)
  (by have e:(((Value.agg #[.string s,.int .i64 z]).cells.toList.drop 0).take (prog.cellsOf 9))=[.string s]:=by rw [Tryz.KU];rfl
      show DataW.trod enc prog W base sp held 1 9 _=_
      rw [e];simp [DataW.trod,underlying9,a])
  (by have e:(((Value.agg #[.string s,.int .i64 z]).cells.toList.drop 1).take (prog.cellsOf 3))=[.int .i64 z]:=by rw [Tryz.P2];rfl
      show DataW.trod enc prog W base sp held 1 3 _=_
      rw [e];exact trod_int_mk 0 underlying3 b)
 exact this
end
theorem aND(os:Os)(c:os.Started)(H:Type)(enc:TypeId×Value->H)(F:Stop.Interp) :ReturnsInLeavingWide {calm:=true} checked os 14 .any (fun w a=>(Rows.quietSpec.pre enc prog Tryz.f14 [] false w a/\laidMetH prog Rows.quietRow.laid w)/\sizedMet enc prog Tryz.f14 (OpenSpec.ofChange Rows.quietSpec) false w a)
   ((OpenSpec.ofChange Rows.quietSpec).postWith enc prog Tryz.f14 F (outsideKept [.timePasses]) false true false):=by
 refine dV (C:=checked) (X:=fun w _=>laidMetH prog Rows.quietRow.laid w) (fun _ _ _ I h=>h.of_heap I) Tryz.own c (by kernel_rfl) func14
  (mI (enc:=enc) (C:=checked) (os:=os) (X:=fun w _=>laidMetH prog Rows.quietRow.laid w) (World.doorLaid prog 86 os) #[.slice none 0 0,.int .i64 0,.agg #[.string ByteArray.empty,.int .i64 0]] 8 rfl (World.shaped_of_RefB (by kernel_rfl) (by kernel_rfl)) (by kernel_rfl) (by kernel_rfl) (by kernel_rfl) (aAK os _)) ?_
 intro W f a J Z m n d B _ D K;have b:∀(j:Nat) t v,Tryz.f14.params[j]?=some t->a[j]?=some v->Value.okWide prog W .any f t v:=d;have g:=B;obtain⟨p,q,i,L,rfl,M,N⟩:=B;have o:DataW.TrodAll enc prog W 0 (fun _=>true) true Tryz.f14.params.toList a.toList J p:=i;rw [params14] at o b D;have k:∀x∈p,x.block<W.heap.size:=DataW.TrodAll.lt o;obtain⟨E,O,P,d0,d1,d2,r,p1,p2,rfl,rfl,rfl,G,Q,R⟩:=trodAll_three o;obtain⟨rfl,rfl⟩:=trodVars_none L;obtain⟨u,S,T⟩:=qA (b 0 26 E rfl rfl) G;obtain⟨U,rfl,rfl,rfl,l⟩:=open_int underlying3 (b 1 3 O rfl rfl) Q;obtain⟨s,z,rfl,rfl,rfl,V,y⟩:=in_open (b 2 41 P rfl rfl) R;clear i d;simp only [List.append_nil] at g k;refine(p_quiet W E u U s z (aN5 S) (vN D T) (kA l) (PJ n K)).mono fun e W' ⟨Y,A⟩=>?_;subst Y;refine⟨_,rfl,⟨_,_,_,[],r,[],g,?_,?_,?_,A.frame _,fun h=>by cases h⟩,A.os⟩
 ·exact trodAll_mk1 (shut_bool underlying4 true)
 ·have:=trodAll_mk3 (tX G k A) (shut_int underlying3 l) (in_shut V y);rw [show r++([]++[])=r from by simp] at this;exact this
 ·rfl
theorem aNF:Rows.QuietSaid :=
 OpenClaim.holds_of_wide_leaving_time 14 Tryz.f14 rfl rfl rfl rfl rfl rfl rfl ⟨rfl,rfl,rfl,rfl,rfl⟩ rfl rfl rfl rfl rfl (by kernel_rfl) func14 aNE
  (of_decide_eq_true (by kernel_rfl)) (by unfold Func.isWrapper;rw [if_neg (of_decide_eq_false (by kernel_rfl))];exact⟨rfl,rfl⟩)
  (fun b a H enc _ F=>aND b a H enc F)
end
end Go.Proofs.YtkgbdddkcjpgfaaGreatDoor
