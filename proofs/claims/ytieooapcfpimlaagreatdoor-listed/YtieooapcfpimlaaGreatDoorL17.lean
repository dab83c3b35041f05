import Derived.Test.YtieooapcfpimlaaGreatDoorL16
namespace Go.Proofs.YtieooapcfpimlaaGreatDoor
set_option maxHeartbeats 4000000
set_option maxRecDepth 100000
open Go.Proofs.Tryz
open Pl (PV PW PS SR AE arity AO A2 B0 BH A4 BA BR BW IA CS C8 DN DY DW A7 AU)
section
open Go.RowKit Go.Lib
variable {a b:Nat} {ca cb:Array Value} {ta tb:TypeId}
def GZ(W:PW)(s:Sg)(r:PS->SR)(e:Ending):Prop :=(∃v q,e=.returned (.tuple #[v,.nilIface])/\RV s v q/\∀S,r S=⟨0,W,S.A1 q⟩)\/(∃es,∃c:Nat,c≠0/\e=.returned (.tuple #[.nilIface,aY es c])/\∀S,r S=⟨c,W,S⟩)
theorem uY(M:Nat->Prop)(w:World)(s:Sg)(W:PW)(v:Value)(p:PV)(hp:EH w)(d:BD M w s W.pairs)(f:IS s)(g:RV s v p):Calls prog 217 #[.int .i64 6,v] w fun e c=>w=c/\GZ W s (fun S=>B0 W S DN p) e:=by
 have h:Hid (∀a c,EH c->Calls prog 223 #[.int .i64 6,.int .i64 a] c fun e z=>c=z/\∃j,e=.returned (aY j a)):=fun a c hp=>dD 6 DN a c hp rfl (by decide);have k:=h_ hp;have A:=@fC 213;rcases g.MZ f with⟨i,b,rfl,l,rfl⟩ | ⟨u,T,x,rfl,B⟩
 ·obtain⟨q,m⟩:∃q,W.pairs[i]?=some q:=⟨_,g_ (by rw [<- d.len];exact(s_ l).1)⟩
  obtain⟨_,x,y,n,o,r⟩:=d.at_ i b q l m;have D:w.cell? ⟨b,0,none⟩=some x:=aA n 0;have E:w.cell? ⟨b,1,none⟩=some y:=aA n 1;have t:Hid (∀S,B0 W S DN (.pair i)=⟨0,W,S.A1 q.1⟩):=fun S=>by unfold B0;rw [if_neg (show ¬DN=A7 from by decide),if_pos (Or.inl rfl)];dsimp only;rw [m];dsimp only;rw [if_neg (show ¬DN=C8 from by decide)]
  have C:Hid (RV s x q.1/\RV s y q.2):=⟨o,r⟩
  obtain⟨F,G,rfl⟩:=o.iface;obtain⟨H,I,rfl⟩:=r.iface;clear hp d f g n m l o r;go_enter func217,ntmps217;go_wp2_with fail;go_ret2;exact⟨rfl,.inl ⟨_,_,rfl,C.1,t⟩⟩
 ·have t:Hid (∀S,B0 W S DN p=⟨9,W,S⟩):=fun S=>by
   unfold B0;rw [if_neg (show ¬DN=A7 from by decide),if_pos (Or.inl rfl)]
   cases p with
   | pair i=>exact absurd rfl (u i)
   | _=>rfl
  clear hp d f g u;go_enter func217,ntmps217;go_wp2_with (go_at_call 223;refine(h _ _ k).mono ?_;rintro e c ⟨rfl,j,rfl⟩);go_ret2;exact⟨rfl,.inr ⟨j,9,by decide,rfl,t⟩⟩
theorem uX(M:Nat->Prop)(w:World)(s:Sg)(W:PW)(v:Value)(p:PV)(hp:EH w)(d:BD M w s W.pairs)(f:IS s)(g:RV s v p):Calls prog 217 #[.int .i64 7,v] w fun e c=>w=c/\GZ W s (fun S=>B0 W S C8 p) e:=by
 have h:Hid (∀a c,EH c->Calls prog 223 #[.int .i64 7,.int .i64 a] c fun e z=>c=z/\∃j,e=.returned (aY j a)):=fun a c hp=>dD 7 C8 a c hp rfl (by decide);have k:=h_ hp;have A:=@fC 213;rcases g.MZ f with⟨i,b,rfl,l,rfl⟩ | ⟨u,T,x,rfl,B⟩
 ·obtain⟨q,m⟩:∃q,W.pairs[i]?=some q:=⟨_,g_ (by rw [<- d.len];exact(s_ l).1)⟩
  obtain⟨_,x,y,n,o,r⟩:=d.at_ i b q l m;have D:w.cell? ⟨b,0,none⟩=some x:=aA n 0;have E:w.cell? ⟨b,1,none⟩=some y:=aA n 1;have t:Hid (∀S,B0 W S C8 (.pair i)=⟨0,W,S.A1 q.2⟩):=fun S=>by unfold B0;rw [if_neg (show ¬C8=A7 from by decide),if_pos (Or.inr rfl)];dsimp only;rw [m];dsimp only;rw [if_pos rfl]
  have C:Hid (RV s x q.1/\RV s y q.2):=⟨o,r⟩
  obtain⟨F,G,rfl⟩:=o.iface;obtain⟨H,I,rfl⟩:=r.iface;clear hp d f g n m l o r;go_enter func217,ntmps217;go_wp2_with fail;go_ret2;exact⟨rfl,.inl ⟨_,_,rfl,C.2,t⟩⟩
 ·have t:Hid (∀S,B0 W S C8 p=⟨9,W,S⟩):=fun S=>by
   unfold B0;rw [if_neg (show ¬C8=A7 from by decide),if_pos (Or.inr rfl)]
   cases p with
   | pair i=>exact absurd rfl (u i)
   | _=>rfl
  clear hp d f g u;go_enter func217,ntmps217;go_wp2_with (go_at_call 223;refine(h _ _ k).mono ?_;rintro e c ⟨rfl,j,rfl⟩);go_ret2;exact⟨rfl,.inr ⟨j,9,by decide,rfl,t⟩⟩
theorem fX(k:Int)(nm:AE)(w:World)(s:Sg)(W:PW)(u v:Value)(a b:PV)(hp:EH w)(j:IS s)(n:RV s u a)(l:RV s v b)(c:¬((∃x,a=.num x)/\∃y,b=.num y))(z:∀d f,EH f->Calls prog 223 #[.int .i64 k,.int .i64 d] f fun e C=>f=C/\∃g,e=.returned (aY g d))(p:¬nm=CS/\¬nm=BR):Calls prog 219 #[.int .i64 k,u,v] w fun e f=>Below w.heap.size w f/\GZ W s (fun S=>A2 W S nm a b) e:=by
 have h:=h_ z;have i:=h_ hp;have D:=@fC 187
 have q:Hid (∀S,A2 W S nm a b=⟨9,W,S⟩):=fun S=>by
  have o:A2 W S nm a b=Pl.reckon W S nm a b:=(if_neg p.1).trans (if_neg p.2);rw [o];unfold Pl.reckon;split
  ·rename_i x y;exact absurd ⟨⟨x,rfl⟩,⟨y,rfl⟩⟩ c
  ·rfl
 clear z p;rcases n.U5 j with⟨x,A,rfl⟩ | ⟨o,G,H,rfl,B⟩
 ·rcases l.U5 j with⟨y,r,rfl⟩ | ⟨t,E,F,rfl,m⟩
  ·exact absurd ⟨⟨x,A⟩,⟨y,r⟩⟩ c
  ·clear n l A t c;clear hp j;go_enter func219,ntmps219;go_wp2_with (go_at_call 223;refine(h _ _ i).mono ?_;rintro e f ⟨rfl,g,rfl⟩);go_ret2;exact⟨r_,.inr ⟨g,9,by decide,rfl,q⟩⟩
 ·rcases l.U5 j with⟨y,r,rfl⟩ | ⟨t,E,F,rfl,m⟩
  ·clear n l r o c;clear hp j;go_enter func219,ntmps219;go_wp2_with (go_at_call 223;refine(h _ _ i).mono ?_;rintro e f ⟨rfl,g,rfl⟩);go_ret2;exact⟨r_,.inr ⟨g,9,by decide,rfl,q⟩⟩
  ·clear n l o t c;clear hp j;go_enter func219,ntmps219;go_wp2_with (go_at_call 223;refine(h _ _ i).mono ?_;rintro e f ⟨rfl,g,rfl⟩);go_ret2;exact⟨r_,.inr ⟨g,9,by decide,rfl,q⟩⟩
theorem yQ(w:World)(s:Sg)(W:PW)(u v:Value)(a b:PV)(hp:EH w)(g:IS s)(h:RV s u a)(i:RV s v b)(d:¬((∃x,a=.num x)/\∃y,b=.num y)):Calls prog 219 #[.int .i64 0,u,v] w fun e f=>Below w.heap.size w f/\GZ W s (fun S=>A2 W S BH a b) e :=fX 0 BH w s W u v a b hp g h i d (fun c f hp=>dD 0 BH c f hp rfl (by decide)) (by decide)
theorem yP(w:World)(s:Sg)(W:PW)(u v:Value)(a b:PV)(hp:EH w)(g:IS s)(h:RV s u a)(i:RV s v b)(d:¬((∃x,a=.num x)/\∃y,b=.num y)):Calls prog 219 #[.int .i64 1,u,v] w fun e f=>Below w.heap.size w f/\GZ W s (fun S=>A2 W S A4 a b) e :=fX 1 A4 w s W u v a b hp g h i d (fun c f hp=>dD 1 A4 c f hp rfl (by decide)) (by decide)
theorem yO(w:World)(s:Sg)(W:PW)(u v:Value)(a b:PV)(hp:EH w)(g:IS s)(h:RV s u a)(i:RV s v b)(d:¬((∃x,a=.num x)/\∃y,b=.num y)):Calls prog 219 #[.int .i64 2,u,v] w fun e f=>Below w.heap.size w f/\GZ W s (fun S=>A2 W S BA a b) e :=fX 2 BA w s W u v a b hp g h i d (fun c f hp=>dD 2 BA c f hp rfl (by decide)) (by decide)
theorem yN(w:World)(s:Sg)(W:PW)(u v:Value)(a b:PV)(hp:EH w)(g:IS s)(h:RV s u a)(i:RV s v b)(d:¬((∃x,a=.num x)/\∃y,b=.num y)):Calls prog 219 #[.int .i64 3,u,v] w fun e f=>Below w.heap.size w f/\GZ W s (fun S=>A2 W S BW a b) e :=fX 3 BW w s W u v a b hp g h i d (fun c f hp=>dD 3 BW c f hp rfl (by decide)) (by decide)
theorem yM(w:World)(s:Sg)(W:PW)(u v:Value)(a b:PV)(hp:EH w)(g:IS s)(h:RV s u a)(i:RV s v b)(d:¬((∃x,a=.num x)/\∃y,b=.num y)):Calls prog 219 #[.int .i64 4,u,v] w fun e f=>Below w.heap.size w f/\GZ W s (fun S=>A2 W S IA a b) e :=fX 4 IA w s W u v a b hp g h i d (fun c f hp=>dD 4 IA c f hp rfl (by decide)) (by decide)
theorem m9(w:World)(s:Sg)(W:PW)(x y:Int):Calls prog 219 #[.int .i64 3,.iface 187 (.int .i64 x),.iface 187 (.int .i64 y)] w fun e a=>Below w.heap.size w a/\GZ W s (fun S=>A2 W S BW (.num x) (.num y)) e:=by
 have b:=@fC 187;go_enter func219,ntmps219;go_wp2_with fail;go_ret2
 exact⟨r_,.inl ⟨_,.AT (decide (x<y)),rfl,.AT _,fun S=>by
  show A2 W S BW (.num x) (.num y)=_;unfold A2 Pl.reckon;rw [if_neg (show ¬BW=CS from by decide),if_neg (show ¬BW=BR from by decide)];dsimp only
  rw [if_pos rfl]⟩⟩
theorem m8(w:World)(s:Sg)(W:PW)(x y:Int):Calls prog 219 #[.int .i64 4,.iface 187 (.int .i64 x),.iface 187 (.int .i64 y)] w fun e a=>Below w.heap.size w a/\GZ W s (fun S=>A2 W S IA (.num x) (.num y)) e:=by
 have b:=@fC 187;go_enter func219,ntmps219;go_wp2_with fail;go_ret2
 exact⟨r_,.inl ⟨_,.AT (decide (x=y)),rfl,.AT _,fun S=>by
  show A2 W S IA (.num x) (.num y)=_;unfold A2 Pl.reckon;rw [if_neg (show ¬IA=CS from by decide),if_neg (show ¬IA=BR from by decide)];dsimp only
  rw [if_neg (show ¬IA=BW from by decide),if_pos rfl]⟩⟩
theorem nC(w:World)(s:Sg)(W:PW)(x y:Int)(hp:EH w)(h:x.natAbs<=Pl.CG)(i:y.natAbs<=Pl.CG):Calls prog 219 #[.int .i64 0,.iface 187 (.int .i64 x),.iface 187 (.int .i64 y)] w fun e a=>Below w.heap.size w a/\GZ W s (fun S=>A2 W S BH (.num x) (.num y)) e:=by
 have j:Hid (∀b a,EH a->Calls prog 223 #[.int .i64 0,.int .i64 b] a fun e p=>a=p/\∃l,e=.returned (aY l b)):=fun b a hp=>dD 0 BH b a hp rfl (by decide);have u:=h_ hp;have v:=@fC 187;have d:Hid (Calls prog 225 #[.int .i64 0,.int .i64 x,.int .i64 y] w fun e a=>Below w.heap.size w a/\∃r,((x+y).natAbs<=Pl.CG->r=x+y)/\e=.returned (.tuple #[.int .i64 r,.bool (decide ((x+y).natAbs<=Pl.CG))])):=show Calls _ _ _ _ _ from(uV x y w h i).mono (fun e a ⟨A,B⟩=>⟨by subst A;exact r_,_,fun _=>rfl,B⟩);have q:Hid (∀S,A2 W S BH (.num x) (.num y)=if(x+y).natAbs<=Pl.CG then⟨0,W,S.A1 (.num (x+y))⟩ else⟨11,W,S⟩):=fun S=>by unfold A2 Pl.reckon;rw [if_neg (show ¬BH=CS from by decide),if_neg (show ¬BH=BR from by decide)];dsimp only;rw [if_neg (show ¬BH=BW from by decide),if_neg (show ¬BH=IA from by decide),if_pos rfl]
 have C:Hid (∀a,Below w.heap.size w a->EH a):=fun a t k m n c=>by rw [t.cell (World.block_lt_of_cell? _ _ (hp k m n c).1),t.cell (World.block_lt_of_cell? _ _ (hp k m n c).2)];exact hp k m n c
 generalize x+y=z at *;by_cases f:z.natAbs<=Pl.CG
 ·have o:decide (z.natAbs<=Pl.CG)=true:=by simpa using f
  rw [o] at d;clear hp h i;go_enter func219,ntmps219;go_wp2_with (go_at_call 225;refine Calls.mono d ?_;rintro e a ⟨g,r,D,rfl⟩);go_ret2;exact⟨g,.inl ⟨_,.num z,rfl,.num z,fun S=>by have:=q.out S;rw [if_pos f] at this;exact this⟩⟩
 ·have o:decide (z.natAbs<=Pl.CG)=false:=by simpa using f
  rw [o] at d;clear hp h i;go_enter func219,ntmps219
  go_wp2_with (first
   | (go_at_call 225;refine Calls.mono d ?_;rintro e a ⟨g,r,D,rfl⟩)
   | (go_at_call 223;refine(j _ _ (C _ g)).mono ?_;rintro e p ⟨rfl,l,rfl⟩))
  go_ret2;exact⟨g,.inr ⟨l,11,by decide,rfl,fun S=>by have:=q.out S;rw [if_neg f] at this;exact this⟩⟩
theorem nB(w:World)(s:Sg)(W:PW)(x y:Int)(hp:EH w)(h:x.natAbs<=Pl.CG)(i:y.natAbs<=Pl.CG):Calls prog 219 #[.int .i64 1,.iface 187 (.int .i64 x),.iface 187 (.int .i64 y)] w fun e a=>Below w.heap.size w a/\GZ W s (fun S=>A2 W S A4 (.num x) (.num y)) e:=by
 have j:Hid (∀b a,EH a->Calls prog 223 #[.int .i64 1,.int .i64 b] a fun e p=>a=p/\∃l,e=.returned (aY l b)):=fun b a hp=>dD 1 A4 b a hp rfl (by decide);have u:=h_ hp;have v:=@fC 187;have d:Hid (Calls prog 225 #[.int .i64 1,.int .i64 x,.int .i64 y] w fun e a=>Below w.heap.size w a/\∃r,((x-y).natAbs<=Pl.CG->r=x-y)/\e=.returned (.tuple #[.int .i64 r,.bool (decide ((x-y).natAbs<=Pl.CG))])):=show Calls _ _ _ _ _ from(uT x y w h i).mono (fun e a ⟨A,B⟩=>⟨by subst A;exact r_,_,fun _=>rfl,B⟩);have q:Hid (∀S,A2 W S A4 (.num x) (.num y)=if(x-y).natAbs<=Pl.CG then⟨0,W,S.A1 (.num (x-y))⟩ else⟨11,W,S⟩):=fun S=>by unfold A2 Pl.reckon;rw [if_neg (show ¬A4=CS from by decide),if_neg (show ¬A4=BR from by decide)];dsimp only;rw [if_neg (show ¬A4=BW from by decide),if_neg (show ¬A4=IA from by decide),if_neg (show ¬A4=BH from by decide),if_pos rfl]
 have C:Hid (∀a,Below w.heap.size w a->EH a):=fun a t k m n c=>by rw [t.cell (World.block_lt_of_cell? _ _ (hp k m n c).1),t.cell (World.block_lt_of_cell? _ _ (hp k m n c).2)];exact hp k m n c
 generalize x-y=z at *;by_cases f:z.natAbs<=Pl.CG
 ·have o:decide (z.natAbs<=Pl.CG)=true:=by simpa using f
  rw [o] at d;clear hp h i;go_enter func219,ntmps219;go_wp2_with (go_at_call 225;refine Calls.mono d ?_;rintro e a ⟨g,r,D,rfl⟩);go_ret2;exact⟨g,.inl ⟨_,.num z,rfl,.num z,fun S=>by have:=q.out S;rw [if_pos f] at this;exact this⟩⟩
 ·have o:decide (z.natAbs<=Pl.CG)=false:=by simpa using f
  rw [o] at d;clear hp h i;go_enter func219,ntmps219
  go_wp2_with (first
   | (go_at_call 225;refine Calls.mono d ?_;rintro e a ⟨g,r,D,rfl⟩)
   | (go_at_call 223;refine(j _ _ (C _ g)).mono ?_;rintro e p ⟨rfl,l,rfl⟩))
  go_ret2;exact⟨g,.inr ⟨l,11,by decide,rfl,fun S=>by have:=q.out S;rw [if_neg f] at this;exact this⟩⟩
theorem nA(w:World)(s:Sg)(W:PW)(x y:Int)(hp:EH w)(h:x.natAbs<=Pl.CG)(i:y.natAbs<=Pl.CG):Calls prog 219 #[.int .i64 2,.iface 187 (.int .i64 x),.iface 187 (.int .i64 y)] w fun e b=>Below w.heap.size w b/\GZ W s (fun S=>A2 W S BA (.num x) (.num y)) e:=by
 have j:Hid (∀a b,EH b->Calls prog 223 #[.int .i64 2,.int .i64 a] b fun e p=>b=p/\∃l,e=.returned (aY l a)):=fun a b hp=>dD 2 BA a b hp rfl (by decide);have u:=h_ hp;have v:=@fC 187;have d:=h_ (uU x y w h i);have q:Hid (∀S,A2 W S BA (.num x) (.num y)=if(x*y).natAbs<=Pl.CG then⟨0,W,S.A1 (.num (x*y))⟩ else⟨11,W,S⟩):=fun S=>by unfold A2 Pl.reckon;rw [if_neg (show ¬BA=CS from by decide),if_neg (show ¬BA=BR from by decide)];dsimp only;rw [if_neg (show ¬BA=BW from by decide),if_neg (show ¬BA=IA from by decide),if_neg (show ¬BA=BH from by decide),if_neg (show ¬BA=A4 from by decide)]
 have A:Hid (∀b,Below w.heap.size w b->EH b):=fun b t k m n c=>by rw [t.cell (World.block_lt_of_cell? _ _ (hp k m n c).1),t.cell (World.block_lt_of_cell? _ _ (hp k m n c).2)];exact hp k m n c
 generalize x*y=z at *;by_cases f:z.natAbs<=Pl.CG
 ·have o:decide (z.natAbs<=Pl.CG)=true:=by simpa using f
  rw [o] at d;clear hp h i;go_enter func219,ntmps219;go_wp2_with (go_at_call 225;refine Calls.mono d ?_;rintro e b ⟨g,r,B,rfl⟩);go_ret2;exact⟨g,.inl ⟨_,.num z,rfl,.num z,fun S=>by have:=q.out S;rw [if_pos f] at this;exact this⟩⟩
 ·have o:decide (z.natAbs<=Pl.CG)=false:=by simpa using f
  rw [o] at d;clear hp h i;go_enter func219,ntmps219
  go_wp2_with (first
   | (go_at_call 225;refine Calls.mono d ?_;rintro e b ⟨g,r,B,rfl⟩)
   | (go_at_call 223;refine(j _ _ (A _ g)).mono ?_;rintro e p ⟨rfl,l,rfl⟩))
  go_ret2;exact⟨g,.inr ⟨l,11,by decide,rfl,fun S=>by have:=q.out S;rw [if_neg f] at this;exact this⟩⟩
theorem l7{l:List Nat}(c:l.Nodup){i j:Nat}(hi:l[i]?=some a)(d:l[j]?=some b)(h:i≠j):a≠b:=by rintro rfl;obtain⟨e,f⟩:=s_ hi;obtain⟨g,k⟩:=s_ d;subst f;have:=c.idxOf_getElem i e;rw [<- k,c.idxOf_getElem j g] at this;exact h this.symm
theorem Tryz.W7:(prog.info? 213).map (fun i=>i.comparable)=some true:=by kernel_rfl
theorem Tryz.W6:(prog.info? 215).map (fun i=>i.size==0)=some false:=by kernel_rfl
theorem aAH(w:World)(g:w.heap[a]?=some (.cells ca ta (0,0)))(k:w.heap[b]?=some (.cells cb tb (0,0))):(binOp .eql 88 (.iface 213 (.pointer (some ⟨a,0,none⟩))) (.iface 213 (.pointer (some ⟨b,0,none⟩)))).run prog w=.ok (.bool (decide (a=b))) w:=by
 obtain⟨i,c,d⟩:=m_ Tryz.W7;obtain⟨j,f,l⟩:=m_ Tryz.W6;by_cases h:a=b
 ·subst h;rw [run_eql_iface_ptr_same w ⟨a,0,none⟩ underlying88 underlying213 c d f];simp
 ·rw [run_eql_iface_ptr_other w (a:=⟨a,0,none⟩) (b:=⟨b,0,none⟩) underlying88 underlying213 c d f (by simpa using l) (fun e=>h (congrArg Addr.block e)) g k];simp [h]
theorem Tryz.pi_sq:(prog.info? 280).map (fun i=>i.comparable)=some true:=by kernel_rfl
theorem Tryz.pj_sq:(prog.info? 283).map (fun i=>i.size==0)=some false:=by kernel_rfl
theorem eqp_sq(w:World)(g:w.heap[a]?=some (.cells ca ta (0,0)))(k:w.heap[b]?=some (.cells cb tb (0,0))):(binOp .eql 88 (.iface 280 (.pointer (some ⟨a,0,none⟩))) (.iface 280 (.pointer (some ⟨b,0,none⟩)))).run prog w=.ok (.bool (decide (a=b))) w:=by
 obtain⟨i,c,d⟩:=m_ Tryz.pi_sq;obtain⟨j,f,l⟩:=m_ Tryz.pj_sq;by_cases h:a=b
 ·subst h;rw [run_eql_iface_ptr_same w ⟨a,0,none⟩ underlying88 underlying280 c d f];simp
 ·rw [run_eql_iface_ptr_other w (a:=⟨a,0,none⟩) (b:=⟨b,0,none⟩) underlying88 underlying280 c d f (by simpa using l) (fun e=>h (congrArg Addr.block e)) g k];simp [h]
theorem Tryz.pi_sc:(prog.info? 402).map (fun i=>i.comparable)=some true:=by kernel_rfl
theorem Tryz.pj_sc:(prog.info? 406).map (fun i=>i.size==0)=some false:=by kernel_rfl
theorem eqp_sc(w:World)(g:w.heap[a]?=some (.cells ca ta (0,0)))(k:w.heap[b]?=some (.cells cb tb (0,0))):(binOp .eql 88 (.iface 402 (.pointer (some ⟨a,0,none⟩))) (.iface 402 (.pointer (some ⟨b,0,none⟩)))).run prog w=.ok (.bool (decide (a=b))) w:=by
 obtain⟨i,c,d⟩:=m_ Tryz.pi_sc;obtain⟨j,f,l⟩:=m_ Tryz.pj_sc;by_cases h:a=b
 ·subst h;rw [run_eql_iface_ptr_same w ⟨a,0,none⟩ underlying88 underlying402 c d f];simp
 ·rw [run_eql_iface_ptr_other w (a:=⟨a,0,none⟩) (b:=⟨b,0,none⟩) underlying88 underlying402 c d f (by simpa using l) (fun e=>h (congrArg Addr.block e)) g k];simp [h]
theorem Tryz.pi_fq:(prog.info? 345).map (fun i=>i.comparable)=some true:=by kernel_rfl
theorem Tryz.pj_fq:(prog.info? 347).map (fun i=>i.size==0)=some false:=by kernel_rfl
theorem eqp_fq(w:World)(g:w.heap[a]?=some (.cells ca ta (0,0)))(k:w.heap[b]?=some (.cells cb tb (0,0))):(binOp .eql 88 (.iface 345 (.pointer (some ⟨a,0,none⟩))) (.iface 345 (.pointer (some ⟨b,0,none⟩)))).run prog w=.ok (.bool (decide (a=b))) w:=by
 obtain⟨i,c,d⟩:=m_ Tryz.pi_fq;obtain⟨j,f,l⟩:=m_ Tryz.pj_fq;by_cases h:a=b
 ·subst h;rw [run_eql_iface_ptr_same w ⟨a,0,none⟩ underlying88 underlying345 c d f];simp
 ·rw [run_eql_iface_ptr_other w (a:=⟨a,0,none⟩) (b:=⟨b,0,none⟩) underlying88 underlying345 c d f (by simpa using l) (fun e=>h (congrArg Addr.block e)) g k];simp [h]
theorem Tryz.pi_fc:(prog.info? 357).map (fun i=>i.comparable)=some true:=by kernel_rfl
theorem Tryz.pj_fc:(prog.info? 359).map (fun i=>i.size==0)=some false:=by kernel_rfl
theorem eqp_fc(w:World)(g:w.heap[a]?=some (.cells ca ta (0,0)))(k:w.heap[b]?=some (.cells cb tb (0,0))):(binOp .eql 88 (.iface 357 (.pointer (some ⟨a,0,none⟩))) (.iface 357 (.pointer (some ⟨b,0,none⟩)))).run prog w=.ok (.bool (decide (a=b))) w:=by
 obtain⟨i,c,d⟩:=m_ Tryz.pi_fc;obtain⟨j,f,l⟩:=m_ Tryz.pj_fc;by_cases h:a=b
 ·subst h;rw [run_eql_iface_ptr_same w ⟨a,0,none⟩ underlying88 underlying357 c d f];simp
 ·rw [run_eql_iface_ptr_other w (a:=⟨a,0,none⟩) (b:=⟨b,0,none⟩) underlying88 underlying357 c d f (by simpa using l) (fun e=>h (congrArg Addr.block e)) g k];simp [h]
theorem qK{k j:Nat}{t:AE}(h:AO[k]?=some t)(b:AO[j]?=some t):k=j:=by
 have a:Pl.AO.Nodup:=by decide
 obtain⟨c,d⟩:=s_ h;obtain⟨e,f⟩:=s_ b;subst d;have:=a.idxOf_getElem k c;rw [<- f,a.idxOf_getElem j e] at this;exact this.symm
theorem lR{k:Nat}(h:AO[k]?=some AU):k=12:=qK h rfl
theorem IS.ne{s:Sg}(h:IS s):s.tq≠s.tc/\(∀T,T∈[187,189,190,212,192,213,86,83]->s.tq≠T/\s.tc≠T):=by rcases h with⟨a,b⟩ | ⟨a,b⟩<;>rw [a,b]<;>decide
theorem RV.eqv{s:Sg}{u v:Value}{a b:PV}(h:RV s u a)(k:RV s v b){w:World}{ps:List (PV×PV)}{n:Nat}(l:QB w s ps n):(binOp .eql 88 u v).run prog w=.ok (.bool (decide (a=b))) w:=by
 have c:=l.NH;have r:∀i x,s.pb[i]?=some x->∃G,w.heap[x]?=some (Obj.cells G E0 (0,0)):=fun i x f=>by have H:=(s_ f).1;obtain⟨_,L,M,o,_⟩:=l.pairs i x _ f (g_ (by rw [<- l.len];exact H));exact⟨_,o⟩
 cases h with
 | num n =>
  cases k with
  | num m=>rw [Tryz.eq_num,show decide (Pl.PV.num n=Pl.PV.num m)=(n==m) from by simp only [Pl.PV.num.injEq];rfl]
  | _ =>rw [bD w (by first | decide | exact(c.ne.2 _ (by decide)).1 | exact(c.ne.2 _ (by decide)).2 | exact(c.ne.2 _ (by decide)).1.symm | exact(c.ne.2 _ (by decide)).2.symm | exact c.ne.1 | exact c.ne.1.symm)];simp
 | AT x =>
  cases k with
  | AT y=>rw [Tryz.OD];cases x<;>cases y<;>rfl
  | _ =>rw [bD w (by first | decide | exact(c.ne.2 _ (by decide)).1 | exact(c.ne.2 _ (by decide)).2 | exact(c.ne.2 _ (by decide)).1.symm | exact(c.ne.2 _ (by decide)).2.symm | exact c.ne.1 | exact c.ne.1.symm)];simp
 | name x =>
  cases k with
  | name y =>
   rw [Tryz.YY]
   have:((⟨x.toArray⟩:ByteArray)==⟨y.toArray⟩)=decide (Pl.PV.name x=Pl.PV.name y):=by
    by_cases e:x=y
    ·subst e;rw [(Go.MapKept.bytes_beq _ _).2 rfl];simp
    ·rw [show((⟨x.toArray⟩:ByteArray)==⟨y.toArray⟩)=false from by
      cases I:((⟨x.toArray⟩:ByteArray)==⟨y.toArray⟩) with
      | false=>rfl
      | true=>exact absurd (by simpa using (Go.MapKept.bytes_beq _ _).1 I) e]
     simp [e]
   rw [this]
  | _ =>rw [bD w (by first | decide | exact(c.ne.2 _ (by decide)).1 | exact(c.ne.2 _ (by decide)).2 | exact(c.ne.2 _ (by decide)).1.symm | exact(c.ne.2 _ (by decide)).2.symm | exact c.ne.1 | exact c.ne.1.symm)];simp
 | empty =>
  cases k with
  | empty=>rw [Tryz.eq_empty];rfl
  | _ =>rw [bD w (by first | decide | exact(c.ne.2 _ (by decide)).1 | exact(c.ne.2 _ (by decide)).2 | exact(c.ne.2 _ (by decide)).1.symm | exact(c.ne.2 _ (by decide)).2.symm | exact c.ne.1 | exact c.ne.1.symm)];simp
 | nothing =>
  cases k with
  | nothing=>rw [Tryz.PZ];rfl
  | _ =>rw [bD w (by first | decide | exact(c.ne.2 _ (by decide)).1 | exact(c.ne.2 _ (by decide)).2 | exact(c.ne.2 _ (by decide)).1.symm | exact(c.ne.2 _ (by decide)).2.symm | exact c.ne.1 | exact c.ne.1.symm)];simp
 | pair i x f =>
  cases k with
  | pair j y d =>
   obtain⟨E,o⟩:=r i x f;obtain⟨F,p⟩:=r j y d;rw [aAH w o p];by_cases e:i=j
   ·subst e;rw [f] at d;simp at d;simp [d]
   ·simp [e,l7 l.nodup f d e]
  | _ =>rw [bD w (by first | decide | exact(c.ne.2 _ (by decide)).1 | exact(c.ne.2 _ (by decide)).2 | exact(c.ne.2 _ (by decide)).1.symm | exact(c.ne.2 _ (by decide)).2.symm | exact c.ne.1 | exact c.ne.1.symm)];simp
 | proc i x f z =>
  cases k with
  | proc j y d B =>
   obtain⟨_,E,o⟩:=l.procs i x f z;obtain⟨_,F,p⟩:=l.procs j y d B
   have:decide (x=y)=decide (Pl.PV.proc i=Pl.PV.proc j):=by
    by_cases e:i=j
    ·subst e;rw [f] at d;simp at d;simp [d]
    ·simp [e,show x≠y from fun q=>e (l.qn i j x f (by rw [q];exact d) z)]
   rw [<- this];rcases c with⟨e,_⟩ | ⟨e,_⟩<;>rw [e]
   ·exact eqp_sq w o p
   ·exact eqp_fq w o p
  | _ =>rw [bD w (by first | decide | exact(c.ne.2 _ (by decide)).1 | exact(c.ne.2 _ (by decide)).2 | exact(c.ne.2 _ (by decide)).1.symm | exact(c.ne.2 _ (by decide)).2.symm | exact c.ne.1 | exact c.ne.1.symm)];simp
 | cont i x f =>
  cases k with
  | cont j y d =>
   obtain⟨_,E,o⟩:=l.AG i x f;obtain⟨_,F,p⟩:=l.AG j y d
   have:decide (x=y)=decide (Pl.PV.cont i=Pl.PV.cont j):=by
    by_cases e:i=j
    ·subst e;rw [f] at d;simp at d;simp [d]
    ·simp [e,l7 l.cn f d e]
   rw [<- this];rcases c with⟨_,e⟩ | ⟨_,e⟩<;>rw [e]
   ·exact eqp_sc w o p
   ·exact eqp_fc w o p
  | _ =>rw [bD w (by first | decide | exact(c.ne.2 _ (by decide)).1 | exact(c.ne.2 _ (by decide)).2 | exact(c.ne.2 _ (by decide)).1.symm | exact(c.ne.2 _ (by decide)).2.symm | exact c.ne.1 | exact c.ne.1.symm)];simp
 | AZ i t C J =>
  cases k with
  | AZ j D g A =>
   rw [Tryz.YX];by_cases e:t=D
   ·subst e;rw [qK C g];simp
   ·have:i≠j:=fun K=>by subst K;rw [C] at g;exact e (i_ g)
    have p:((i:Int)==(j:Int))=false:=beq_eq_false_iff_ne.2 (by omega);rw [p];simp [e]
  | EC =>
   rw [bD w (by first | decide | exact(c.ne.2 _ (by decide)).1 | exact(c.ne.2 _ (by decide)).2 | exact(c.ne.2 _ (by decide)).1.symm | exact(c.ne.2 _ (by decide)).2.symm | exact c.ne.1 | exact c.ne.1.symm)];have:t≠AU:=fun e=>by subst e;have:=lR C;omega
   simp [this]
  | _ =>rw [bD w (by first | decide | exact(c.ne.2 _ (by decide)).1 | exact(c.ne.2 _ (by decide)).2 | exact(c.ne.2 _ (by decide)).1.symm | exact(c.ne.2 _ (by decide)).2.symm | exact c.ne.1 | exact c.ne.1.symm)];simp
 | EC =>
  cases k with
  | EC=>rw [Tryz.RN];rfl
  | AZ j D g A =>
   rw [bD w (by first | decide | exact(c.ne.2 _ (by decide)).1 | exact(c.ne.2 _ (by decide)).2 | exact(c.ne.2 _ (by decide)).1.symm | exact(c.ne.2 _ (by decide)).2.symm | exact c.ne.1 | exact c.ne.1.symm)];have:AU≠D:=fun e=>by subst e;have:=lR g;omega
   simp [this]
  | _ =>rw [bD w (by first | decide | exact(c.ne.2 _ (by decide)).1 | exact(c.ne.2 _ (by decide)).2 | exact(c.ne.2 _ (by decide)).1.symm | exact(c.ne.2 _ (by decide)).2.symm | exact c.ne.1 | exact c.ne.1.symm)];simp
theorem EH.below{w w':World}(hp:EH w)(d:Below w.heap.size w w'):EH w':=fun k b c a=>by rw [d.cell (World.block_lt_of_cell? _ _ (hp k b c a).1),d.cell (World.block_lt_of_cell? _ _ (hp k b c a).2)];exact hp k b c a
theorem aAP(nm:AE):arity nm<=2:=by unfold arity;split<;>decide
def GC(nm:AE)(n:Nat)(w:World)(ao:Option Addr)(cap:Nat):Prop:=Calls prog 195 #[.string ⟨nm.toArray⟩,.int .i64 (n:Int),.slice ao n cap] w fun e w'=>w=w'/\e=.returned .nilIface
theorem eE(nm:AE)(d:nm∈AO)(n:Nat)(g:n<=2)(w:World)(c:Option Addr)(a:Nat):GC nm n w c a :=
 (gR ⟨nm.toArray⟩ n c n a w (by omega) (by have:=lQ d;show nm.toArray.size<=_;simp;omega)).mono (fun e h ⟨f,b⟩=>⟨f,by
  rcases b with⟨_,b⟩ | ⟨b,_⟩
  ·exact b
  ·exact absurd rfl b⟩)
theorem vC(k:Nat)(nm:AE)(w:World)(h:Option Addr)(n b:Nat)(o:Value)(hp:EH w)(i:AO[k]?=some nm)(j:k<12)(d:n≠arity nm) :Calls prog 211 #[.int .i64 (k:Int),.slice h n b,o] w fun e c=>Below w.heap.size w c/\∃f,e=.returned (.tuple #[.nilIface,aY f 10]):=by
 obtain⟨q,r⟩:=hp k nm i j;have a:=q_ i;have s:(0:Int)<=(k:Int):=by omega
 have l:(k:Int)<12:=by omega
 have p:Hid (∀c,Calls prog 195 #[.string ⟨nm.toArray⟩,.int .i64 ((arity nm:Nat):Int),.slice h n b] c fun e m=>c=m/\∃f,e=.returned (aY f 10)):=fun c =>
  (gR ⟨nm.toArray⟩ (arity nm) h n b c (by have:=aAP nm;omega) (by have:=lQ a;show nm.toArray.size<=_;simp;omega)).mono (fun e m ⟨l,g⟩=>⟨l,by
   rcases g with⟨g,_⟩ | ⟨_,g⟩
   ·exact absurd g d
   ·exact g⟩)
 clear hp i a d;generalize arity nm=t at *;go_enter func211,ntmps211;go_wp2_with fail;go_region_with (go_at_call 195;refine(p _).mono ?_;rintro e c ⟨rfl,f,rfl⟩;unfold aY)
 all_goals
  go_wp2_with fail
  go_ret2;exact⟨r_.drew,f,rfl⟩
theorem p_apply6(M:Nat->Prop)(w:World)(s:Sg)(W:PW)(g b d:Nat)(v q:Value)(p:PV)(hp:EH w)(i:BD M w s W.pairs)(l:IS s)(C:w.cell? ⟨g,b,none⟩=some v)(j:RV s v p) :Calls prog 211 #[.int .i64 6,.slice (some ⟨g,b,none⟩) 1 d,q] w fun e a=>Below w.heap.size w a/\GZ W s (fun S=>B0 W S DN p) e:=by
 obtain⟨m,n⟩:=hp 6 DN rfl (by decide);have r:w.cell? ⟨0,6*2,none⟩=some (.string ⟨Pl.DN.toArray⟩):=m;have t:w.cell? ⟨0,6*2+1,none⟩=some (.int .i64 1):=n;have _:=i;have u:Hid (∀a,GC DN 1 a (some ⟨g,b,none⟩) d):=fun a=>eE DN (by decide) 1 (by decide) a _ d;clear m n;have y:Hid (∀a,Below w.heap.size w a->Calls prog 217 #[.int .i64 6,v] a fun e z=>a=z/\GZ W s (fun S=>B0 W S DN p) e):=fun a o=>uY M a s W v p (hp.below o) (i.AQ (Stp.AA o)) l j;obtain⟨T,x,rfl⟩:=j.iface;clear hp i l j;go_enter func211,ntmps211;go_wp2_with fail;go_region_with (go_at_call 195;refine Calls.mono (u _) ?_;rintro e a ⟨rfl,rfl⟩)
 all_goals
  go_wp2_with (go_at_call 217;refine(y _ (r_.drew)).mono ?_;rintro e a ⟨rfl,⟨D,A,rfl,h,f⟩ | ⟨B,c,k,rfl,f⟩⟩)
  ·obtain⟨E,F,rfl⟩:=h.iface;go_wp2_with fail;go_ret2;exact⟨r_.drew,.inl ⟨_,A,rfl,h,f⟩⟩
  ·unfold aY;go_wp2_with fail;go_ret2;exact⟨r_.drew,.inr ⟨B,c,k,rfl,f⟩⟩
theorem p_apply7(M:Nat->Prop)(w:World)(s:Sg)(W:PW)(g b d:Nat)(v q:Value)(p:PV)(hp:EH w)(i:BD M w s W.pairs)(l:IS s)(C:w.cell? ⟨g,b,none⟩=some v)(j:RV s v p) :Calls prog 211 #[.int .i64 7,.slice (some ⟨g,b,none⟩) 1 d,q] w fun e a=>Below w.heap.size w a/\GZ W s (fun S=>B0 W S C8 p) e:=by
 obtain⟨m,n⟩:=hp 7 C8 rfl (by decide);have r:w.cell? ⟨0,7*2,none⟩=some (.string ⟨Pl.C8.toArray⟩):=m;have t:w.cell? ⟨0,7*2+1,none⟩=some (.int .i64 1):=n;have _:=i;have u:Hid (∀a,GC C8 1 a (some ⟨g,b,none⟩) d):=fun a=>eE C8 (by decide) 1 (by decide) a _ d;clear m n;have y:Hid (∀a,Below w.heap.size w a->Calls prog 217 #[.int .i64 7,v] a fun e z=>a=z/\GZ W s (fun S=>B0 W S C8 p) e):=fun a o=>uX M a s W v p (hp.below o) (i.AQ (Stp.AA o)) l j;obtain⟨T,x,rfl⟩:=j.iface;clear hp i l j;go_enter func211,ntmps211;go_wp2_with fail;go_region_with (go_at_call 195;refine Calls.mono (u _) ?_;rintro e a ⟨rfl,rfl⟩)
 all_goals
  go_wp2_with (go_at_call 217;refine(y _ (r_.drew)).mono ?_;rintro e a ⟨rfl,⟨D,A,rfl,h,f⟩ | ⟨B,c,k,rfl,f⟩⟩)
  ·obtain⟨E,F,rfl⟩:=h.iface;go_wp2_with fail;go_ret2;exact⟨r_.drew,.inl ⟨_,A,rfl,h,f⟩⟩
  ·unfold aY;go_wp2_with fail;go_ret2;exact⟨r_.drew,.inr ⟨B,c,k,rfl,f⟩⟩
theorem p_apply8(M:Nat->Prop)(w:World)(s:Sg)(W:PW)(g b c:Nat)(v k:Value)(p:PV)(hp:EH w)(f:BD M w s W.pairs)(h:IS s)(o:w.cell? ⟨g,b,none⟩=some v)(d:RV s v p) :Calls prog 211 #[.int .i64 8,.slice (some ⟨g,b,none⟩) 1 c,k] w fun e a=>Below w.heap.size w a/\GZ W s (fun S=>B0 W S DY p) e:=by
 obtain⟨i,j⟩:=hp 8 DY rfl (by decide);have l:w.cell? ⟨0,8*2,none⟩=some (.string ⟨Pl.DY.toArray⟩):=i;have m:w.cell? ⟨0,8*2+1,none⟩=some (.int .i64 1):=j;have _:=f;have n:Hid (∀a,GC DY 1 a (some ⟨g,b,none⟩) c):=fun a=>eE DY (by decide) 1 (by decide) a _ c;clear i j;have q:=fun a=>d.QP h a;obtain⟨T,x,rfl⟩:=d.iface;clear hp f h d;go_enter func211,ntmps211;go_wp2_with fail;go_region_with (go_at_call 195;refine Calls.mono (n _) ?_;rintro e a ⟨rfl,rfl⟩)
 all_goals
  go_wp2_with fail
  go_ret2;exact⟨r_.drew,.inl ⟨_,.AT (decide (p=.empty)),rfl,.AT _,fun S=>rfl⟩⟩
theorem yZ(M:Nat->Prop)(w:World)(s:Sg)(W:PW)(g a c:Nat)(v o:Value)(p:PV)(hp:EH w)(f:BD M w s W.pairs)(h:IS s)(z:w.cell? ⟨g,a,none⟩=some v)(j:RV s v p) :Calls prog 211 #[.int .i64 9,.slice (some ⟨g,a,none⟩) 1 c,o] w fun e d=>Below w.heap.size w d/\GZ W s (fun S=>B0 W S DW p) e:=by
 obtain⟨k,l⟩:=hp 9 DW rfl (by decide);have q:w.cell? ⟨0,9*2,none⟩=some (.string ⟨Pl.DW.toArray⟩):=k;have r:w.cell? ⟨0,9*2+1,none⟩=some (.int .i64 1):=l;have _:=f;have m:Hid (∀d,GC DW 1 d (some ⟨g,a,none⟩) c):=fun d=>eE DW (by decide) 1 (by decide) d _ c;clear k l;have t:=@fC 213;rcases j.MZ h with⟨i,b,rfl,A,rfl⟩ | ⟨n,T,x,rfl,u⟩
 ·clear hp f h j;go_enter func211,ntmps211;go_wp2_with fail;go_region_with (go_at_call 195;refine Calls.mono (m _) ?_;rintro e d ⟨rfl,rfl⟩)
  all_goals
   go_wp2_with fail
   go_ret2;exact⟨r_.drew,.inl ⟨_,.AT true,rfl,.AT _,fun S=>rfl⟩⟩
 ·have y:Hid (∀S,B0 W S DW p=⟨0,W,S.A1 (.AT false)⟩):=fun S=>by
   cases p with
   | pair i=>exact absurd rfl (n i)
   | _=>rfl
  clear hp f h j n;go_enter func211,ntmps211;go_wp2_with fail;go_region_with (go_at_call 195;refine Calls.mono (m _) ?_;rintro e d ⟨rfl,rfl⟩)
  all_goals
   go_wp2_with fail
   go_ret2;exact⟨r_.drew,.inl ⟨_,.AT false,rfl,.AT _,y⟩⟩
end
end Go.Proofs.YtieooapcfpimlaaGreatDoor
