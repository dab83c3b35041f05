import Derived.Test.YtkgbdddkcjpgfaaGreatDoorT15
namespace Go.Proofs.YtkgbdddkcjpgfaaGreatDoor
set_option maxHeartbeats 1000000
set_option maxRecDepth 100000
open Go.Proofs.Tryz
open Pl (PV PW PS SR AE arity AO AH BR C8 DN DY DW)
section
open Go.RowKit
variable {w w0 w':World} {wb n k:Nat} {pv qv cv lv gv lv':Value} {qs cs:List Value}
theorem mZ(g w:World)(wb:Nat)(M:Nat->Prop)(W:PW)(x y:PV)(h:RW g wb M W)(d:Below g.heap.size g w)(hn:W.pairs.length<=1000000000) :Calls prog 174 #[.pointer (some ⟨wb,0,none⟩),bT x,bT y] w fun e u=>e=.returned (bT (.pair W.pairs.length))/\∃z,RW u wb z {W with pairs:=W.pairs++[(x,y)]}/\Stp M g z u/\∀(R:Nat)(j:Array Value),g.heap.size<=R->w.heap[R]?=some (.cells j TV (0,0))->u.heap[R]?=some (.cells j TV (0,0))/\∀A,u.grownBy A (some R)->RW A wb z {W with pairs:=W.pairs++[(x,y)]}/\Stp M g z A:=by
 obtain⟨i0,D,E,F,G⟩:=info_parts Tryz.TW;obtain⟨B,I,J,K,L,qs,cs,rfl,h⟩:=h;have H:=h_ h;have n:Hid (EV w wb W B I J K L qs cs):=h.later (fun k hk=>d.block k hk) (Stp.AA d);have U:=aB h.blk;have p:=aB n.blk;have c3:w.cell? ⟨wb,0,none⟩=some B:=aA n.blk 0;have N:=h_ d;have O:=d.size;have a3:=fun C P Q=>(YW (o:=0) p C P Q C).1;have a4:=fun C P Q o4=>(YW (o:=0) p C P Q o4).2.1;clear h d;unfold bT AM;go_enter func174,ntmps174;go_wp2_with fail
 go_region_law ((refine step_append_lies _ (by rfl) _ _ _ (by rfl) 0 263 i0 _ 6 80 underlying90 D E F G rfl (by omega) B W.pairs.length (W.pairs.flatMap mG) (by rfl) (((((n.pr.alloc _).alloc _).alloc _).alloc _).drew) ⟨w.heap.size+3,0,none⟩ 1 1 (mG (x,y)) (by rfl) (by rfl) (World.news_of_block (cs:=#[AM (vK x),.int .i64 (vN x),AM (vS x),AM (vK y),.int .i64 (vN y),AM (vS y)]) (t:=263) (fr:=(0,0)) (B_ w _ _ _ _ _)) (by simp [Value.oneCell',cZ,mG,AM]) (by omega) (by unfold maxLen;omega) (by omega) (by simp) (w.heap.size+4) (by simp) ?_;intro i b V f a c q;obtain⟨k1,k2,Y⟩:=fD n.blk (jU w _ _ _ _) a (aN n.pr) (by decide) 0 B rfl))
 all_goals
  have Z:=tV (wb:=wb) (wO a (new3 w _ _ _ _ _) (fun e=>by have:=(H.pr.lt _ e).2;omega)) (show w.heap.size+2≠wb from by omega) 0 (.slice (some ⟨i,0,none⟩) (W.pairs.length+1) b);obtain⟨q1,q2⟩:=H.O4 (N.trans ((jU w _ _ _ _).mono O)) a _ (x,y) f (tH c (by omega))
  have hm:¬CQ wb [.slice (some ⟨i,0,none⟩) (W.pairs.length+1) b,I,J,K,L] (w.heap.size+2):=jM H (sl:=.slice (some ⟨i,0,none⟩) (W.pairs.length+1) b) (by intro x r;simp only [List.mem_cons,List.not_mem_nil,or_false] at r ⊢;rcases r with rfl | rfl | rfl | rfl | rfl<;>simp) (by omega) (by
   rcases c with e | rfl
   ·have:=(H.pr.lt _ e).2;simp [Value.ownBlock];omega
   ·simp [Value.ownBlock])
  have s:Hid (∀R,g.heap.size<=R->R<w.heap.size->(V.setCell ⟨wb,0,none⟩ (.slice (some ⟨i,0,none⟩) (W.pairs.length+1) b)).heap[R]?=w.heap[R]?):=by intro R l m;rw [Below.heap_setCell _ _ _ _ (fun e=>by simp at e;omega),a.block R (by simp;omega) (fun e=>by have:=(H.pr.lt _ e.symm).2;omega)];exact(jU w _ _ _ _).block R m
  have S:Hid (∀R,g.heap.size<=R->R<w.heap.size->¬CQ wb [.slice (some ⟨i,0,none⟩) (W.pairs.length+1) b,I,J,K,L] R):=fun R l m=>jM H (sl:=.slice (some ⟨i,0,none⟩) (W.pairs.length+1) b) (by intro x r;simp only [List.mem_cons,List.not_mem_nil,or_false] at r ⊢;rcases r with rfl | rfl | rfl | rfl | rfl<;>simp) l (by
   rcases c with e | rfl
   ·have:=(H.pr.lt _ e).2;simp [Value.ownBlock];omega
   ·simp [Value.ownBlock];omega)
  have HM:=h_ hm;have Q1:=h_ q1;have Q2:=h_ q2;have k4:=Y (.slice (some ⟨i,0,none⟩) (W.pairs.length+1) b);clear q1 q2 f a c q hm k1 k2 Y;generalize V.setCell ⟨wb,0,none⟩ (.slice (some ⟨i,0,none⟩) (W.pairs.length+1) b)=X at *;obtain⟨r0,r1,r2,f0,f1,f2,s1,s2,s3⟩:=FA Z;clear Z;go_wp2_with fail
  (try simp only [Exit.inBlock,Exit.then])
  refine bodyPost_ret (v:=bT (.pair W.pairs.length)) ?_ rfl ?_
  ·rw [aO rfl];simp only [bT,AM,vK,vN,vS,pI]
   go_simp
  ·obtain⟨z1,z2⟩:=H.after Q1 Q2 rfl rfl (e6 X (w.heap.size+2) _ _ _) (by omega) HM;refine⟨rfl,_,⟨_,_,_,_,_,_,_,rfl,z1⟩,z2,fun R j l m=>⟨?_,fun A T=>?_⟩⟩
   ·have hR:=aB m;rw [(e6 X (w.heap.size+2) _ _ _).block R ?_ (by simp;omega),s.out R l hR,m];have:=s.out R l hR;rw [m] at this;exact aB this
   ·obtain⟨y1,y2⟩:=H.after z1 z2 rfl rfl T l (S R l (aB m));exact⟨⟨_,_,_,_,_,_,_,rfl,y1⟩,y2⟩
def iE:List Nat:=[2,2,2,2,2,2,1,1,1,1,2,1,1]
def DU(s:AE)(n k:Nat):Prop:=∀j,j<k->∀h:j<13,AO[j]'h=s->iE[j]'h=n
theorem DU.start(s:AE)(n:Nat):DU s n 0:=fun j a=>by omega
theorem DU.next{s:AE}(h:DU s n k)(a:k<13)(b:AO[k]'a=s->iE[k]'a=n):DU s n (k+1):=fun j f c e=>by
 by_cases d:j=k
 ·subst d;exact b e
 ·exact h j (by omega) c e
theorem jD:∀k:Nat,∀h:k<13,iE[k]'h=arity (AO[k]'h):=by decide
theorem DU.done{s:AE}(h:DU s n 13)(b:s∈AO):n=arity s:=by obtain⟨k,c,rfl⟩:=List.getElem_of_mem b;have a:k<13:=c;rw [<- h k a a rfl];exact jD k a
def aW:Nat->AE
 | 0=>[43]
 | 1=>[45]
 | 2=>[42]
 | 3=>[60]
 | 4=>[61]
 | 5=>[99,111,110,115]
 | 6=>[99,97,114]
 | 7=>[99,100,114]
 | 8=>[110,117,108,108,63]
 | 9=>[112,97,105,114,63]
 | 10=>[101,113,63]
 | 11=>[100,105,115,112,108,97,121]
 | 12=>[99,97,108,108,47,99,99]
 | _=>[]
def RR:Nat->Int
 | 0=>2
 | 1=>2
 | 2=>2
 | 3=>2
 | 4=>2
 | 5=>2
 | 6=>1
 | 7=>1
 | 8=>1
 | 9=>1
 | 10=>2
 | 11=>1
 | 12=>1
 | _=>0
theorem bR:∀k:Nat,∀h:k<13,AO[k]'h=aW k:=by decide
theorem U6:∀k:Nat,∀h:k<13,RR k=((iE[k]'h:Nat):Int):=by decide
theorem oD(h:k<13)(e:iE[k]'h=n):(RR k !=(n:Int))=false:=by rw [U6 k h,e];simp
theorem jW(h:k<13)(e:¬iE[k]'h=n):(RR k !=(n:Int))=true:=by rw [U6 k h];simp;omega
theorem DU.fail{s:AE}(a:k<13)(b:AO[k]'a=s)(c:¬iE[k]'a=n):¬n=arity s:=by subst b;rw [<- jD k a];exact fun e=>c e.symm
theorem F9.pre{M:Nat->Prop}{wA:World}{xb:Nat}{r:SR}{e:Ending}(a:Below w.heap.size w wA)(h:F9 M wA wb xb r e w'):F9 M w wb xb r e w':=by obtain⟨b,c,d,f,g⟩:=h;exact⟨b,c,d,((Stp.AA a).mx xb).trans f,g⟩
theorem fE{l:List PV}(h:l.length=2):∃a b,l=[a,b]:=by
 match l,h with
 | [a,b],_=>exact⟨a,b,rfl⟩
theorem jK{l:List PV}(h:l.length=1):∃a,l=[a]:=by
 match l,h with
 | [a],_=>exact⟨a,rfl⟩
theorem nullT(W:PW)(S:PS)(x:PV):AH W S (.AZ DY) [x]=⟨0,W,S.A1 (.AT (vK x==[101,109,112,116,121]))⟩:=by cases x<;>rfl
theorem pairT(W:PW)(S:PS)(x:PV):AH W S (.AZ DW) [x]=⟨0,W,S.A1 (.AT (vK x==[112,97,105,114]))⟩:=by cases x<;>rfl
theorem carT(W:PW)(S:PS)(i:Nat)(p:PV×PV)(h:W.pairs[i]?=some p):AH W S (.AZ DN) [.pair i]=⟨0,W,S.A1 p.1⟩:=by show(match W.pairs[i]? with | some p=>(⟨0,W,S.A1 (if DN=C8 then p.2 else p.1)⟩:SR) | none=>⟨9,W,S⟩)=_;rw [h];rfl
theorem cdrT(W:PW)(S:PS)(i:Nat)(p:PV×PV)(h:W.pairs[i]?=some p):AH W S (.AZ C8) [.pair i]=⟨0,W,S.A1 p.2⟩:=by show(match W.pairs[i]? with | some p=>(⟨0,W,S.A1 (if C8=C8 then p.2 else p.1)⟩:SR) | none=>⟨9,W,S⟩)=_;rw [h];rfl
theorem carN(W:PW)(S:PS)(x:PV)(h:∀i,x≠.pair i):AH W S (.AZ DN) [x]=⟨9,W,S⟩:=by
 cases x with
 | pair i=>exact absurd rfl (h i)
 | _=>rfl
theorem cdrN(W:PW)(S:PS)(x:PV)(h:∀i,x≠.pair i):AH W S (.AZ C8) [x]=⟨9,W,S⟩:=by
 cases x with
 | pair i=>exact absurd rfl (h i)
 | _=>rfl
theorem Z5(W:PW)(S:PS)(x y:PV)(b:Bool)(h:decide (x=y)=b):AH W S (.AZ BR) [x,y]=⟨0,W,S.A1 (.AT b)⟩:=by subst h;rfl
theorem pv_ext(x y:PV)(e:vK x=vK y)(c:vN x=vN y)(d:vS x=vS y):x=y:=by
 cases x<;>cases y<;>first
  | (simp [vK,kNu,F_,kNa,kEmp,kNot,pI,s5,pJ,pH] at e;done)
  | rfl
  | (simp only [vN] at c;subst c;rfl)
  | (simp only [vS] at d;subst d;rfl)
  | (simp only [vN] at c;have c:=Int.ofNat.inj c;subst c;rfl)
  | (rename_i a b;cases a<;>cases b<;>first | rfl | exact absurd c (by decide))
theorem aggP(n:Nat):bT (.pair n)=.agg #[.string ⟨#[112,97,105,114]⟩,.int .i64 n,.string ⟨#[]⟩]:=rfl
theorem eZ{W:PW}{S:PS}{s:AE}{l:List PV}(h:¬l.length=arity s):AH W S (.AZ s) l=⟨10,W,S⟩:=by unfold AH;dsimp only;rw [if_pos h]
structure NA(w0 w:World)(wb:Nat)(W:PW)(pv qv cv lv gv:Value)(qs cs:List Value)(l:List PV)(lv':Value):Prop where
 old:EV w0 wb W pv qv cv lv gv qs cs
 IV:Chg w0 w wb lv.ownBlock
 blk:w.heap[wb]?=some (.cells #[pv,qv,cv,lv',gv,AM W.out] MG (0,0))
 row:w.ownsRow 0 TV 3 lv' (W.places.length+l.length) ((W.places++l).flatMap cZ)
 at_:∀k,lv'.ownBlock=some k->lv.ownBlock=some k\/w0.heap.size<=k
theorem NA.start{W:PW}(h:EV w0 wb W pv qv cv lv gv qs cs)(a:Below w0.heap.size w0 w):NA w0 w wb W pv qv cv lv gv qs cs [] lv:=by have c:=h.later (fun k b=>a.block k b) (Stp.AA a);exact⟨h,⟨a.os,a.tape,a.output,a.size,fun k b _ _=>a.block k b⟩,c.blk,by simpa using c.pl,fun k b=>.inl b⟩
theorem NA.grown{W:PW}{l:List PV}(h:NA w0 w wb W pv qv cv lv gv qs cs l lv'){row:Option Nat}(a:w.grownBy w' row)(d:∀k,row=some k->w0.heap.size<=k/\lv'.ownBlock≠some k):NA w0 w' wb W pv qv cv lv gv qs cs l lv':=by
 have m:=aB h.old.blk;have f:=h.IV.size;refine⟨h.old,⟨a.os.trans h.IV.os,a.tape.trans h.IV.tape,a.output.trans h.IV.output,t_ f a.size,fun k n o p=>?_⟩,?_,?_,h.at_⟩
 ·rw [a.block k (by omega) (fun e=>by have:=(d k e.symm).1;omega)];exact h.IV.block k n o p
 ·rw [a.block wb (aB h.blk) (fun e=>by have:=(d wb e.symm).1;omega)];exact h.blk
 ·refine⟨h.row.1,?_⟩;rcases h.row.2 with q | ⟨g,i,j,rfl,r,b,c⟩
  ·exact .inl q
  ·exact .inr ⟨g,i,j,rfl,r,(a.block g (aB b) (fun e=>(d g e.symm).2 rfl)).trans b,c⟩
theorem NA.later{W:PW}{l:List PV}(h:NA w0 w wb W pv qv cv lv gv qs cs l lv')(a:Below w.heap.size w w'):NA w0 w' wb W pv qv cv lv gv qs cs l lv' :=h.grown (aQ none a) (fun k e=>by cases e)
theorem NA.done{W:PW}{l:List PV}(h:NA w0 w wb W pv qv cv lv gv qs cs l lv') :EV w wb {W with places:=W.places++l} pv qv cv lv' gv qs cs/\Stp (CQ wb [pv,qv,cv,lv,gv]) w0 (CQ wb [pv,qv,cv,lv',gv]) w:=by have a:=aN h.old.pl;have c:Stp (CQ wb [pv,qv,cv,lv,gv]) w0 (CQ wb [pv,qv,cv,lv',gv]) w :=h.IV.AQ (fun k e=>.inr ⟨lv,by simp,e⟩) (fJ (v:=lv) (v':=lv') (by simp) (by intro x d;simp only [List.mem_cons,List.not_mem_nil,or_false] at d ⊢;rcases d with rfl | rfl | rfl | rfl | rfl<;>simp) h.at_);refine⟨h.old.upd c h.blk (aL h.old.pr h.IV h.old.blk a (by decide) (by decide)) (aL h.old.pc h.IV h.old.blk a (by decide) (by decide)) (aL h.old.cn h.IV h.old.blk a (by decide) (by decide)) ?_ (aL h.old.gl h.IV h.old.blk a (by decide) (by decide)) h.old.out (fun i p b=>.inl ⟨b,rfl,rfl⟩) (fun i f b=>.inl ⟨b,rfl⟩),c⟩;simpa using h.row
theorem NA.ne{W:PW}{l:List PV}(h:NA w0 w wb W pv qv cv lv gv qs cs l lv'):∀k,lv'.ownBlock=some k->k≠wb/\k<w.heap.size:=fun k b=>by obtain⟨c,a⟩:=aN h.row k b;exact⟨fun e=>by subst e;exact absurd (aK a h.blk).2 (by decide),aB a⟩
theorem rW(y w:World)(wb:Nat)(W:PW)(z A B C D:Value)(E cs:List Value)(l:List PV)(c:Value)(x:PV)(h:NA y w wb W z A B C D E cs l c)(Q:W.places.length+l.length<=1000000000) :Calls prog 125 #[.pointer (some ⟨wb,0,none⟩),bT x] w fun e F=>e=.returned (.int .i64 ((W.places.length+l.length:Nat):Int))/\∃j,NA y F wb W z A B C D E cs (l++[x]) j/\w.heap.size<=F.heap.size/\(∀k,k<w.heap.size->k≠wb->c.ownBlock≠some k->F.heap[k]?=w.heap[k]?)/\(∀k,j.ownBlock=some k->c.ownBlock=some k\/w.heap.size<=k):=by
 obtain⟨R,G,I,J,K⟩:=info_parts Tryz.TU;have H:=h_ h;have L:=aB h.blk;have U:w.cell? ⟨wb,3,none⟩=some c:=aA h.blk 3;obtain⟨V,X,Y,Z⟩:=bM (o:=3) L;clear h;obtain⟨N,M⟩:∃N,N=W.places.length+l.length:=⟨_,rfl⟩
 have O:=h_ M;rw [<- M] at Q;clear M;have f:Hid (w.ownsRow 0 TV 3 c N ((W.places++l).flatMap cZ)):=show World.ownsRow _ _ _ _ _ _ _ from by rw [O.out];exact H.row
 unfold bT AM;go_enter func125,ntmps125;go_wp2_with fail
 go_region_law ((refine step_append_lies _ (by rfl) _ _ _ (by rfl) 0 154 R _ 3 40 underlying93 G I J K rfl (by omega) c N ((W.places++l).flatMap cZ) (by rfl) (((f.alloc _).alloc _).drew) ⟨w.heap.size+1,0,none⟩ 1 1 (cZ x) (by rfl) (by rfl) (World.news_of_block (cs:=#[AM (vK x),.int .i64 (vN x),AM (vS x)]) (t:=154) (fr:=(0,0)) (zN w _ _ _)) (by simp [Value.oneCell',cZ,AM]) (by omega) (by unfold maxLen;omega) (by omega) (by simp) (w.heap.size+2) (by simp) ?_;intro m b P g a i q;obtain⟨k1,k2,k3⟩:=fD H.blk (jV w _ _) a (aN f) (by decide) 3 c rfl))
 all_goals
  have S:Hid (NA y (P.setCell ⟨wb,3,none⟩ (.slice (some ⟨m,0,none⟩) (N+1) b)) wb W z A B C D E cs (l++[x]) (.slice (some ⟨m,0,none⟩) (N+1) b)):=by
   have r:=mJ H.blk (jV w _ _) a (aN f) (by decide);have n:=dJ (jV w _ _) a (wb:=wb) 3 (.slice (some ⟨m,0,none⟩) (N+1) b);have d:=H.IV;refine⟨H.old,⟨n.os.trans d.os,n.tape.trans d.tape,n.output.trans d.output,t_ d.size n.size,fun k p u v=>?_⟩,by rw [aD r];rfl,?_,?_⟩
   ·rw [n.block k (l_ p d.size) u ?_,d.block k p u v];intro e;rcases H.at_ k e.symm with s | s
    ·exact v s.symm
    ·omega
   ·have this:World.ownsRow _ 0 TV 3 _ _ _:=fH r (by decide) 3 (.slice (some ⟨m,0,none⟩) (N+1) b) g;rw [a_,List.length_singleton,<-Nat.add_assoc,<-O.out,<-List.append_assoc,List.flatMap_append];simpa using this
   ·intro k p;simp only [Value.ownBlock,o_] at p;subst p;rcases i with s | s
    ·exact H.at_ _ s
    ·have:=d.size;exact .inr (by omega)
  have T:Hid (w.heap.size<=(P.setCell ⟨wb,3,none⟩ (.slice (some ⟨m,0,none⟩) (N+1) b)).heap.size/\(∀k,k<w.heap.size->k≠wb->c.ownBlock≠some k->(P.setCell ⟨wb,3,none⟩ (.slice (some ⟨m,0,none⟩) (N+1) b)).heap[k]?=w.heap[k]?)/\(∀k,Value.ownBlock (.slice (some ⟨m,0,none⟩) (N+1) b)=some k->c.ownBlock=some k\/w.heap.size<=k)):=by have n:=dJ (jV w _ _) a (wb:=wb) 3 (.slice (some ⟨m,0,none⟩) (N+1) b);exact⟨n.size,fun k p u v=>n.block k p u (fun e=>v e.symm),tH i (by omega)⟩
  clear g a i q H f;go_wp2_with fail;go_ret;exact⟨by rw [<- O.out];go_num,_,S,T⟩
end
end Go.Proofs.YtkgbdddkcjpgfaaGreatDoor
