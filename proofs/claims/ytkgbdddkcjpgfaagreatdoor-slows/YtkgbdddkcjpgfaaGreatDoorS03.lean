import GoSem.ClaimWide
import Derived.Test.YtkgbdddkcjpgfaaGreatDoorS01
import Derived.Deep.QuietTactic
import Derived.BigQuiet
import Derived.Test.YtkgbdddkcjpgfaaGreatDoorS02
import Derived.Deep.AppendLies
namespace Go.Proofs.YtkgbdddkcjpgfaaGreatDoor
set_option maxHeartbeats 1000000
set_option maxRecDepth 100000
section
variable {dp:Nat} {gr:Bool}
namespace Pl
abbrev Tok:=List UInt8
abbrev Tre:=DataW Unit
def tOpen:Tok:=[40]
def g8:Tok:=[41]
def tN:Tok:=[39]
def tTrue:Tok:=[35,116]
def tO:Tok:=[35,102]
def quoteW:List UInt8:=[113,117,111,116,101]
structure PR where
 t:Tre
 q:List Tok
 dp:Nat
 gr:Bool
structure PL where
 ts:List Tre
 q:List Tok
 dp:Nat
 gr:Bool
def pw(t:Tok):Option (Tre×Bool) :=if isNum t then some (.lit (.int .i64 (sval t)),great t) else if noDig t then some (.lit (.string t),false) else none
def pls(f:List Tok->Option PR):Nat->List Tok->Option PL
 | 0,_=>none
 | _+1,[]=>none
 | k+1,t::r =>
  if t=g8 then some ⟨[],r,0,false⟩
  else match f (t::r) with
   | none=>none
   | some p=>(pls f k p.q).map fun l=>⟨p.t::l.ts,l.q,max p.dp l.dp,p.gr||l.gr⟩
theorem pls_cons(f:List Tok->Option PR)(k:Nat)(t:Tok)(r:List Tok):pls f (k+1) (t::r)=if t=g8 then some ⟨[],r,0,false⟩ else match f (t::r) with
  | none=>none
  | some p=>(pls f k p.q).map fun l=>⟨p.t::l.ts,l.q,max p.dp l.dp,p.gr||l.gr⟩:=rfl
def pd:Nat->List Tok->Option PR
 | 0,_=>none
 | _+1,[]=>none
 | n+1,t::r =>
  if t=g8 then none
  else if t=tTrue then some ⟨.lit (.bool true),r,0,false⟩
  else if t=tO then some ⟨.lit (.bool false),r,0,false⟩
  else if t=tN then(pd n r).map fun p=>⟨.agg [.lit (.string quoteW),p.t],p.q,p.dp+1,p.gr⟩
  else if t=tOpen then(pls (pd n) r.length r).map fun p=>⟨.agg p.ts,p.q,p.dp+1,p.gr⟩
  else(pw t).map fun p=>⟨p.1,r,0,p.2⟩
theorem pd_close(n:Nat)(t:Tok)(r:List Tok)(h:t=[41]):pd (n+1) (t::r)=none:=by subst h;rfl
theorem pd_true(n:Nat)(t:Tok)(r:List Tok)(h:t=[35,116]):pd (n+1) (t::r)=some ⟨.lit (.bool true),r,0,false⟩:=by subst h;rfl
theorem pd_false(n:Nat)(t:Tok)(r:List Tok)(h:t=[35,102]):pd (n+1) (t::r)=some ⟨.lit (.bool false),r,0,false⟩:=by subst h;rfl
theorem pd_quote(n:Nat)(t:Tok)(r:List Tok)(h:t=[39]):pd (n+1) (t::r)=(pd n r).map fun p=>⟨.agg [.lit (.string quoteW),p.t],p.q,p.dp+1,p.gr⟩:=by subst h;rfl
theorem pd_open(n:Nat)(t:Tok)(r:List Tok)(h:t=[40]):pd (n+1) (t::r)=(pls (pd n) r.length r).map fun p=>⟨.agg p.ts,p.q,p.dp+1,p.gr⟩:=by subst h;rfl
theorem pd_word(n:Nat)(t:Tok)(r:List Tok)(h1:¬t=[41])(h2:¬t=[35,116])(h3:¬t=[35,102])(h4:¬t=[39])(h5:¬t=[40]):pd (n+1) (t::r)=(pw t).map fun p=>⟨p.1,r,0,p.2⟩:=by show(if t=g8 then none else if t=tTrue then _ else if t=tO then _ else if t=tN then _ else if t=tOpen then _ else _)=_;rw [if_neg (show ¬t=g8 from h1),if_neg (show ¬t=tTrue from h2),if_neg (show ¬t=tO from h3),if_neg (show ¬t=tN from h4),if_neg (show ¬t=tOpen from h5)]
def Tail(q l:List Tok):Prop:=q <:+ l/\q.length<l.length
theorem Tail.cons(t:Tok)(r:List Tok):Tail r (t::r):=⟨List.suffix_cons t r,by simp⟩
theorem Tail.trans{a b c:List Tok}(h:Tail a b)(k:Tail b c):Tail a c:=⟨h.1.trans k.1,by have:=h.2;have:=k.2;omega⟩
theorem qL(f:List Tok->Option PR)(hf:∀l p,f l=some p->Tail p.q l):∀(k:Nat)(l:List Tok)(p:PL),pls f k l=some p->Tail p.q l
 | 0,_,_,h=>by simp [pls] at h
 | _+1,[],_,h=>by simp [pls] at h
 | k+1,t::r,p,h=>by
  unfold pls at h;split at h
  ·obtain rfl:=Option.some.inj h;exact Tail.cons t r
  ·cases hp:f (t::r) with
   | none=>rw [hp] at h;simp at h
   | some p1 =>rw [hp] at h;simp only [Option.map_eq_some_iff] at h;obtain⟨l,hl,rfl⟩:=h;exact(qL f hf k p1.q l hl).trans (hf _ _ hp)
theorem pd_tail:∀(n:Nat)(l:List Tok)(p:PR),pd n l=some p->Tail p.q l
 | 0,_,_,h=>by simp [pd] at h
 | _+1,[],_,h=>by simp [pd] at h
 | n+1,t::r,p,h=>by
  unfold pd at h;split at h
  ·simp at h
  split at h
  ·obtain rfl:=Option.some.inj h;exact Tail.cons t r
  split at h
  ·obtain rfl:=Option.some.inj h;exact Tail.cons t r
  split at h
  ·simp only [Option.map_eq_some_iff] at h;obtain⟨p1,hp,rfl⟩:=h;exact(pd_tail n r p1 hp).trans (Tail.cons t r)
  split at h
  ·simp only [Option.map_eq_some_iff] at h;obtain⟨p1,hp,rfl⟩:=h;exact(qL (pd n) (pd_tail n) _ r p1 hp).trans (Tail.cons t r)
  ·simp only [Option.map_eq_some_iff] at h;obtain⟨p1,hp,rfl⟩:=h;exact Tail.cons t r
def LF(f:List Tok->Option PR)(r0:List Tok)(ts:List Tre)(dp:Nat)(gr:Bool)(q:List Tok):Prop :=∃k,q.length<=k/\pls f r0.length r0=(pls f k q).map fun l=>⟨ts++l.ts,l.q,max dp l.dp,gr||l.gr⟩
theorem LF.start(f:List Tok->Option PR)(r0:List Tok):LF f r0 [] 0 false r0:=⟨r0.length,Nat.le_refl _,by cases pls f r0.length r0<;>simp⟩
theorem LF.close{f:List Tok->Option PR}{r0:List Tok}{ts:List Tre}{r:List Tok}(h:LF f r0 ts dp gr (g8::r)):pls f r0.length r0=some ⟨ts,r,dp,gr⟩:=by
 obtain⟨k,hk,h⟩:=h
 cases k with
 | zero=>simp at hk
 | succ k=>rw [h];unfold pls;simp
theorem LF.none_{f:List Tok->Option PR}{r0:List Tok}{ts:List Tre}(h:LF f r0 ts dp gr []):pls f r0.length r0=none:=by
 obtain⟨k,hk,h⟩:=h;rw [h]
 cases k<;>simp [pls]
theorem LF.fail{f:List Tok->Option PR}{r0:List Tok}{ts:List Tre}{t:Tok}{r:List Tok}(h:LF f r0 ts dp gr (t::r))(ht:¬t=g8)(hf:f (t::r)=none):pls f r0.length r0=none:=by
 obtain⟨k,hk,h⟩:=h
 cases k with
 | zero=>simp at hk
 | succ k=>rw [h];unfold pls;simp [ht,hf]
theorem LF.more{f:List Tok->Option PR}{r0:List Tok}{ts:List Tre}{t:Tok}{r:List Tok}{p:PR}(h:LF f r0 ts dp gr (t::r))(ht:¬t=g8)(hf:f (t::r)=some p)(hl:p.q.length<(t::r).length):LF f r0 (ts++[p.t]) (max dp p.dp) (gr||p.gr) p.q:=by
 obtain⟨k,hk,h⟩:=h
 cases k with
 | zero=>simp at hk
 | succ k =>
  simp only [List.length_cons] at hk hl;refine⟨k,by omega,?_⟩;rw [h,pls_cons,if_neg ht,hf];dsimp only
  cases pls f k p.q<;>simp [Nat.max_assoc,Bool.or_assoc]
theorem suffix_get{all l:List Tok}{t:Tok}{r:List Tok}(h:l <:+ all)(hl:l=t::r):∃hi:all.length-l.length<all.length,all[all.length-l.length]=t:=by subst hl;obtain⟨pre,rfl⟩:=h;refine⟨by simp,?_⟩;simp
end Pl
end
open Go.Proofs.Tryz
section
open Go.RowKit
variable {w wr:World} {L v kids:Value} {all r q:List (List UInt8)} {n b dp de G dpk:Nat} {g gk:Bool} {vs:List Value} {t:List UInt8} {ok:Nat->Prop}
def ToksAt(w:World)(L:Value)(all:List (List UInt8)):Prop:=w.ownsRow 0 9 1 L all.length (all.map eB)
theorem ToksAt.keep{w':World}{c:Array Value}{f:Nat×Nat}(h:ToksAt w L all)(hg:w.grownBy w' (some b))(hb:w.heap[b]?=some (.cells c TR f)):ToksAt w' L all:=by
 refine World.ownsRow.kept h hg ?_;by_cases hL:L.ownBlock=some b
 ·exfalso;rcases h.2 with⟨hv,_⟩ | ⟨g,cap,cur,hv,_,hgg,_⟩
  ·subst hv;simp [Value.ownBlock] at hL
  ·subst hv;simp only [Value.ownBlock,Option.some.injEq] at hL;subst hL;rw [hb] at hgg;simp only [Option.some.injEq,Obj.cells.injEq] at hgg;have:=hgg.2.1;simp [TR] at this
 ·exact .inr hL
def DatPost(n:Nat)(w:World)(b:Nat)(L:Value)(all:List (List UInt8))(dp de:Nat)(g:Bool)(l:List (List UInt8))(e:Ending)(w':World):Prop :=
 w.grownBy w' (some b) /\
 match Pl.pd n l with
 | none=>e=.returned (.pointer none)
 | some p=>∃v,e=.returned v/\RepR (fun k=>w.heap.size<=k) n w' v p.t/\Rd w' b L ((all.length-p.q.length:Nat):Int) ((max dp (de+p.dp):Nat):Int) (g||p.gr)
def DatSaid(n:Nat):Prop:=∀(w:World)(b:Nat)(L:Value) (all l:List (List UInt8)) (dp de:Nat) (g:Bool),Rd w b L ((all.length-l.length:Nat):Int) (dp:Int) g->ToksAt w L all->l <:+ all->l.length<=n->all.length<=1000 ->
 de+l.length<=2000->de<=dp->(∀t∈all,t.length<=1000)->∀x:Int,x=(de:Int)->Calls prog 72 #[.pointer (some ⟨b,0,none⟩),.int .i64 x] w fun e w'=>DatPost n w b L all dp de g l e w'
theorem dM(h:ToksAt w L all):∃ao cap,L=.slice ao all.length cap/\all.length<=cap/\∀(i:Nat)(t:List UInt8),all[i]?=some t->∃g,ao=some ⟨g,0,none⟩/\w.cell? ⟨g,i,none⟩=some (.string ⟨t.toArray⟩):=by
 rcases h.2 with⟨hv,h0⟩ | ⟨g,cap,cur,hv,_,hg,hc,_,_,ht⟩
 ·have:all=[]:=List.eq_nil_of_length_eq_zero h0;subst this;exact⟨none,0,hv,Nat.le_refl _,fun i t hi=>by simp at hi⟩
 ·refine⟨some ⟨g,0,none⟩,cap,hv,hc,fun i t hi=>⟨g,rfl,?_⟩⟩;have hx:(all.map eB)[i]?=some (eB t):=by rw [List.getElem?_map,hi];rfl
  have:=h.cells (g:=g) (by rw [hv];rfl) i (eB t) hx
  rwa [show(⟨g,0,none⟩:Addr).add i=⟨g,i,none⟩ from by rw [Addr.add_lit,Nat.zero_add]] at this
theorem fV(n:Nat)(w:World)(b:Nat)(L:Value)(all:List (List UInt8))(dp de:Nat)(g:Bool)(hR:Rd w b L ((all.length-0:Nat):Int) (dp:Int) g)(hT:ToksAt w L all) :Calls prog 72 #[.pointer (some ⟨b,0,none⟩),.int .i64 de] w fun e w'=>DatPost n w b L all dp de g [] e w':=by
 obtain⟨ao,cap,rfl,hcap,hcell⟩:=dM hT;obtain⟨c0,c1,c2,c3⟩:=hR.cells;have hpd:Hid (Pl.pd n []=none):=by cases n<;>rfl
 clear hR hT hcell;go_enter func72,ntmps72;go_wp2_with fail
 go_quiet (fail)
 go_wp2_with fail
 go_ret;refine⟨⟨rfl,rfl,rfl,Nat.le_refl _,fun _ _ _=>rfl⟩,?_⟩;rw [hpd.out];rfl
theorem bK{a b:World}{row:Option Nat}(h:a.grownBy b row)(n:Nat):a.grownBy (b.drewN n) row:=⟨h.os,h.tape,h.output,h.size,h.block⟩
theorem cK(a:World)(n:Nat)(row:Option Nat):a.grownBy (a.drewN n) row:=bK (World.grownBy.refl _ _) n
theorem RepR.drewN{m:Nat}{t:Tr}(h:RepR ok n w v t):RepR ok n (w.drewN m) v t:=RepR.keep (w:=w) (w':=w.drewN m) (fun _ _ _ _ _ h=>h) n v t h
theorem Rd.drewN{at_ dp:Int}(h:Rd w b L at_ dp g)(m:Nat):Rd (w.drewN m) b L at_ dp g:=h
theorem Rd.cast{at_ at2 dp dp2:Int}{g2:Bool}(h:Rd w b L at_ dp g)(h1:at_=at2)(h2:dp=dp2)(h3:g=g2):Rd w b L at2 dp2 g2:=by subst h1 h2 h3;exact h
theorem iS(h:t::r <:+ all):all.length-(t::r).length+1=all.length-r.length:=by have:=h.length_le;simp only [List.length_cons] at this ⊢;omega
theorem dI{w':World}{l:List (List UInt8)}{p:Pl.PR}{a d:Int}{g':Bool}(hpd:Pl.pd n l=some p)(hg:w.grownBy w' (some b))(hrep:RepR (fun k=>w.heap.size<=k) n w' v p.t)
  (hrd:Rd w' b L a d g') (ha:a=((all.length-p.q.length:Nat):Int)) (hd:d=((max dp (de+p.dp):Nat):Int)) (hgr:g'=(g||p.gr)):DatPost n w b L all dp de g l (.returned v) w':=by
 refine⟨hg,?_⟩;rw [hpd];exact⟨v,rfl,hrep,hrd.cast ha hd hgr⟩
theorem cB{o:Obj}{k:Nat}(h:k=w.heap.size):(w.alloc o).heap[k]?=some o:=by subst h;exact heap_alloc_new _ _
theorem fR(w:World)(a:Addr)(v:Value):(w.setCell a v).heap.size=w.heap.size:=by simp [World.setCell]
theorem kI(n:Nat)(w:World)(b:Nat)(L:Value)(all:List (List UInt8))(t:List UInt8)(r:List (List UInt8))(dp de:Nat)(g:Bool)(hR:Rd w b L ((all.length-(t::r).length:Nat):Int) (dp:Int) g)(hT:ToksAt w L all)(hsuf:t::r <:+ all)(hall:all.length<=1000)(hsz:∀t∈all,t.length<=1000)(hde:de<=dp)(h40:¬t=[40])(h39:¬t=[39]) :Calls prog 72 #[.pointer (some ⟨b,0,none⟩),.int .i64 de] w fun e w'=>DatPost (n+1) w b L all dp de g (t::r) e w':=by
 obtain⟨ao,cap,rfl,hcap,hcell⟩:=dM hT;obtain⟨hi,hg⟩:=Pl.suffix_get hsuf rfl;obtain⟨G,rfl,hc⟩:=hcell _ t (by rw [List.getElem?_eq_getElem hi,hg]);obtain⟨c0,c1,c2,c3⟩:=hR.cells;have f1:=aF hR 1;have f2:=aF hR 2;generalize hpos:all.length-(t::r).length=pos at *;have HP:Hid (pos+1=all.length-r.length):=by have:=iS hsuf;rw [<- hpos];exact this
 have HR:Hid (Rd w b _ _ _ _):=hR;have hsz0:t.length<=1000:=hsz t (hsuf.subset (by simp));have HT:Hid (ToksAt w _ all):=hT;clear hpos hg hT hcell hR hsz;have e40:(t==[40])=false:=by simpa using h40
 have e39:(t==[39])=false:=by simpa using h39
 by_cases h41:t=[41]
 ·have hpd:Hid (Pl.pd (n+1) (t::r)=none):=Pl.pd_close n t r h41;go_enter func72,ntmps72;go_wp2_with fail
  go_quiet (fail)
  go_wp2_with fail
  go_quiet (fail)
  go_wp2_with fail
  go_ret;refine⟨aC (cK _ _ _) (aE _ _ _ _),?_⟩;rw [hpd.out];rfl
 have e41:(t==[41])=false:=by simpa using h41
 by_cases hT1:t=[35,116]
 ·have hpd:Hid (Pl.pd (n+1) (t::r)=some ⟨.lit (.bool true),r,0,false⟩):=Pl.pd_true n t r hT1;go_enter func72,ntmps72;go_wp2_with fail
  go_quiet (fail)
  go_wp2_with fail
  go_quiet (fail)
  go_wp2_with fail
  go_ret;refine dI hpd.out (aC (cK _ _ _) (aC (aE _ _ _ _) (World.grownBy_alloc _ _ _))) (RepR.up 1 _ _ _ (Nat.le_add_left _ _) ⟨w.heap.size,rfl,Nat.le_refl _,cB (by rw [fR];rfl)⟩) (((HR.out.drewN _).set1 _).alloc _) ?_ ?_ ?_
  ·have:=HP.out;dsimp only;omega
  ·simp;omega
  ·simp
 have eT1:(t==[35,116])=false:=by simpa using hT1
 by_cases hF1:t=[35,102]
 ·have hpd:Hid (Pl.pd (n+1) (t::r)=some ⟨.lit (.bool false),r,0,false⟩):=Pl.pd_false n t r hF1;go_enter func72,ntmps72;go_wp2_with fail
  go_quiet (fail)
  go_wp2_with fail
  go_quiet (fail)
  go_wp2_with fail
  go_ret;refine dI hpd.out (aC (cK _ _ _) (aC (aE _ _ _ _) (World.grownBy_alloc _ _ _))) (RepR.up 1 _ _ _ (Nat.le_add_left _ _) ⟨w.heap.size,rfl,Nat.le_refl _,cB (by rw [fR];rfl)⟩) (((HR.out.drewN _).set1 _).alloc _) ?_ ?_ ?_
  ·have:=HP.out;dsimp only;omega
  ·simp;omega
  ·simp
 ·have hpd:Hid (Pl.pd (n+1) (t::r)=(Pl.pw t).map fun p=>⟨p.1,r,0,p.2⟩):=Pl.pd_word n t r h41 hT1 hF1 h39 h40;have eF1:(t==[35,102])=false:=by simpa using hF1
  go_enter func72,ntmps72
  go_wp2_with fail
  go_quiet (fail)
  go_wp2_with fail
  go_quiet (fail)
  go_wp2_with fail
  refine(qG b _ _ _ _ _ g ((HR.out.drewN _).set1 _) (show t.toArray.size<=1000 from by simpa using hsz0)).mono ?_;rintro e w' ⟨v,g',rfl,hgr,hRd,hcase⟩;have HG:Hid (w.grownBy w' (some b)):=aC (cK _ _ _) (aC (aE _ _ _ _) hgr);have HRd:Hid (Rd w' b _ _ _ g'):=hRd;have HC:Hid (_\/_):=hcase;clear hgr hRd hcase;go_wp2_with fail;go_ret;rcases HC.out with⟨h1,h2,h3⟩ | ⟨h1,h2,h3,h4⟩ | ⟨h1,h2,h3⟩
  ·have hp:Pl.pd (n+1) (t::r)=some ⟨.lit (.int .i64 (Pl.sval t)),r,0,Pl.great t⟩:=by rw [hpd.out];unfold Pl.pw;rw [if_pos h1];rfl
   refine dI hp HG.out (RepR.up 1 _ _ _ (Nat.le_add_left _ _) (RepR.mono (fun k _ hk=>?_) _ _ _ h3)) HRd.out ?_ ?_ ?_
   ·rw [fR] at hk;exact hk
   ·have:=HP.out;dsimp only;omega
   ·simp;omega
   ·exact h2
  ·have hp:Pl.pd (n+1) (t::r)=some ⟨.lit (.string t),r,0,false⟩:=by rw [hpd.out];unfold Pl.pw;rw [if_neg (by simp [h1]),if_pos h2];rfl
   refine dI hp HG.out (RepR.up 1 _ _ _ (Nat.le_add_left _ _) (RepR.mono (fun k _ hk=>?_) _ _ _ h4)) HRd.out ?_ ?_ ?_
   ·rw [fR] at hk;exact hk
   ·have:=HP.out;dsimp only;omega
   ·simp;omega
   ·simp [h3]
  ·have hp:Pl.pd (n+1) (t::r)=none:=by rw [hpd.out];unfold Pl.pw;rw [if_neg (by simp [h1]),if_neg (by simp [h2])];rfl
   refine⟨HG.out,?_⟩;rw [hp,h3];rfl
theorem uK{l:List (List UInt8)}{p:Pl.PR}(h:Pl.pd n l=some p):∃m,n=m+1:=by
 cases n with
 | zero=>simp [Pl.pd] at h
 | succ m=>exact⟨m,rfl⟩
theorem mW{t:Tr}(h:RepR ok (n+1) w v t)(hok:∀k,w.heap.size<=k->ok k)(o1 o2 o3:Obj)
  (h1:o1=.cells #[kNam,.int .i64 0,.string ⟨#[113,117,111,116,101]⟩,.slice none 0 0] TD (0,0))
  (h2:o2=.cells #[.pointer (some ⟨w.heap.size,0,none⟩),v] TP (0,0))
  (h3:o3=.cells #[s6,.int .i64 0,tI,.slice (some ⟨w.heap.size+1,0,none⟩) 2 2] TD (0,0)) :
  RepR ok (n+2) (((w.alloc o1).alloc o2).alloc o3) (.pointer (some ⟨w.heap.size+1+1,0,none⟩)) (.agg [.lit (.string Pl.quoteW),t]):=by
 have b1:Below w.heap.size w (((w.alloc o1).alloc o2).alloc o3):=(((Below.refl _ w).alloc (Nat.le_refl _) o1).alloc (by simp) o2).alloc (by simp;omega) o3;have e1:(((w.alloc o1).alloc o2).alloc o3).heap[w.heap.size]?=some o1:=by rw [Below.heap_alloc _ _ _ (by simp;omega),Below.heap_alloc _ _ _ (by simp)];exact cB rfl
 have e2:(((w.alloc o1).alloc o2).alloc o3).heap[w.heap.size+1]?=some o2:=by rw [Below.heap_alloc _ _ _ (by simp)];exact cB (by simp)
 have e3:(((w.alloc o1).alloc o2).alloc o3).heap[w.heap.size+1+1]?=some o3:=cB (by simp);refine⟨w.heap.size+1+1,rfl,hok _ (by omega),.slice (some ⟨w.heap.size+1,0,none⟩) 2 2,[.pointer (some ⟨w.heap.size,0,none⟩),v],by rw [e3,h3],?_,?_,?_,by simp⟩
 ·intro r hr;simp only [Value.ownBlock,Option.some.injEq] at hr;exact hok r (by omega)
 ·refine⟨rfl,.inr ⟨w.heap.size+1,2,_,rfl,Nat.zero_le _,by rw [e2,h2],by simp,by simp [maxLen],rfl,rfl⟩⟩
 ·intro i u x hu hx
  match i,hu,hx with
  | 0,hu,hx =>simp only [List.getElem?_cons_zero,Option.some.injEq] at hu hx;subst hu hx;exact RepR.up 1 _ _ _ (by omega) ⟨w.heap.size,rfl,hok _ (Nat.le_refl _),by rw [e1,h1];rfl⟩
  | 1,hu,hx =>simp only [List.getElem?_cons_succ,List.getElem?_cons_zero,Option.some.injEq] at hu hx;subst hu hx;exact RepR.keep (KeepD.of_below b1) _ _ _ h
  | (i+2),hu,hx=>simp at hu
theorem i8(n:Nat)(ih:DatSaid n)(w:World)(b:Nat)(L:Value)(all:List (List UInt8))(r:List (List UInt8))(dp de:Nat)(g:Bool)(hR:Rd w b L ((all.length-([39]::r).length:Nat):Int) (dp:Int) g)(hT:ToksAt w L all)(hsuf:[39]::r <:+ all)(hln:([39]::r).length<=n+1)(hall:all.length<=1000)(hdel:de+([39]::r).length<=2000)(hde:de<=dp)(hsz:∀t∈all,t.length<=1000) :Calls prog 72 #[.pointer (some ⟨b,0,none⟩),.int .i64 de] w fun e w'=>DatPost (n+1) w b L all dp de g ([39]::r) e w':=by
 have hsz':=hsz;have HI:Hid (DatSaid n):=ih;clear ih;obtain⟨t,ht⟩:∃t:List UInt8,t=[39]:=⟨_,rfl⟩
 rw [<- ht] at hR hsuf;obtain⟨ao,cap,rfl,hcap,hcell⟩:=dM hT;obtain⟨hi,hg⟩:=Pl.suffix_get hsuf rfl;obtain⟨G,rfl,hc⟩:=hcell _ t (by rw [List.getElem?_eq_getElem hi,hg]);obtain⟨c0,c1,c2,c3⟩:=hR.cells;have f1:=aF hR 1;have f2:=aF hR 2;generalize hpos:all.length-(t::r).length=pos at *;have HP:Hid (pos+1=all.length-r.length):=by have:=iS hsuf;rw [<- hpos];exact this
 have HR:Hid (Rd w b _ _ _ _):=hR;have hsz0:t.length<=1000:=hsz t (hsuf.subset (by simp));have HT:Hid (ToksAt w _ all):=hT;clear hpos hg hT hcell hR hsz;subst ht;have hsz:=hsz';clear hsz' hsz0;have hr1:r.length<=1000:=by have:=hsuf.length_le;simp at this;omega
 by_cases hd:dp<de+1
 ·go_enter func72,ntmps72
  go_wp2_with fail
  go_quiet (fail)
  go_wp2_with fail
  go_quiet (fail)
  go_wp2_with fail
  refine(HI.out _ b (.slice (some ⟨G,0,none⟩) all.length cap) all r (max dp (de+1)) (de+1) g ((((HR.out.drewN _).set1 _).set2 _).cast (by have:=HP.out;omega) (by omega) rfl) (HT.out.keep (aC (cK w _ (some b)) (aC (aE _ _ _ _) (aE _ _ _ _))) HR.out) ((List.suffix_cons _ _).trans hsuf) (by simp at hln;omega) hall (by simp at hdel;omega) (by omega) hsz _ (by omega)).mono ?_;rintro e w2 ⟨hgr,hpost⟩;have HG:Hid (w.grownBy w2 (some b)):=aC (aC (cK w _ (some b)) (aC (aE _ _ _ _) (aE _ _ _ _))) hgr
  cases hp:Pl.pd n r with
  | none =>
   rw [hp] at hpost;dsimp only at hpost;subst hpost;have hpd:Hid (Pl.pd (n+1) ([39]::r)=none):=by show Pl.pd _ _=_;rw [Pl.pd_quote n _ r rfl,hp];rfl
   clear hp hgr;go_wp2_with fail;go_ret;refine⟨HG.out,?_⟩;rw [hpd.out];rfl
  | some p =>
   rw [hp] at hpost;obtain⟨v,rfl,hrep,hRd2⟩:=hpost;have hpd:Hid (Pl.pd (n+1) ([39]::r)=some ⟨.agg [.lit (.string Pl.quoteW),p.t],p.q,p.dp+1,p.gr⟩):=by show Pl.pd _ _=_;rw [Pl.pd_quote n _ r rfl,hp];rfl
   obtain⟨m,rfl⟩:=uK hp;clear hp hgr;have HRep:Hid (RepR (fun k=>w.heap.size<=k) (m+1) w2 v p.t):=by refine RepR.mono ?_ _ _ _ hrep;intro k _ hk;exact Nat.le_trans (aC (cK w _ (some b)) (aC (aE _ _ _ _) (aE _ _ _ _))).size hk
   have HRd2:Hid (Rd _ _ _ _ _ _):=hRd2;obtain⟨vb,rfl,_⟩:=hrep;clear hRd2;go_wp2_with fail;go_ret;refine dI hpd.out (aC HG.out (aC (World.grownBy_alloc _ _ _) (aC (World.grownBy_alloc _ _ _) (World.grownBy_alloc _ _ _)))) (mW HRep.out (fun k hk=>Nat.le_trans HG.out.size hk) _ _ _ rfl rfl rfl) (((HRd2.out.alloc _).alloc _).alloc _) ?_ ?_ ?_
   ·rfl
   ·dsimp only;omega
   ·rfl
 ·go_enter func72,ntmps72
  go_wp2_with fail
  go_quiet (fail)
  go_wp2_with fail
  go_quiet (fail)
  go_wp2_with fail
  refine(HI.out _ b (.slice (some ⟨G,0,none⟩) all.length cap) all r (max dp (de+1)) (de+1) g (((HR.out.drewN _).set1 _).cast (by have:=HP.out;omega) (by omega) rfl) (HT.out.keep (aC (cK w _ (some b)) (aE _ _ _ _)) HR.out) ((List.suffix_cons _ _).trans hsuf) (by simp at hln;omega) hall (by simp at hdel;omega) (by omega) hsz _ (by omega)).mono ?_;rintro e w2 ⟨hgr,hpost⟩;have HG:Hid (w.grownBy w2 (some b)):=aC (aC (cK w _ (some b)) (aE _ _ _ _)) hgr
  cases hp:Pl.pd n r with
  | none =>
   rw [hp] at hpost;dsimp only at hpost;subst hpost;have hpd:Hid (Pl.pd (n+1) ([39]::r)=none):=by show Pl.pd _ _=_;rw [Pl.pd_quote n _ r rfl,hp];rfl
   clear hp hgr;go_wp2_with fail;go_ret;refine⟨HG.out,?_⟩;rw [hpd.out];rfl
  | some p =>
   rw [hp] at hpost;obtain⟨v,rfl,hrep,hRd2⟩:=hpost;have hpd:Hid (Pl.pd (n+1) ([39]::r)=some ⟨.agg [.lit (.string Pl.quoteW),p.t],p.q,p.dp+1,p.gr⟩):=by show Pl.pd _ _=_;rw [Pl.pd_quote n _ r rfl,hp];rfl
   obtain⟨m,rfl⟩:=uK hp;clear hp hgr;have HRep:Hid (RepR (fun k=>w.heap.size<=k) (m+1) w2 v p.t):=by refine RepR.mono ?_ _ _ _ hrep;intro k _ hk;exact Nat.le_trans (aC (cK w _ (some b)) (aE _ _ _ _)).size hk
   have HRd2:Hid (Rd _ _ _ _ _ _):=hRd2;obtain⟨vb,rfl,_⟩:=hrep;clear hRd2;go_wp2_with fail;go_ret;refine dI hpd.out (aC HG.out (aC (World.grownBy_alloc _ _ _) (aC (World.grownBy_alloc _ _ _) (World.grownBy_alloc _ _ _)))) (mW HRep.out (fun k hk=>Nat.le_trans HG.out.size hk) _ _ _ rfl rfl rfl) (((HRd2.out.alloc _).alloc _).alloc _) ?_ ?_ ?_
   ·rfl
   ·dsimp only;omega
   ·rfl
theorem RepR.ptr{t:Tr}(h:RepR ok n w v t):∃b,v=.pointer (some ⟨b,0,none⟩):=by
 cases n with
 | zero=>exact h.elim
 | succ n=>obtain⟨b,hv,_⟩:=h;exact⟨b,hv⟩
structure LInv(n:Nat)(w wr:World)(b G:Nat)(L:Value)(all r:List (List UInt8))(dp de:Nat)(g:Bool)(q:List (List UInt8))(kids:Value)(ts:List Tr)(vs:List Value)(dpk:Nat)(gk:Bool):Prop where
 suf:q <:+ all
 len:ts.length+q.length<=r.length
 lf:Pl.LF (Pl.pd n) r ts dpk gk q
 rd:Rd wr b L ((all.length-q.length:Nat):Int) ((max dp (de+1+dpk):Nat):Int) (g||gk)
 toks:ToksAt wr L all
 out:wr.heap[G]?=some (.cells #[s6,.int .i64 0,tI,kids] TD (0,0))
 row:wr.ownsRow (G+1) TP 1 kids ts.length vs
 kid:∀(i:Nat)(u:Value)(x:Tr),vs[i]?=some u->ts[i]?=some x->RepR (fun k=>G<k/\kids.ownBlock≠some k) n wr u x
 grown:w.grownBy wr (some b)
 sizeG:w.heap.size<=G
 bG:b<w.heap.size
theorem LInv.start{w1:World}(hsuf:r <:+ all)(hR:Rd w1 b L ((all.length-r.length:Nat):Int) ((max dp (de+1):Nat):Int) g)(hT:ToksAt w1 L all)
  (hg:w.grownBy w1 (some b)) (hb:b<w.heap.size) (o:Obj) (ho:o=.cells #[s6,.int .i64 0,tI,.slice none 0 0] TD (0,0)) (G:Nat) (hG:G=w1.heap.size) :
  LInv n w (w1.alloc o) b G L all r dp de g r (.slice none 0 0) [] [] 0 false where
 suf:=hsuf
 len:=by simp
 lf:=Pl.LF.start _ _
 rd:=(hR.alloc o).cast rfl (by omega) (by simp)
 toks:=World.ownsRow.alloc hT o
 out:=by rw [cB hG,ho]
 row:=World.ownsRow_nil _ _ _ _
 kid:=fun i u x hu=>by simp at hu
 grown:=aC hg (World.grownBy_alloc _ _ _)
 sizeG:=by rw [hG];exact hg.size
 bG:=hb
theorem LInv.ltG{ts:List Tr}(h:LInv n w wr b G L all r dp de g q kids ts vs dpk gk):G<wr.heap.size:=aB h.out
theorem LInv.drewN{ts:List Tr}(h:LInv n w wr b G L all r dp de g q kids ts vs dpk gk)(m:Nat):LInv n w (wr.drewN m) b G L all r dp de g q kids ts vs dpk gk :=⟨h.suf,h.len,h.lf,h.rd,h.toks,h.out,h.row,fun i u x hu hx=>RepR.drewN (h.kid i u x hu hx),bK h.grown m,h.sizeG,h.bG⟩
theorem mM{cap:Nat}(h:ToksAt w (.slice (some ⟨G,0,none⟩) all.length cap) all){i:Nat}(hi:all[i]?=some t):w.cell? ⟨G,i,none⟩=some (.string ⟨t.toArray⟩):=by
 have hx:(all.map eB)[i]?=some (eB t):=by rw [List.getElem?_map,hi];rfl
 have:=h.cells (g:=G) rfl i (eB t) hx
 rwa [show(⟨G,0,none⟩:Addr).add i=⟨G,i,none⟩ from by rw [Addr.add_lit,Nat.zero_add]] at this
def mOf(all:List (List UInt8))(b:Nat)(wr:World):Nat:=all.length-(intOf ((wr.cell? ⟨b,1,none⟩).getD undef)).toNat
theorem LInv.m{ts:List Tr}(h:LInv n w wr b G L all r dp de g q kids ts vs dpk gk):mOf all b wr=q.length:=by unfold mOf;rw [h.rd.cells.2.1];have:=h.suf.length_le;simp [intOf];omega
structure LMid(n:Nat)(w w2:World)(b G:Nat)(L:Value)(all r:List (List UInt8))(dp de:Nat)(g:Bool)(t:List UInt8)(q0:List (List UInt8))(kids:Value)(ts:List Tr)(vs:List Value)(p:Pl.PR)(v:Value)(dpk:Nat)(gk:Bool):Prop where
 suf:p.q <:+ all
 len:ts.length+1+p.q.length<=r.length
 lf:Pl.LF (Pl.pd n) r (ts++[p.t]) (max dpk p.dp) (gk||p.gr) p.q
 rd:Rd w2 b L ((all.length-p.q.length:Nat):Int) ((max dp (de+1+max dpk p.dp):Nat):Int) (g||(gk||p.gr))
 toks:ToksAt w2 L all
 out:w2.heap[G]?=some (.cells #[s6,.int .i64 0,tI,kids] TD (0,0))
 row:w2.ownsRow (G+1) TP 1 kids ts.length vs
 kid:∀(i:Nat)(u:Value)(x:Tr),vs[i]?=some u->ts[i]?=some x->RepR (fun k=>G<k/\kids.ownBlock≠some k) n w2 u x
 new:RepR (fun k=>G<k/\kids.ownBlock≠some k) n w2 v p.t
 grown:w.grownBy w2 (some b)
 sizeG:w.heap.size<=G
 bG:b<w.heap.size
 lenq:q0.length<q0.length+1/\t=t
 q_lt:p.q.length<q0.length+1
theorem LInv.call{w2:World}{q0:List (List UInt8)}{ts:List Tr}{p:Pl.PR}
  (h:LInv n w wr b G L all r dp de g (t::q0) kids ts vs dpk gk) (ht:¬t=[41]) (hp:Pl.pd n (t::q0)=some p) (hg:wr.grownBy w2 (some b)) (hrep:RepR (fun k=>wr.heap.size<=k) n w2 v p.t)
  (hrd:Rd w2 b L ((all.length-p.q.length:Nat):Int) ((max (max dp (de+1+dpk)) (de+1+p.dp):Nat):Int) ((g||gk)||p.gr)) :
  LMid n w w2 b G L all r dp de g t q0 kids ts vs p v dpk gk:=by
 have htl:=Pl.pd_tail n _ _ hp;have hneb:some G≠some b:=by have:=h.sizeG;have:=h.bG;intro e;simp only [Option.some.injEq] at e;omega
 have hTR:∀ok,KeepD ok wr w2:=fun ok=>KeepD.of_grown hg h.rd (by decide) (by decide);have hlen:=h.len;have hq:=htl.2;simp only [List.length_cons] at hlen hq;refine⟨htl.1.trans h.suf,by omega,h.lf.more ht hp htl.2,hrd.cast rfl (by omega) (by rw [Bool.or_assoc]),h.toks.keep hg h.rd,?_,?_,?_,?_,aC h.grown hg,h.sizeG,h.bG,⟨by omega,rfl⟩,hq⟩
 ·exact(hg.block G h.ltG hneb).trans h.out
 ·refine h.row.kept hg ?_;by_cases hk:kids.ownBlock=some b
  ·have:=(h.row.lt b hk).1;have:=h.sizeG;have:=h.bG;omega
  ·exact .inr hk
 ·exact fun i u x hu hx=>RepR.keep (hTR _) _ _ _ (h.kid i u x hu hx)
 ·refine RepR.mono (fun k _ hk=>?_) _ _ _ hrep;have:=h.ltG;refine⟨by omega,fun e=>?_⟩;have:=(h.row.lt k e).2;omega
theorem LMid.push{w2 w3:World}{q0:List (List UInt8)}{ts:List Tr}{p:Pl.PR}{o:Obj}{g' cap':Nat}
  (h:LMid n w w2 b G L all r dp de g t q0 kids ts vs p v dpk gk) (hown:w3.ownsRow (G+1) TP 1 (.slice (some ⟨g',0,none⟩) (ts.length+1) cap') (ts.length+1) (vs++[v])) (hg:(w2.alloc o).grownBy w3 kids.ownBlock) (hat:kids.ownBlock=some g'\/g'=w2.heap.size+1) :
  w3.cell? ⟨G,3,none⟩=some kids/\w3.frozen? ⟨G,3,none⟩=false/\LInv n w (w3.setCell ⟨G,3,none⟩ (.slice (some ⟨g',0,none⟩) (ts.length+1) cap')) b G L all r dp de g p.q (.slice (some ⟨g',0,none⟩) (ts.length+1) cap') (ts++[p.t]) (vs++[v]) (max dpk p.dp) (gk||p.gr):=by
 have hltG:G<w2.heap.size:=aB h.out;have hbG:=h.bG;have hsG:=h.sizeG;have hrl:=h.row.lt;have hneG:some G≠kids.ownBlock:=fun e=>by have:=(hrl G e.symm).1;omega
 have hneB:some b≠kids.ownBlock:=fun e=>by have:=(hrl b e.symm).1;omega
 have hob:∀k,k<w2.heap.size->some k≠kids.ownBlock->w3.heap[k]?=w2.heap[k]? := fun k hk hne=>(hg.block k (by simp;omega) hne).trans (Below.heap_alloc _ _ _ hk);have hout3:w3.heap[G]?=some (.cells #[s6,.int .i64 0,tI,kids] TD (0,0)):=(hob G hltG hneG).trans h.out;generalize hk':Value.slice (some ⟨g',0,none⟩) (ts.length+1) cap'=kids' at *;have hkb:kids'.ownBlock=some g':=by rw [<- hk'];rfl
 have hblk:∀k,k≠G->(w3.setCell ⟨G,3,none⟩ kids').heap[k]?=w3.heap[k]? := fun k hk=>Below.heap_setCell _ _ _ _ hk;have hbl:b<w2.heap.size:=aB h.rd;have hsz3:w2.heap.size<=w3.heap.size:=by have:=hg.size;simp at this;omega
 have hgG:G<g':=by have:=(hown.lt g' hkb).1;omega
 have hkeep:KeepD (fun k=>G<k/\kids.ownBlock≠some k) w2 (w3.setCell ⟨G,3,none⟩ kids'):=fun k cur e hok _ hk=>by rw [hblk k (by omega),hob k (aB hk) (fun e=>hok.2 e.symm)];exact hk
 have hrep:∀(u:Value)(x:Tr),RepR (fun k=>G<k/\kids.ownBlock≠some k) n w2 u x->RepR (fun k=>G<k/\kids'.ownBlock≠some k) n (w3.setCell ⟨G,3,none⟩ kids') u x:=by
  intro u x hr
  have h1:RepR (fun k=>(G<k/\kids.ownBlock≠some k)/\kids'.ownBlock≠some k) n w2 u x:=by
   refine RepR.mono (fun k hk hok=>⟨hok,?_⟩) _ _ _ hr;rw [hkb];intro e;obtain rfl:=Option.some.inj e;rcases hat with h1 | h1
   ·exact hok.2 h1
   ·omega
  have h2:=RepR.keep (hkeep.mono (ok':=fun k=>(G<k/\kids.ownBlock≠some k)/\kids'.ownBlock≠some k) (fun k hok=>hok.1)) _ _ _ h1;exact RepR.mono (fun k _ hok=>⟨hok.1.1,hok.2⟩) _ _ _ h2
 have hrow3:(w3.setCell ⟨G,3,none⟩ kids').ownsRow (G+1) TP 1 kids' (ts.length+1) (vs++[v]):=ownsRow_setCell_below hown (by show G<G+1;omega) _
 have hTok:ToksAt (w3.setCell ⟨G,3,none⟩ kids') L all:=by
  refine⟨h.toks.1,?_⟩;rcases h.toks.2 with hn | ⟨x,cap,cur,hv,h0,hx,rest⟩
  ·exact .inl hn
  ·refine .inr ⟨x,cap,cur,hv,h0,?_,rest⟩;have hxG:x≠G:=by intro e;subst e;rw [h.out] at hx;simp only [Option.some.injEq,Obj.cells.injEq] at hx;have:=hx.2.1;simp [TD] at this
   have hxk:some x≠kids.ownBlock:=by
    intro e;rcases h.row.2 with⟨hv,_⟩ | ⟨y,_,_,hv,_,hy,_⟩
    ·rw [hv] at e;simp [Value.ownBlock] at e
    ·rw [hv] at e;simp only [Value.ownBlock,Option.some.injEq] at e;subst e;rw [hy] at hx;simp only [Option.some.injEq,Obj.cells.injEq] at hx;have:=hx.2.1;simp [TP] at this
   rw [hblk x hxG,hob x (aB hx) hxk];exact hx
 refine⟨aA hout3 3,aF hout3 3,⟨h.suf,by have:=h.len;simp;omega,h.lf,?_,hTok,?_,?_,?_,?_,h.sizeG,h.bG⟩⟩
 ·show(w3.setCell _ _).heap[b]?=_;rw [hblk b (by omega),hob b hbl hneB];exact h.rd
 ·rw [aD hout3 3 kids'];rfl
 ·simpa using hrow3
 ·intro i u x hu hx;by_cases hi:i<vs.length
  ·have hvl:=h.row.1;rw [List.getElem?_append_left hi] at hu;rw [List.getElem?_append_left (by omega)] at hx;exact hrep u x (h.kid i u x hu hx)
  ·have hvl:=h.row.1;have e:i=vs.length:=by have:=(List.getElem?_eq_some_iff.1 hu).1;simp at this;omega
   subst e;rw [List.getElem?_append_right (Nat.le_refl _)] at hu;rw [List.getElem?_append_right (by omega)] at hx;simp at hu;have e2:vs.length-ts.length=0:=by omega
   rw [e2] at hx;simp at hx;subst hu hx;exact hrep _ _ h.new
 ·refine⟨?_,?_,?_,?_,?_⟩
  ·exact hg.os.trans h.grown.os
  ·exact hg.tape.trans h.grown.tape
  ·exact hg.output.trans h.grown.output
  ·have:=h.grown.size;rw [fR];omega
  ·intro k hk hne;have hs2:=h.grown.size;rw [hblk k (by omega),hob k (by omega) (fun e=>by have:=(hrl k e.symm).1;omega)];exact h.grown.block k hk hne
theorem LInv.done{ts:List Tr}(h:LInv n w wr b G L all r dp de g q kids ts vs dpk gk)(hr:r.length<=1000)(x:Int) :RepR (fun k=>w.heap.size<=k) (n+1) (wr.setCell ⟨b,1,none⟩ (.int .i64 x)) (.pointer (some ⟨G,0,none⟩)) (.agg ts):=by
 have hk:∀ok,KeepD ok wr (wr.setCell ⟨b,1,none⟩ (.int .i64 x)):=fun ok=>KeepD.of_grown (aE _ _ _ _) h.rd (by decide) (by decide);have hsG:=h.sizeG;refine RepR.keep (hk _) _ _ _ ⟨G,rfl,hsG,kids,vs,h.out,?_,?_,?_,by have:=h.len;omega⟩
 ·intro r hr;have:=(h.row.lt r hr).1;omega
 ·exact⟨h.row.1,h.row.2.imp id (fun⟨g,cap,cur,a,b,c⟩=>⟨g,cap,cur,a,Nat.zero_le _,c⟩)⟩
 ·intro i u y hu hy;exact RepR.mono (fun k _ hok=>by have:=hok.1;omega) _ _ _ (h.kid i u y hu hy)
end
section
namespace Pl
def ifW:List UInt8:=[105,102]
def lambdaW:List UInt8:=[108,97,109,98,100,97]
def setW:List UInt8:=[115,101,116,33]
def defineW:List UInt8:=[100,101,102,105,110,101]
def beginW:List UInt8:=[98,101,103,105,110]
def letW:List UInt8:=[108,101,116]
def kws:List (List UInt8):=[quoteW,ifW,lambdaW,setW,defineW,beginW,letW]
def kwB(s:List UInt8):Bool:=decide (s∈kws)
def isName:Tre->Bool
 | .lit (.string s)=>!kwB s
 | _=>false
def strOf:Tre->List UInt8
 | .lit (.string s)=>s
 | _=>[]
def namesOk(l:List Tre):Bool:=l.all isName&&decide ((l.map strOf).Nodup)
def isPair:Tre->Bool
 | .agg [_,_]=>true
 | _=>false
def fstOf:Tre->Tre
 | .agg (a::_)=>a
 | _=>.nil
def sndOf:Tre->Tre
 | .agg (_::b::_)=>b
 | _=>.nil
def lamOk(f:Tre->Bool)(ns body:Tre):Bool :=
 match ns with
 | .agg l=>namesOk l&&f body
 | _=>false
def letOk(f:Tre->Bool)(ps body:Tre):Bool :=
 match ps with
 | .agg l=>l.all isPair&&(namesOk (l.map fstOf)&&f body)&&(l.map sndOf).all f
 | _=>false
def asgOk(f:Tre->Bool)(r:List Tre):Bool :=
 match r with
 | [n,e]=>isName n&&f e
 | _=>false
def lam2(f:Tre->Bool)(r:List Tre):Bool :=
 match r with
 | [n,e]=>lamOk f n e
 | _=>false
def let2(f:Tre->Bool)(r:List Tre):Bool :=
 match r with
 | [n,e]=>letOk f n e
 | _=>false
def keyForm(f:Tre->Bool)(h:List UInt8)(r:List Tre):Bool :=
 if h=quoteW then r.length==1
 else if h=ifW then r.length==3&&r.all f
 else if h=beginW then !r.isEmpty&&r.all f
 else if h=setW then asgOk f r
 else if h=lambdaW then lam2 f r
 else if h=letW then let2 f r
 else false
def headKw:List Tre->Option (List UInt8)
 | .lit (.string h)::_=>if kwB h then some h else none
 | _=>none
def listForm(f:Tre->Bool)(ks:List Tre):Bool :=
 match ks with
 | []=>false
 | k::r=>match headKw (k::r) with
  | some h=>keyForm f h r
  | none=>f k&&r.all f
def isForm:Nat->Tre->Bool
 | 0,_=>false
 | n+1,t=>match t with
  | .lit (.int _ _)=>true
  | .lit (.bool _)=>true
  | .lit (.string s)=>!kwB s
  | .agg ks=>listForm (isForm n) ks
  | _=>false
def isTop(n:Nat)(t:Tre):Bool :=
 match t with
 | .agg (.lit (.string h)::r)=>if h=defineW then asgOk (isForm n) r else isForm (n+1) t
 | _=>isForm (n+1) t
theorem kwB_sound(s:List UInt8):kwB s=true↔s∈kws:=by simp [kwB]
end Pl
end
end Go.Proofs.YtkgbdddkcjpgfaaGreatDoor
