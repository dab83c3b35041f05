import Derived.Test.YtkgbdddkcjpgfaaGreatDoorT07
import Derived.Test.YtkgbdddkcjpgfaaGreatDoorT08
import Derived.Shelf.LaysM
import Derived.Shelf.Strconv.Itoa3
import Derived.Shelf.Strconv.Itoa4
import Derived.Shelf.LaysC
import Derived.Shelf.Strconv.ParseIntPublic10
import Derived.Lib.ParseIntB
import Derived.Lib.AtoiErrMem
namespace Go.Proofs.YtkgbdddkcjpgfaaGreatDoor
set_option maxHeartbeats 2000000
set_option maxRecDepth 100000
open Go.Proofs.Tryz
open Pl (CV)
section
open Go.RowKit
variable {w w':World} {b k n:Nat} {ok:Nat->Prop} {v L:Value} {at_ dp:Int} {g:Bool} {bs:List UInt8} {l pre:List (List UInt8)}
def bF(bs:List UInt8):Option (List (List UInt8)) :=
 match Pl.BX bs with
 | none=>none
 | some l=>if l.all Pl.BF=true then some l else none
theorem eI(h:Pl.BX bs=none):bF bs=none:=by unfold bF;rw [h]
theorem pA{t:List UInt8}{x:Option (List (List UInt8))}(h:Pl.DO bs pre k)(a:Pl.BX (bs.drop k)=x.map (t::·))(b:Pl.BF t=false):bF bs=none:=by
 unfold bF;unfold Pl.DO at h;rw [a] at h
 cases x with
 | none=>simp at h;rw [h]
 | some y =>simp at h;rw [h];dsimp only;rw [if_neg (by simp [b])]
theorem nP(h:Pl.DO bs pre k)(a:bs.length<=k)(b:pre.all Pl.BF=true):bF bs=some pre:=by unfold bF;rw [h.end_ a];dsimp only;rw [if_pos b]
theorem jZ(p:UInt8->Bool)(l:List UInt8):l.dropWhile p=l.drop (l.takeWhile p).length:=by
 induction l with
 | nil=>rfl
 | cons c r a =>
  by_cases h:p c=true
  ·simp [h,a]
  ·simp [h]
theorem wY{c:UInt8}{r:List UInt8}(h:Pl.DO bs pre k)(b:bs.drop k=c::r)(G:Pl.blank c=false) :(∀t,pY (c::r)=some t->Pl.DO bs (pre++[t]) (k+t.length)/\Pl.BF t=true/\0<t.length/\k+t.length<=bs.length)/\(pY (c::r)=none->bF bs=none):=by
 have l:∀m,bs.drop (k+m)=(c::r).drop m:=fun m=>by rw [<- b,List.drop_drop]
 have s:bs.length=k+(r.length+1):=by have:=congrArg List.length b;simp at this;omega
 have B:∀x:UInt8,(x=40\/x=41\/x=39)->c=x->pY (c::r)=some [x]->(∀t,pY (c::r)=some t->Pl.DO bs (pre++[t]) (k+t.length)/\Pl.BF t=true/\0<t.length/\k+t.length<=bs.length)/\(pY (c::r)=none->bF bs=none):=by
  intro x E H a;subst H;refine⟨fun t u=>?_,fun p=>by rw [a] at p;cases p⟩;rw [a] at u;obtain rfl:=i_ u;have F:CV c=false:=by rcases E with rfl | rfl | rfl<;>decide
  have C:Pl.H5 c=true:=by rcases E with rfl | rfl | rfl<;>decide
  refine⟨h.more ?_,by simp [Pl.BF,F],by simp,by simp;omega⟩;rw [b,Pl.KX c r F C];have:=l 1;simp only [List.length_singleton,this];rfl
 by_cases f:c=40
 ·exact B 40 (.inl rfl) f (by subst f;rfl)
 by_cases g:c=41
 ·exact B 41 (.inr (.inl rfl)) g (by subst g;rfl)
 by_cases i:c=39
 ·exact B 39 (.inr (.inr rfl)) i (by subst i;rfl)
 by_cases n:c=35
 ·subst n;have e:pY (35::r)=cF r:=rfl;rw [e]
  cases r with
  | nil=>exact⟨fun t a=>by simp [cF] at a,fun _=>eI (h.none_ (by rw [b];exact Pl.KY))⟩
  | cons d q =>
   by_cases j:(d==116||d==102)=true
   ·have o:cF (d::q)=some [35,d]:=by unfold cF;simp only;rw [if_pos j]
    rw [o];refine⟨fun t a=>?_,fun p=>by cases p⟩;obtain rfl:=i_ a;refine⟨h.more ?_,by simp [Pl.BF,show CV 35=false from by decide],by simp,by simp at s ⊢;omega⟩;rw [b,Pl.MA d q j];have:=l 2;simp only [c_,z_,Nat.zero_add,Nat.reduceAdd,this];rfl
   ·have v:(d==116||d==102)=false:=by simpa only [Bool.not_eq_true] using j
    have o:cF (d::q)=none:=by unfold cF;simp only;rw [if_neg j]
    rw [o];exact⟨fun t a=>by(cases a),fun _=>eI (h.none_ (by rw [b];exact Pl.J3 d q v))⟩
 ·have e:pY (c::r)=bZ ((c::r).takeWhile CV):=by unfold pY;dsimp only;rw [if_neg f,if_neg g,if_neg i,if_neg n]
  rw [e];by_cases w:CV c=true
  ·have a:(c::r).takeWhile CV=c::r.takeWhile CV:=by rw [List.takeWhile_cons,if_pos w]
   rw [a];have y:=Pl.L9 c r w;have z:Pl.BF (c::r.takeWhile CV)=gX (c::r.takeWhile CV):=by simp [Pl.BF,gX,w]
   by_cases A:gX (c::r.takeWhile CV)=true
   ·have o:bZ (c::r.takeWhile CV)=some (c::r.takeWhile CV):=by unfold bZ;rw [if_pos A]
    rw [o];refine⟨fun t a=>?_,fun p=>by cases p⟩;obtain rfl:=i_ a;have I:(r.takeWhile CV).length<=r.length:=(List.takeWhile_sublist CV).length_le;refine⟨h.more ?_,by rw [z];exact A,by simp,by simp;omega⟩;rw [b,y,l];simp only [c_,List.drop_succ_cons];rw [jZ]
   ·have o:bZ (c::r.takeWhile CV)=none:=by unfold bZ;rw [if_neg A]
    rw [o];exact⟨fun t a=>by(cases a),fun _=>pA h (by rw [b];exact y) (by rw [z];simpa only [Bool.not_eq_true] using A)⟩
  ·have D:CV c=false:=by simpa only [Bool.not_eq_true] using w
   have a:(c::r).takeWhile CV=[]:=by rw [List.takeWhile_cons,if_neg w]
   rw [a];refine⟨fun t a=>by simp [bZ,gX] at a,fun _=>eI (h.none_ ?_)⟩;rw [b];exact Pl.NL c r G (by simpa using n) D (by simp [Pl.H5,f,g,i])
theorem Tryz.YK:(prog.info? 288).map (fun i=>(i.zero,i.size,i.bytes))=some (some (.agg #[.int .i64 0,.string ByteArray.empty]),2,24):=by kernel_rfl
def gO(l:List (List UInt8)):List Value:=l.flatMap fun t=>[.int .i64 (cE t),eB t]
theorem rO(l:List (List UInt8))(t:List UInt8):gO (l++[t])=gO l++[.int .i64 (cE t),eB t]:=by simp [gO]
def RY(w:World)(bs:List UInt8)(e:Ending)(w':World):Prop :=Below w.heap.size w w'/\((bF bs=none/\∃v s,e=.returned (.tuple #[v,aY s 2]))\/∃l v,bF bs=some l/\e=.returned (.tuple #[v,.nilIface])/\w'.ownsRow w.heap.size 288 2 v l.length (gO l))
theorem oK(w:World)(a b:Obj):((w.alloc a).alloc b).heap.size=w.heap.size+1+1:=by simp
theorem rH(w:World)(x y:Value)(t:TypeId):∀j u,[x,y][j]?=some u->(w.alloc (.cells #[x,y] t)).cell? ((⟨w.heap.size,0,none⟩:Addr).add j)=some u :=World.news_of_block (cs:=#[x,y]) (t:=t) (fr:=(0,0)) (heap_alloc_new w _)
theorem WA{t:ByteArray}{l:List UInt8}(h:t.data.toList=l):Value.string t=eB l:=by subst h;unfold eB;simp
theorem XD(s:ByteArray)(w:World)(hs:s.size<=1000):Calls prog 108 #[.string s] w fun e D=>RY w s.data.toList e D:=by
 obtain⟨i0,I,J,K,L⟩:=info_parts Tryz.YK;go_enter func108,ntmps108;go_wp2_with fail
 go_loopw [4,5] (fun v i wr=>∃(k:Nat) (a:List (List UInt8)),k<=s.size/\a.length<=k/\i=.int .i64 k/\Hid (Pl.DO s.data.toList a k)/\Hid (a.all Pl.BF=true)/\Hid (wr.ownsRow w.heap.size 288 2 v a.length (gO a))/\Hid (Below w.heap.size w wr))
  (fun _ i _=>s.size-(intOf i).toNat)
 case atStart=>exact⟨0,[],Nat.zero_le _,Nat.zero_le _,rfl,Pl.DO.start _,by simp [Hid],World.ownsRow_nil _ _ _ _,r_⟩
 case round =>
  obtain⟨k,a,hk,ad,rfl,y,E,F,G⟩:=hrel;by_cases b:k<s.size
  ·have d:k<s.data.toList.length:=by simpa using b
   have H:=bE s k b;have U:(k:Int)<(s.size:Int):=by omega
   by_cases M:Pl.blank (s[k]'b)=true
   ·have g:Hid (Pl.DO s.data.toList a (k+1)):=y.blank d (by rw [H];exact M);clear y d H;go_wp2_with (go_at_call 146;refine(nG (s[k]'b) _).mono ?_;rintro e D ⟨rfl,rfl⟩);exact⟨⟨k+1,a,by omega,by omega,by go_num,g,E,F,G⟩,by simp [intOf];omega⟩
   ·have N:Pl.blank (s[k]'b)=false:=by simpa using M
    have h:s.data.toList.drop k=(s[k]'b)::s.data.toList.drop (k+1):=by rw [Pl.EN _ _ d,H]
    have m:=wY y h N;have V:=h_ m.1;have W:=h_ m.2;have HX:Hid ((s.extract k s.size).data.toList=(s[k]'b)::s.data.toList.drop (k+1)):=show _=_ from by rw [Lib.extract_to_end];exact h
    have O:(s.extract k s.size).size<=1000:=by simp;omega
    have P:=G.size;clear y d H h m M;go_wp2_with (go_at_call 146;refine(nG (s[k]'b) _).mono ?_;rintro e D ⟨rfl,rfl⟩);refine(nI _ _ O _ _ HX).mono ?_;rintro e f ⟨n,k1,u,b1,rfl,hc⟩;have p:=h_ (G.trans (n.mono P));have z:=p.size;have q:Hid (f.ownsRow w.heap.size 288 2 u4 a.length (gO a)):=F.kept (aQ none n) (by cases hv:Value.ownBlock u4<;>simp);clear n F;rcases hc with⟨X,rfl⟩ | ⟨rfl,l,Y,r,rfl⟩
    ·have Q:=h_ (W X);clear X;go_wp2_with (go_at_call 78;refine(bJ _ _ _).mono ?_;rintro e D ⟨rfl,rfl⟩);go_ret2;exact⟨p.alloc z _,.inl ⟨Q,_,_,rfl⟩⟩
    ·obtain⟨A,B,Z,C⟩:=V.out l Y;have g:=h_ A;have R:Hid ((a++[l]).all Pl.BF=true):=show _=true from by rw [List.all_append,E.out];simp [B]
     have ae:u.size=l.length:=by rw [<- r];simp
     have aa:k+l.length<=s.size:=by simpa using C
     have S:=h_ (WA r);clear A B C Y r E V W;have T:∀(o:Obj)(x:Value),((f.alloc (.cells #[x,.string u] 288)).alloc o).cell? ⟨f.heap.size,1,none⟩=some (.string u):=fun o x=>aA ((k_ (by simp)).trans (heap_alloc_new f _)) 1;go_wp2_with (first | (at_builtin;refine wpList_append_lies _ rfl _ _ 205 rfl w.heap.size 288 i0 (.agg #[.int .i64 0,.string ByteArray.empty]) 2 24 underlying205 I J K L rfl (by decide) u4 a.length (gO a) rfl ((q.alloc _).alloc _) ⟨f.heap.size+1,0,none⟩ 1 1 [.int .i64 (cE l),.string u] rfl rfl (by have:=rH (f.alloc (.cells #[.int .i64 (cE l),.string u] 288)) (.int .i64 (cE l)) (.string u) 288;simpa using this) (fun x hx=>by simp at hx;rcases hx with rfl | rfl<;>rfl) (by decide) (by unfold maxLen;omega) (by omega) (by simp;omega) (f.heap.size+1+1) (by simp) ?_;intro g3 ab w3 t c ac _;have ct:=(c.cell_far ⟨f.heap.size,1,none⟩ (by simp only [oK];omega) (fun e=>Nat.lt_irrefl _ (q.lt f.heap.size e.symm).2)).trans (T _ _)))
     go_roundw
     case rel =>
      refine⟨k+l.length,a++[l],by omega,by simp;omega,by go_num,g,R,?_,?_⟩
      ·have h3:=t;rw [S.out] at h3;show w3.ownsRow _ _ _ _ _ _;rw [rO];simpa using h3
      ·exact((p.alloc z _).alloc (by simp;omega) _).grown c (by simp;omega) (fun j hj=>(q.lt j hj).1)
     case measure=>simp [intOf];omega
  ·have Q:Hid (bF s.data.toList=some a):=nP y (by simp;omega) E;go_wp2_with fail;go_ret2;exact⟨G,.inr ⟨a,_,Q,rfl,F⟩⟩
def PT:TypeId:=109
def PR:TypeId:=209
def PK:TypeId:=288
def AN(ok:Nat->Prop):Nat->World->Value->Tr->Prop
 | 0,_,_,_=>False
 | n+1,w,v,t =>
  match t with
  | .lit (.int _ m)=>∃k:Int,v=.iface 293 (.int .i64 k)/\(gW m->k=m)
  | .lit (.bool x)=>v=.iface 295 (.bool x)
  | .lit (.string s)=>v=.iface 117 (.string ⟨s.toArray⟩)
  | .agg ts=>∃sl vs,v=.iface 115 sl/\(∀r,sl.ownBlock=some r->ok r)/\w.ownsRow 0 PT 1 sl ts.length vs /\
    (∀(i:Nat)(u:Value)(x:Tr),vs[i]?=some u->ts[i]?=some x->AN ok n w u x)/\ts.length<=1000
  | _=>False
def GA(ok:Nat->Prop)(w w':World):Prop:=∀(k:Nat)(cur:Array Value),ok k->w.heap[k]?=some (.cells cur PT (0,0))->w'.heap[k]?=some (.cells cur PT (0,0))
theorem GA.AA(h:Below w.heap.size w w'):GA ok w w':=fun k _ _ a=>(h.block k (aB a)).trans a
theorem GA.DX{c:Array Value}{T:TypeId}{f:Nat×Nat}(e:w.grownBy w' (some b))(g:w.heap[b]?=some (.cells c T f))(h:T≠PT):GA ok w w':=by
 intro k i _ a;have d:some k≠some b:=by intro j;obtain rfl:=i_ j;rw [g] at a;simp only [o_,Obj.cells.injEq] at a;exact h a.2.1
 exact(e.block k (aB a) d).trans a
theorem sQ{base:Nat}{xs:List Value}(d:GA ok w w')(e:∀r,v.ownBlock=some r->ok r)(h:w.ownsRow base PT 1 v n xs):w'.ownsRow base PT 1 v n xs:=by
 refine⟨h.1,?_⟩;rcases h.2 with f | ⟨g,c,a,rfl,i,j,b⟩
 ·exact .inl f
 ·exact .inr ⟨g,c,a,rfl,i,d g a (e g rfl) j,b⟩
theorem AN.keep(a:GA ok w w'):∀(n:Nat)(v:Value)(t:Tr),AN ok n w v t->AN ok n w' v t
 | 0,_,_,h=>h
 | n+1,v,t,h=>by
  match t,h with
  | .lit (.int _ m),h=>exact h
  | .lit (.bool x),h=>exact h
  | .lit (.string s),h=>exact h
  | .agg o,⟨c,d,e,b,f,g,j⟩=>exact⟨c,d,e,b,sQ a b f,fun i u x k l=>AN.keep a n u x (g i u x k l),j⟩
theorem AN.mono{ok':Nat->Prop}(hi:∀k,k<w.heap.size->ok k->ok' k):∀(n:Nat)(v:Value)(t:Tr),AN ok n w v t->AN ok' n w v t
 | 0,_,_,h=>h
 | n+1,v,t,h=>by
  match t,h with
  | .lit (.int _ m),h=>exact h
  | .lit (.bool x),h=>exact h
  | .lit (.string s),h=>exact h
  | .agg p,⟨c,d,e,f,a,g,j⟩=>exact⟨c,d,e,fun r b=>hi r (a.lt r b).2 (f r b),a,fun i u x l o=>AN.mono hi n u x (g i u x l o),j⟩
theorem AN.up:∀(n m:Nat)(v:Value)(t:Tr),n<=m->AN ok n w v t->AN ok m w v t
 | 0,_,_,_,_,h=>h.elim
 | n+1,0,_,_,a,_=>by omega
 | n+1,m+1,v,t,a,h=>by
  match t,h with
  | .lit (.int _ m),h=>exact h
  | .lit (.bool x),h=>exact h
  | .lit (.string s),h=>exact h
  | .agg o,⟨b,c,d,e,f,g,j⟩=>exact⟨b,c,d,e,f,fun i u x k l=>AN.up n m u x (by omega) (g i u x k l),j⟩
theorem AN.later{t:Tr}(h:AN ok n w v t)(a:Below w.heap.size w w'):AN ok n w' v t:=AN.keep (GA.AA a) _ _ _ h
theorem AN.iface{t:Tr}(h:AN ok n w v t):∃T x,v=.iface T x/\v.oneCell'=true:=by
 cases n with
 | zero=>exact h.elim
 | succ n =>
  match t,h with
  | .lit (.int _ m),⟨k,h,_⟩=>subst h;exact⟨_,_,rfl,rfl⟩
  | .lit (.bool x),h=>have h:v=_:=h;subst h;exact⟨_,_,rfl,rfl⟩
  | .lit (.string s),h=>have h:v=_:=h;subst h;exact⟨_,_,rfl,rfl⟩
  | .agg a,⟨b,c,h,_⟩=>subst h;exact⟨_,_,rfl,rfl⟩
def EW(w:World)(b:Nat)(rest:Value)(dep dpst:Int)(g:Bool):Prop:=w.heap[b]?=some (.cells #[rest,.int .i64 dep,.int .i64 dpst,.bool g] PR (0,0))
theorem EW.cells(h:EW w b L at_ dp g) :w.cell? ⟨b,0,none⟩=some L/\w.cell? ⟨b,1,none⟩=some (.int .i64 at_)/\w.cell? ⟨b,2,none⟩=some (.int .i64 dp)/\w.cell? ⟨b,3,none⟩=some (.bool g) :=⟨aA h 0,aA h 1,aA h 2,aA h 3⟩
theorem EW.IM(h:EW w b L at_ dp g)(x:Value):EW (w.setCell ⟨b,0,none⟩ x) b x at_ dp g:=aD h 0 _
theorem EW.KE(h:EW w b L at_ dp g)(x:Int):EW (w.setCell ⟨b,1,none⟩ (.int .i64 x)) b L x dp g:=aD h 1 _
theorem EW.WU(h:EW w b L at_ dp g)(x:Int):EW (w.setCell ⟨b,2,none⟩ (.int .i64 x)) b L at_ x g:=aD h 2 _
theorem EW.FA(h:EW w b L at_ dp g)(x:Bool):EW (w.setCell ⟨b,3,none⟩ (.bool x)) b L at_ dp x:=aD h 3 _
theorem EW.alloc(h:EW w b L at_ dp g)(o:Obj):EW (w.alloc o) b L at_ dp g:=(Below.heap_alloc w o b (aB h)).trans h
theorem EW.below(h:EW w b L at_ dp g)(a:Below w.heap.size w w'):EW w' b L at_ dp g:=(a.block b (aB h)).trans h
theorem EW.cast{at2 dp2:Int}{g2:Bool}(h:EW w b L at_ dp g)(a:at_=at2)(c:dp=dp2)(d:g=g2):EW w b L at2 dp2 g2:=by subst a c d;exact h
def DG(w:World)(v:Value)(l:List (List UInt8)):Prop :=∃ao cap,v=.slice ao l.length cap/\l.length<=cap/\∀(i:Nat)(t:List UInt8),l[i]?=some t->∃g off cur,ao=some ⟨g,off,none⟩/\w.heap[g]?=some (.cells cur PK (0,0))/\cur[off+2*i]?=some (.int .i64 (cE t))/\cur[off+2*i+1]?=some (.string ⟨t.toArray⟩)
theorem DG.keep(h:DG w v l)(d:∀(k:Nat)(a:Array Value),w.heap[k]?=some (.cells a PK (0,0))->w'.heap[k]?=some (.cells a PK (0,0))):DG w' v l:=by obtain⟨f,b,e,j,m⟩:=h;refine⟨f,b,e,j,fun i t n=>?_⟩;obtain⟨g,c,a,o,p,r⟩:=m i t n;exact⟨g,c,a,o,d g a p,r⟩
theorem DG.grown{c:Array Value}{f:Nat×Nat}(h:DG w v l)(e:w.grownBy w' (some b))(g:w.heap[b]?=some (.cells c PR f)):DG w' v l:=by
 refine h.keep fun k i a=>?_;have d:some k≠some b:=by intro j;obtain rfl:=i_ j;rw [g] at a;simp only [o_,Obj.cells.injEq] at a;have:=a.2.1;simp [PR,PK] at this
 exact(e.block k (aB a) d).trans a
theorem DG.below(h:DG w v l)(b:Below w.heap.size w w'):DG w' v l:=h.keep fun k _ a=>(b.block k (aB a)).trans a
theorem DG.cons{t:List UInt8}{q:List (List UInt8)}(h:DG w v (t::q)):∃g a b,v=.slice (some ⟨g,a,none⟩) (q.length+1) b/\q.length+1<=b/\g<w.heap.size/\w.cell? ⟨g,a,none⟩=some (.int .i64 (cE t))/\w.cell? ⟨g,a+1,none⟩=some (.string ⟨t.toArray⟩) /\
  ∀(f:Option Addr)(c:Nat),q.length<=c->(q.length≠0->f=some ⟨g,a+2,none⟩)->DG w (.slice f q.length c) q:=by
 obtain⟨f,b,e,y,p⟩:=h;obtain⟨g,a,z,A,j,B,C⟩:=p 0 t rfl;subst A;refine⟨g,a,b,e,y,aB j,(aA j _).trans (by simpa using B),(aA j _).trans (by simpa using C),fun k D l E=>⟨k,D,rfl,l,fun i x r=>?_⟩⟩;obtain⟨G,s,d,u,m,n,o⟩:=p (i+1) x (by simpa using r);simp only [o_,Addr.mk.injEq,and_true] at u;obtain⟨rfl,rfl⟩:=u;refine⟨g,a+2,d,E (by rintro F;have:=e_ F;subst this;simp at r),m,?_,?_⟩
 ·rw [show a+2+2*i=a+2*(i+1) from by omega];exact n
 ·rw [show a+2+2*i+1=a+2*(i+1)+1 from by omega];exact o
theorem tY(l:List (List UInt8)):∀(i:Nat)(t:List UInt8),l[i]?=some t->(gO l)[2*i]?=some (.int .i64 (cE t))/\(gO l)[2*i+1]?=some (eB t):=by
 induction l with
 | nil=>intro i t h;simp at h
 | cons x r a =>
  intro i t h;have e:gO (x::r)=.int .i64 (cE x)::eB x::gO r:=rfl
  cases i with
  | zero=>simp at h;subst h;rw [e];simp
  | succ i =>simp at h;have:=a i t h;rw [e,show 2*(i+1)=2*i+1+1 from by omega];simpa using this
theorem DG.of_own{base:Nat}(h:w.ownsRow base PK 2 v l.length (gO l)):DG w v l:=by
 rcases h.2 with⟨d,m⟩ | ⟨g,e,a,d,_,n,o,_,_,p⟩
 ·have:l=[]:=e_ m;subst this;exact⟨none,0,d,n_,fun i t f=>by simp at f⟩
 ·refine⟨some ⟨g,0,none⟩,e,d,o,fun i t f=>⟨g,0,a,rfl,n,?_⟩⟩;have k:=tY l i t f
  have b:∀(j:Nat)(u:Value),(gO l)[j]?=some u->a[j]?=some u:=by
   intro j u c;rw [<- p,List.getElem?_take] at c;split at c
   ·simpa using c
   ·cases c
  rw [Nat.zero_add];exact⟨b _ _ k.1,b _ _ k.2⟩
theorem pP{a b:World}{row:Option Nat}(h:a.grownBy b row):a.grownBy b.drew row:=⟨h.os,h.tape,h.output,h.size,h.block⟩
theorem u7(w:World)(b:Nat)(rest:Value)(a c:Nat)(g:Bool)(h:EW w b rest a c g)(i:a<=2000) :Calls prog 203 #[.pointer (some ⟨b,0,none⟩)] w fun e d=>e=.returned (.tuple #[])/\w.grownBy d (some b)/\EW d b rest ((a+1:Nat):Int) ((max c (a+1):Nat):Int) g:=by
 obtain⟨j,k,l,m⟩:=h.cells;have n:=aF h 1;have o:=aF h 2;have f:=h_ h;clear h;go_enter func203,ntmps203;go_wp2_with fail
 go_region
 go_end0
 refine⟨rfl,pP (aC (aE _ _ _ _) (aE _ _ _ _)),?_⟩;exact EW.cast (((f.KE _).WU _)) (by omega) (by first | (split<;>omega) | omega | (push_cast;omega)) rfl
theorem oW(w:World)(b:Nat)(rest:Value)(a c:Int)(g:Bool)(h:EW w b rest a c g)(f:0<=a/\a<=3000) :Calls prog 205 #[.pointer (some ⟨b,0,none⟩)] w fun e d=>e=.returned (.tuple #[])/\w.grownBy d (some b)/\EW d b rest (a-1) c g:=by
 obtain⟨l,m,n,o⟩:=h.cells;obtain⟨i,j⟩:=f;have p:=aF h 1;have k:=h_ h;clear h;go_enter func205,ntmps205;go_wp2_with fail
 go_end0
 exact⟨rfl,aE _ _ _ _,k.KE _⟩
theorem yY(w:World)(b:Nat)(rest:Value)(c a:Int)(g:Bool)(l:List (List UInt8))(h:EW w b rest c a g)(f:DG w rest l) :Calls prog 204 #[.pointer (some ⟨b,0,none⟩)] w fun e j=>e=.returned (.bool (l.head?.any fun t=>cE t==1))/\w=j:=by
 obtain⟨k,n,o,p⟩:=h.cells;clear h
 cases l with
 | nil =>obtain⟨r,d,rfl,_⟩:=f;simp only [z_] at k;go_enter func204,ntmps204;go_wp2_with fail;go_ret;exact⟨rfl,rfl⟩
 | cons t q =>
  obtain⟨s,m,d,rfl,i,u,v,x,_⟩:=f.cons;have y:(0:Int)<(q.length:Int)+1:=by omega
  go_enter func204,ntmps204
  go_wp2_with fail
  go_ret;exact⟨rfl,rfl⟩
end
section
open Go.Shelf
def Tryz.MS:Go.Shelf.Ren:=⟨fun | 171=>34 | 243=>63 | 246=>107 | 283=>142 | 284=>143 | 285=>144 | 286=>145 | 129=>180 | 317=>179 | 318=>181 | 319=>182 | 320=>183 | 337=>197 | 338=>198 | n=>n,fun | 3=>3 | 9=>9 | 2=>2 | 4=>4 | 171=>281 | 0=>0 | 53=>101 | 37=>165 | 5=>5 | 173=>284 | 212=>358 | 51=>104 | 20=>20 | 213=>359 | 46=>196 | 232=>389 | 233=>390 | n=>n,fun | 17=>2 | 18=>3 | 19=>4 | n=>n⟩
theorem Tryz.TM:Go.Proofs.LaysM.n171 prog Tryz.MS:={
 mixed:=by kernel_rfl
 f129:=func180.trans (congrArg some (by kernel_rfl))
 f171:=func34.trans (congrArg some (by kernel_rfl))
 f243:=func63.trans (congrArg some (by kernel_rfl))
 f246:=func107.trans (congrArg some (by kernel_rfl))
 f283:=func142.trans (congrArg some (by kernel_rfl))
 f284:=func143.trans (congrArg some (by kernel_rfl))
 f285:=func144.trans (congrArg some (by kernel_rfl))
 f286:=func145.trans (congrArg some (by kernel_rfl))
 f317:=func179.trans (congrArg some (by kernel_rfl))
 f318:=func181.trans (congrArg some (by kernel_rfl))
 f319:=func182.trans (congrArg some (by kernel_rfl))
 f320:=func183.trans (congrArg some (by kernel_rfl))
 f337:=func197.trans (congrArg some (by kernel_rfl))
 f338:=func198.trans (congrArg some (by kernel_rfl))
 t0:=underlying0
 a0:=Tryz.isAgg0
 z0:=Tryz.sizeOf0
 v0:=Tryz.zeroValue0
 t2:=underlying2
 a2:=Tryz.isAgg2
 z2:=Tryz.sizeOf2
 v2:=Tryz.zeroValue2
 t3:=underlying3
 a3:=Tryz.isAgg3
 z3:=Tryz.sizeOf3
 v3:=Tryz.zeroValue3
 t4:=underlying4
 a4:=Tryz.isAgg4
 z4:=Tryz.sizeOf4
 v4:=Tryz.zeroValue4
 t5:=underlying5
 a5:=Tryz.isAgg5
 z5:=Tryz.sizeOf5
 v5:=Tryz.zeroValue5
 t9:=underlying9
 a9:=Tryz.isAgg9
 z9:=Tryz.sizeOf9
 v9:=Tryz.zeroValue9
 t20:=underlying20
 a20:=Tryz.isAgg20
 z20:=Tryz.sizeOf20
 v20:=Tryz.zeroValue20
 t37:=underlying165
 a37:=Tryz.isAgg165
 z37:=Tryz.sizeOf165
 v37:=Tryz.zeroValue165
 t46:=underlying196
 a46:=Tryz.isAgg196
 z46:=Tryz.sizeOf196
 v46:=Tryz.zeroValue196
 t51:=underlying104
 a51:=Tryz.isAgg104
 z51:=Tryz.sizeOf104
 v51:=Tryz.zeroValue104
 t53:=underlying101
 a53:=Tryz.isAgg101
 z53:=Tryz.sizeOf101
 v53:=Tryz.zeroValue101
 t171:=underlying281
 a171:=Tryz.isAgg281
 z171:=Tryz.sizeOf281
 v171:=Tryz.zeroValue281
 t173:=underlying284
 a173:=Tryz.isAgg284
 z173:=Tryz.sizeOf284
 v173:=Tryz.zeroValue284
 t212:=underlying358
 a212:=Tryz.isAgg358
 z212:=Tryz.sizeOf358
 v212:=Tryz.zeroValue358
 t213:=underlying359
 a213:=Tryz.isAgg359
 z213:=Tryz.sizeOf359
 t232:=underlying389
 a232:=Tryz.isAgg389
 z232:=Tryz.sizeOf389
 v232:=Tryz.zeroValue389
 t233:=underlying390
 a233:=Tryz.isAgg390
 z233:=Tryz.sizeOf390
 v233:=Tryz.zeroValue390
 g17:=by kernel_rfl
 g18:=by kernel_rfl
 g19:=by kernel_rfl
 i0:=by kernel_rfl
 i2:=by kernel_rfl
 i3:=by kernel_rfl
 i4:=by kernel_rfl
 i5:=by kernel_rfl
 i9:=by kernel_rfl
 i20:=by kernel_rfl
 i37:=by kernel_rfl
 i46:=by kernel_rfl
 i51:=by kernel_rfl
 i53:=by kernel_rfl
 i171:=by kernel_rfl
 i173:=by kernel_rfl
 i212:=by kernel_rfl
 i232:=by kernel_rfl
 i233:=by kernel_rfl
 m17:=by kernel_rfl
 m18:=by kernel_rfl
 m19:=by kernel_rfl}
open Go.RowKit Go.Sort Go.Lib in
theorem Tryz.strconv_Itoa(n:Int)(b : -9223372036854775808<=n)(c:n<=9223372036854775807)(w:World)(a:Lib.TabIs prog w "internal/strconv.uint64pow10" .u64 Lib.pow10Tab) :Calls prog 34 #[.int .i64 n] w fun e d=>e=.returned (.string ⟨(Lib.itoa n).toArray⟩)/\∃k f,d=grow (w.drewN k) f:=Any.strconv_Itoa Tryz.TM n b c w a
def Tryz.MR:Go.Shelf.Ren:=⟨fun | 173=>356 | 246=>107 | 283=>142 | 284=>143 | 285=>144 | 286=>145 | 129=>180 | 317=>179 | 318=>181 | 319=>182 | 320=>183 | 337=>197 | 338=>198 | n=>n,fun | 2=>2 | 3=>3 | 9=>9 | 4=>4 | 171=>281 | 0=>0 | 53=>101 | 37=>165 | 5=>5 | 173=>284 | 212=>358 | 51=>104 | 20=>20 | 213=>359 | 46=>196 | 232=>389 | 233=>390 | n=>n,fun | 17=>2 | 18=>3 | 19=>4 | n=>n⟩
theorem Tryz.TL:Go.Proofs.LaysM.n173 prog Tryz.MR:={
 mixed:=by kernel_rfl
 f129:=func180.trans (congrArg some (by kernel_rfl))
 f173:=func356.trans (congrArg some (by kernel_rfl))
 f246:=func107.trans (congrArg some (by kernel_rfl))
 f283:=func142.trans (congrArg some (by kernel_rfl))
 f284:=func143.trans (congrArg some (by kernel_rfl))
 f285:=func144.trans (congrArg some (by kernel_rfl))
 f286:=func145.trans (congrArg some (by kernel_rfl))
 f317:=func179.trans (congrArg some (by kernel_rfl))
 f318:=func181.trans (congrArg some (by kernel_rfl))
 f319:=func182.trans (congrArg some (by kernel_rfl))
 f320:=func183.trans (congrArg some (by kernel_rfl))
 f337:=func197.trans (congrArg some (by kernel_rfl))
 f338:=func198.trans (congrArg some (by kernel_rfl))
 t0:=underlying0
 a0:=Tryz.isAgg0
 z0:=Tryz.sizeOf0
 v0:=Tryz.zeroValue0
 t2:=underlying2
 a2:=Tryz.isAgg2
 z2:=Tryz.sizeOf2
 v2:=Tryz.zeroValue2
 t3:=underlying3
 a3:=Tryz.isAgg3
 z3:=Tryz.sizeOf3
 v3:=Tryz.zeroValue3
 t4:=underlying4
 a4:=Tryz.isAgg4
 z4:=Tryz.sizeOf4
 v4:=Tryz.zeroValue4
 t5:=underlying5
 a5:=Tryz.isAgg5
 z5:=Tryz.sizeOf5
 v5:=Tryz.zeroValue5
 t9:=underlying9
 a9:=Tryz.isAgg9
 z9:=Tryz.sizeOf9
 v9:=Tryz.zeroValue9
 t20:=underlying20
 a20:=Tryz.isAgg20
 z20:=Tryz.sizeOf20
 v20:=Tryz.zeroValue20
 t37:=underlying165
 a37:=Tryz.isAgg165
 z37:=Tryz.sizeOf165
 v37:=Tryz.zeroValue165
 t46:=underlying196
 a46:=Tryz.isAgg196
 z46:=Tryz.sizeOf196
 v46:=Tryz.zeroValue196
 t51:=underlying104
 a51:=Tryz.isAgg104
 z51:=Tryz.sizeOf104
 v51:=Tryz.zeroValue104
 t53:=underlying101
 a53:=Tryz.isAgg101
 z53:=Tryz.sizeOf101
 v53:=Tryz.zeroValue101
 t171:=underlying281
 a171:=Tryz.isAgg281
 z171:=Tryz.sizeOf281
 v171:=Tryz.zeroValue281
 t173:=underlying284
 a173:=Tryz.isAgg284
 z173:=Tryz.sizeOf284
 v173:=Tryz.zeroValue284
 t212:=underlying358
 a212:=Tryz.isAgg358
 z212:=Tryz.sizeOf358
 v212:=Tryz.zeroValue358
 t213:=underlying359
 a213:=Tryz.isAgg359
 z213:=Tryz.sizeOf359
 t232:=underlying389
 a232:=Tryz.isAgg389
 z232:=Tryz.sizeOf389
 v232:=Tryz.zeroValue389
 t233:=underlying390
 a233:=Tryz.isAgg390
 z233:=Tryz.sizeOf390
 v233:=Tryz.zeroValue390
 g17:=by kernel_rfl
 g18:=by kernel_rfl
 g19:=by kernel_rfl
 i0:=by kernel_rfl
 i2:=by kernel_rfl
 i3:=by kernel_rfl
 i4:=by kernel_rfl
 i5:=by kernel_rfl
 i9:=by kernel_rfl
 i20:=by kernel_rfl
 i37:=by kernel_rfl
 i46:=by kernel_rfl
 i51:=by kernel_rfl
 i53:=by kernel_rfl
 i171:=by kernel_rfl
 i173:=by kernel_rfl
 i212:=by kernel_rfl
 i232:=by kernel_rfl
 i233:=by kernel_rfl
 m17:=by kernel_rfl
 m18:=by kernel_rfl
 m19:=by kernel_rfl}
open Go.RowKit Go.Sort Go.Lib in
theorem Tryz.strconv_FormatInt_10(n:Int)(b : -9223372036854775808<=n)(c:n<=9223372036854775807)(w:World)(a:Lib.TabIs prog w "internal/strconv.uint64pow10" .u64 Lib.pow10Tab) :Calls prog 356 #[.int .i64 n,.int .i64 10] w fun e d=>e=.returned (.string ⟨(Lib.itoa n).toArray⟩)/\∃k f,d=grow (w.drewN k) f:=Any.strconv_FormatInt_10 Tryz.TL n b c w a
def Tryz.MT:Go.Shelf.Ren:=⟨fun | 174=>206 | 247=>217 | 245=>218 | 287=>229 | 279=>230 | 280=>231 | 281=>232 | 282=>233 | 321=>235 | 322=>236 | 316=>237 | 171=>34 | 205=>238 | 243=>63 | 246=>107 | 283=>142 | 284=>143 | 285=>144 | 286=>145 | 129=>180 | 317=>179 | 318=>181 | 319=>182 | 320=>183 | 337=>197 | 338=>198 | n=>n,fun | 9=>9 | 3=>3 | 2=>2 | 75=>63 | 85=>378 | 4=>4 | 167=>396 | 5=>5 | 53=>101 | 175=>397 | 46=>196 | 168=>399 | 37=>165 | 0=>0 | 210=>404 | 21=>21 | 127=>405 | 145=>408 | 143=>406 | 171=>281 | 173=>284 | 212=>358 | 51=>104 | 20=>20 | 213=>359 | 232=>389 | 233=>390 | 80=>324 | n=>n,fun | 15=>5 | 16=>6 | 17=>2 | 18=>3 | 19=>4 | n=>n⟩
theorem Tryz.N5:Go.Proofs.LaysC.n174 prog Tryz.MT:={
 mixed:=by kernel_rfl
 f129:=func180.trans (congrArg some (by kernel_rfl))
 f171:=func34.trans (congrArg some (by kernel_rfl))
 f174:=func206.trans (congrArg some (by kernel_rfl))
 f205:=func238.trans (congrArg some (by kernel_rfl))
 f243:=func63.trans (congrArg some (by kernel_rfl))
 f245:=func218.trans (congrArg some (by kernel_rfl))
 f246:=func107.trans (congrArg some (by kernel_rfl))
 f247:=func217.trans (congrArg some (by kernel_rfl))
 f279:=func230.trans (congrArg some (by kernel_rfl))
 f280:=func231.trans (congrArg some (by kernel_rfl))
 f281:=func232.trans (congrArg some (by kernel_rfl))
 f282:=func233.trans (congrArg some (by kernel_rfl))
 f283:=func142.trans (congrArg some (by kernel_rfl))
 f284:=func143.trans (congrArg some (by kernel_rfl))
 f285:=func144.trans (congrArg some (by kernel_rfl))
 f286:=func145.trans (congrArg some (by kernel_rfl))
 f287:=func229.trans (congrArg some (by kernel_rfl))
 f316:=func237.trans (congrArg some (by kernel_rfl))
 f317:=func179.trans (congrArg some (by kernel_rfl))
 f318:=func181.trans (congrArg some (by kernel_rfl))
 f319:=func182.trans (congrArg some (by kernel_rfl))
 f320:=func183.trans (congrArg some (by kernel_rfl))
 f321:=func235.trans (congrArg some (by kernel_rfl))
 f322:=func236.trans (congrArg some (by kernel_rfl))
 f337:=func197.trans (congrArg some (by kernel_rfl))
 f338:=func198.trans (congrArg some (by kernel_rfl))
 t0:=underlying0
 a0:=Tryz.isAgg0
 z0:=Tryz.sizeOf0
 v0:=Tryz.zeroValue0
 t2:=underlying2
 a2:=Tryz.isAgg2
 z2:=Tryz.sizeOf2
 v2:=Tryz.zeroValue2
 t3:=underlying3
 a3:=Tryz.isAgg3
 z3:=Tryz.sizeOf3
 v3:=Tryz.zeroValue3
 t4:=underlying4
 a4:=Tryz.isAgg4
 z4:=Tryz.sizeOf4
 v4:=Tryz.zeroValue4
 t5:=underlying5
 a5:=Tryz.isAgg5
 z5:=Tryz.sizeOf5
 v5:=Tryz.zeroValue5
 t9:=underlying9
 a9:=Tryz.isAgg9
 z9:=Tryz.sizeOf9
 v9:=Tryz.zeroValue9
 t20:=underlying20
 a20:=Tryz.isAgg20
 z20:=Tryz.sizeOf20
 v20:=Tryz.zeroValue20
 t21:=underlying21
 a21:=Tryz.isAgg21
 z21:=Tryz.sizeOf21
 v21:=Tryz.zeroValue21
 t37:=underlying165
 a37:=Tryz.isAgg165
 z37:=Tryz.sizeOf165
 v37:=Tryz.zeroValue165
 t46:=underlying196
 a46:=Tryz.isAgg196
 z46:=Tryz.sizeOf196
 v46:=Tryz.zeroValue196
 t51:=underlying104
 a51:=Tryz.isAgg104
 z51:=Tryz.sizeOf104
 v51:=Tryz.zeroValue104
 t53:=underlying101
 a53:=Tryz.isAgg101
 z53:=Tryz.sizeOf101
 v53:=Tryz.zeroValue101
 t75:=underlying63
 a75:=Tryz.isAgg63
 z75:=Tryz.sizeOf63
 v75:=Tryz.zeroValue63
 t85:=underlying378
 a85:=Tryz.isAgg378
 z85:=Tryz.sizeOf378
 v85:=Tryz.zeroValue378
 t127:=underlying405
 a127:=Tryz.isAgg405
 z127:=Tryz.sizeOf405
 v127:=Tryz.zeroValue405
 t143:=underlying406
 a143:=Tryz.isAgg406
 z143:=Tryz.sizeOf406
 v143:=Tryz.zeroValue406
 t145:=underlying408
 a145:=Tryz.isAgg408
 z145:=Tryz.sizeOf408
 v145:=Tryz.zeroValue408
 t167:=underlying396
 a167:=Tryz.isAgg396
 z167:=Tryz.sizeOf396
 v167:=Tryz.zeroValue396
 t168:=underlying399
 a168:=Tryz.isAgg399
 z168:=Tryz.sizeOf399
 v168:=Tryz.zeroValue399
 t171:=underlying281
 a171:=Tryz.isAgg281
 z171:=Tryz.sizeOf281
 v171:=Tryz.zeroValue281
 t173:=underlying284
 a173:=Tryz.isAgg284
 z173:=Tryz.sizeOf284
 v173:=Tryz.zeroValue284
 t175:=underlying397
 a175:=Tryz.isAgg397
 z175:=Tryz.sizeOf397
 v175:=Tryz.zeroValue397
 t210:=underlying404
 a210:=Tryz.isAgg404
 z210:=Tryz.sizeOf404
 v210:=Tryz.zeroValue404
 t212:=underlying358
 a212:=Tryz.isAgg358
 z212:=Tryz.sizeOf358
 v212:=Tryz.zeroValue358
 t213:=underlying359
 a213:=Tryz.isAgg359
 z213:=Tryz.sizeOf359
 t232:=underlying389
 a232:=Tryz.isAgg389
 z232:=Tryz.sizeOf389
 v232:=Tryz.zeroValue389
 t233:=underlying390
 a233:=Tryz.isAgg390
 z233:=Tryz.sizeOf390
 v233:=Tryz.zeroValue390
 g15:=by kernel_rfl
 g16:=by kernel_rfl
 g17:=by kernel_rfl
 g18:=by kernel_rfl
 g19:=by kernel_rfl
 t80:=underlying324
 a80:=Tryz.isAgg324
 z80:=Tryz.sizeOf324
 v80:=Tryz.zeroValue324
 i0:=by kernel_rfl
 i2:=by kernel_rfl
 i3:=by kernel_rfl
 i4:=by kernel_rfl
 i5:=by kernel_rfl
 i9:=by kernel_rfl
 i20:=by kernel_rfl
 i21:=by kernel_rfl
 i37:=by kernel_rfl
 i46:=by kernel_rfl
 i51:=by kernel_rfl
 i53:=by kernel_rfl
 i75:=by kernel_rfl
 i80:=by kernel_rfl
 i85:=by kernel_rfl
 i127:=by kernel_rfl
 i143:=by kernel_rfl
 i145:=by kernel_rfl
 i167:=by kernel_rfl
 i168:=by kernel_rfl
 i171:=by kernel_rfl
 i173:=by kernel_rfl
 i175:=by kernel_rfl
 i210:=by kernel_rfl
 i212:=by kernel_rfl
 i232:=by kernel_rfl
 i233:=by kernel_rfl
 m15:=by kernel_rfl
 m16:=by kernel_rfl
 m17:=by kernel_rfl
 m18:=by kernel_rfl
 m19:=by kernel_rfl
 c0:=by kernel_rfl
 c2:=by kernel_rfl
 c3:=by kernel_rfl
 c4:=by kernel_rfl
 c5:=by kernel_rfl
 c9:=by kernel_rfl
 c20:=by kernel_rfl
 c21:=by kernel_rfl
 c37:=by kernel_rfl
 c46:=by kernel_rfl
 c51:=by kernel_rfl
 c53:=by kernel_rfl
 c75:=by kernel_rfl
 c80:=by kernel_rfl
 c85:=by kernel_rfl
 c127:=by kernel_rfl
 c143:=by kernel_rfl
 c145:=by kernel_rfl
 c167:=by kernel_rfl
 c168:=by kernel_rfl
 c171:=by kernel_rfl
 c173:=by kernel_rfl
 c175:=by kernel_rfl
 c210:=by kernel_rfl
 c212:=by kernel_rfl
 c213:=by kernel_rfl
 c232:=by kernel_rfl
 c233:=by kernel_rfl}
open Go.RowKit in
theorem Tryz.strconv_ParseInt_10_at64_ok(s:ByteArray)(a:s.size<=9223372036854775806)(v:Int)(h:Lib.parseIntB 64 s.data.toList=.ok v)(w:World) :Calls prog 206 #[.string s,.int .i64 10,.int .i64 64] w fun e b=>e=.returned (.tuple #[.int .i64 v,.nilIface])/\(b=w\/∃t,b=Lib.bytesWorld w 5 t):=Any.strconv_ParseInt_10_at64_ok Tryz.N5 s a v h w
open Go.RowKit in
theorem Tryz.strconv_ParseInt_10_at64_range(s:ByteArray)(a:s.size<=281474976710656)(h:Lib.parseIntB 64 s.data.toList=.range)(b:Value)(w:World)(f:w.cell? ⟨6,0,none⟩=some b)(c:b=.nilIface\/∃g i,b=.iface g i) :Calls prog 206 #[.string s,.int .i64 10,.int .i64 64] w fun e d=>∃N,e=.returned (.tuple #[.int .i64 (Lib.intSat 64 s.data.toList),.iface 399 (.pointer (some ⟨N,0,none⟩))])/\w.heap.size<=N/\d.heap[N]?=some (.cells #[.string ⟨#[80,97,114,115,101,73,110,116]⟩,.string s,b] 404 (0,0))/\Below w.heap.size w d:=Any.strconv_ParseInt_10_at64_range Tryz.N5 s a h b w f c
end
open Pl (A3)
section
open Go.RowKit
variable {w w':World} {b n dep dpst dpk:Nat} {r:List (List UInt8)} {g gk:Bool} {rest items:Value} {vs:List Value}
def AQ(a:Nat)(c:UInt8):Nat:=10*a+(c.toNat-48)
theorem p_(l:List UInt8):∀a:Nat,a<=l.foldl AQ a:=by
 induction l with
 | nil=>intro a;exact n_
 | cons c r b=>intro a;refine t_ ?_ (b _);unfold AQ;omega
theorem ZW(l:List UInt8):∀a:Nat,l.all A3=true->Lib.parseUintM (2^64-1) a l=.ok (l.foldl AQ a)\/(Lib.parseUintM (2^64-1) a l=.range/\Pl.CG<l.foldl AQ a):=by
 induction l with
 | nil=>intro a _;exact .inl rfl
 | cons c r h =>
  intro a b;simp only [List.all_cons,Bool.and_eq_true] at b;have i:=Pl.K2 c b.1;have e:(c::r).foldl AQ a=r.foldl AQ (AQ a c):=rfl;have d:=p_ r (AQ a c);unfold Lib.parseUintM;rw [if_pos i,e];have j:a*10+(c.toNat-48)=AQ a c:=by unfold AQ;omega
  rw [j];by_cases f:1844674407370955162<=a
  ·rw [if_pos f];exact .inr ⟨rfl,by unfold Pl.CG;unfold AQ at d ⊢;omega⟩
  ·rw [if_neg f];by_cases g:2^64-1<AQ a c
   ·rw [if_pos g];exact .inr ⟨rfl,by unfold Pl.CG;omega⟩
   ·rw [if_neg g];exact h _ b.2
theorem qZ(l:List UInt8):Pl.F5 l=l.foldl AQ 0:=rfl
theorem intB(t:List UInt8)(g:Pl.isNum t=true)(p:t≠[]):Lib.parseIntB 64 t=.ok (Pl.F3 t)\/(Lib.parseIntB 64 t=.range/\Pl.CG<Pl.F5 (Pl.EY t)):=by
 cases t with
 | nil=>exact absurd rfl p
 | cons c r =>
  unfold Lib.parseIntB;by_cases n:c=45
  ·subst n;have o:r≠[]:=by rintro rfl;exact absurd g (by decide)
   have i:Pl.minus (45::r)=true:=by
    cases r with
    | nil=>exact absurd rfl o
    | cons d q=>simp [Pl.minus]
   have b:Pl.EY (45::r)=r:=by unfold Pl.EY;rw [i];rfl
   have a:r.all A3=true:=by unfold Pl.isNum at g;rwa [b] at g
   have e:Pl.F3 (45::r)=-(Pl.F5 r:Int):=by unfold Pl.F3;rw [i,b];rfl
   have k:Lib.parseUintB 64 r=Lib.parseUintM (2^64-1) 0 r:=by unfold Lib.parseUintB;rw [if_neg o]
   have f:((45:UInt8).toNat=43\/(45:UInt8).toNat=45):=.inr rfl;simp only [f,if_true,k,b,e,qZ];rcases ZW r 0 a with h | ⟨h,l⟩
   ·rw [h];dsimp only;rw [if_neg (by simp)];by_cases j:2^(64-1)<r.foldl AQ 0
    ·rw [if_pos ⟨rfl,j⟩];exact .inr ⟨rfl,by unfold Pl.CG;omega⟩
    ·rw [if_neg (fun h=>j h.2)];exact .inl rfl
   ·rw [h];exact .inr ⟨rfl,l⟩
  ·have i:Pl.minus (c::r)=false:=by simp [Pl.minus,n]
   have b:Pl.EY (c::r)=c::r:=by unfold Pl.EY;rw [i];rfl
   have a:(c::r).all A3=true:=by unfold Pl.isNum at g;rwa [b] at g
   have e:Pl.F3 (c::r)=(Pl.F5 (c::r):Int):=by unfold Pl.F3;rw [i,b];rfl
   have s:=Pl.K2 c (by simp only [List.all_cons,Bool.and_eq_true] at a;exact a.1);have k:Lib.parseUintB 64 (c::r)=Lib.parseUintM (2^64-1) 0 (c::r):=rfl;have m:¬c.toNat=43:=by omega
   have f:¬c.toNat=45:=by omega
   simp only [m,f,or_self,if_false,k,b,e,qZ,not_false_eq_true,true_and,false_and];rcases ZW (c::r) 0 a with h | ⟨h,l⟩
   ·rw [h];dsimp only;by_cases j:2^(64-1)<=(c::r).foldl AQ 0
    ·rw [if_pos j];exact .inr ⟨rfl,by unfold Pl.CG;omega⟩
    ·rw [if_neg j];exact .inl rfl
   ·rw [h];exact .inr ⟨rfl,l⟩
def GE(w:World):Prop:=∃ev,w.cell? ⟨6,0,none⟩=some ev/\(ev=.nilIface\/∃te pe,ev=.iface te pe)
theorem GE.lt(h:GE w):6<w.heap.size:=by obtain⟨a,h,_⟩:=h;exact World.block_lt_of_cell? w _ h
theorem GE.below(h:GE w)(a:Below w.heap.size w w'):GE w':=by have b:=h.lt;obtain⟨c,d,e⟩:=h;exact⟨c,(a.cell (p:=⟨6,0,none⟩) b).trans d,e⟩
theorem GE.grown(h:GE w)(a:w.grownBy w' (some b))(g:6<b):GE w':=by have c:=h.lt;obtain⟨d,e,f⟩:=h;refine⟨d,(World.cell?_of_block (w:=w) (a.block 6 c (by simp;omega))).trans e,f⟩
theorem qO(w:World)(b:Nat)(rest:Value)(p f:Int)(g:Bool)(s:ByteArray)(h:EW w b rest p f g)(E:GE w)(P:s.size<=1000)(F:0<s.size)(z:Pl.isNum s.data.toList=true) :Calls prog 188 #[.pointer (some ⟨b,0,none⟩),.string s] w fun e D=>∃k:Int,e=.returned (.int .i64 k)/\(gW (Pl.F3 s.data.toList)->k=Pl.F3 s.data.toList)/\w.grownBy D (some b)/\EW D b rest p f (g||Pl.ER s.data.toList):=by
 have j:s.data.toList≠[]:=fun e=>by
  have:s.data.toList.length=s.size:=by simp
  rw [e] at this;simp at this;omega
 obtain⟨G,l,c⟩:=E;rcases intB _ z j with q | ⟨q,i⟩
 ·have r:=h_ q;have u:=h_ h;have H:=aF h 3;clear q h l c j;go_enter func188,ntmps188;go_wp2_with fail;refine(Tryz.strconv_ParseInt_10_at64_ok s (by omega) _ r _).mono ?_;rintro e x ⟨rfl,v⟩
  have m:Below w.heap.size w x:=by
   rcases v with rfl | ⟨t,rfl⟩
   ·exact r_
   ·exact Lib.bytesWorld_below _ _ _
  have d:Hid (w.grownBy x (some b)):=aQ _ m;have a:=h_ (u.below m);have I:=aF a 3;have J:=a.cells.2.2.2;have n:Hid (∀X:Int,X=Pl.F3 s.data.toList->(Pl.ER s.data.toList=true↔(1099511627776<X\/X < -1099511627776))):=by intro X y;subst y;unfold Pl.ER Pl.F3 Pl.CG;rw [decide_eq_true_eq];split<;>omega
  generalize y:Pl.F3 s.data.toList=X at *;have A:=h_ y;clear y m v u r H z;by_cases K:1099511627776<X
  ·have o:Hid (Pl.ER s.data.toList=true):=(n X rfl).2 (.inl K);go_wp2_with fail;go_ret;refine⟨X,rfl,fun _=>A.symm,aC d (aE _ _ _ _),?_⟩;rw [o.out,Bool.or_true];exact a.FA true
  ·by_cases L:X < -1099511627776
   ·have o:Hid (Pl.ER s.data.toList=true):=(n X rfl).2 (.inr L);go_wp2_with fail;go_ret;refine⟨X,rfl,fun _=>A.symm,aC d (aE _ _ _ _),?_⟩;rw [o.out,Bool.or_true];exact a.FA true
   ·have o:Hid (Pl.ER s.data.toList=false):=show Pl.ER _=false from by
     cases M:Pl.ER s.data.toList with
     | false=>rfl
     | true=>have:=(n X rfl).1 M;omega
    go_wp2_with fail
    go_ret;refine⟨X,rfl,fun _=>A.symm,d,?_⟩;rw [o.out,Bool.or_false];exact a
 ·have r:=h_ q;have u:=h_ h;have o:Hid (Pl.ER s.data.toList=true):=show Pl.ER _=true from by unfold Pl.ER;simpa using i
  have B:Hid (¬gW (Pl.F3 s.data.toList)):=by unfold gW Pl.F3;intro O;split at O<;>omega
  have C:=h_ l;clear q h l j i z;go_enter func188,ntmps188;go_wp2_with fail;refine(Tryz.strconv_ParseInt_10_at64_range s (by omega) r G _ C c).mono ?_;rintro e x ⟨N,rfl,_,_,m⟩;have d:Hid (w.grownBy x (some b)):=aQ _ m;have a:=h_ (u.below m);have I:=aF a 3;have J:=a.cells.2.2.2;clear m u r c;go_wp2_with fail;go_ret;refine⟨_,rfl,fun h=>absurd h B,aC d (aE _ _ _ _),?_⟩;rw [o.out,Bool.or_true];exact a.FA true
def N_(t:List UInt8):Prop:=(cE t<4\/Pl.isNum t=true\/Pl.DZ t=true)/\0<t.length/\t.length<=1000
def F1(n:Nat)(w:World)(b dep dpst:Nat)(g:Bool)(l:List (List UInt8))(e:Ending)(w':World):Prop :=
 w.grownBy w' (some b) /\
 match Pl.pd n l with
 | none=>∃s,e=.returned (.tuple #[.nilIface,aY s 2])
 | some p=>∃v rest',e=.returned (.tuple #[v,.nilIface])/\AN (fun k=>w.heap.size<=k) n w' v p.t/\EW w' b rest' dep ((max dpst (dep+p.dp):Nat):Int) (g||p.gr)/\DG w' rest' p.q
def LJ(n:Nat):Prop:=∀(w:World)(b:Nat)(rest:Value) (l:List (List UInt8)) (dep dpst:Nat) (g:Bool),EW w b rest dep dpst g->DG w rest l->GE w->6<b->l.length<=n->l.length<=1000->dep+l.length<=2000->dep<=dpst->(∀t∈l,N_ t) ->
 Calls prog 148 #[.pointer (some ⟨b,0,none⟩)] w fun e w'=>F1 n w b dep dpst g l e w'
structure L6(n:Nat)(w wr:World)(b:Nat)(r:List (List UInt8))(dep dpst:Nat)(g:Bool)(q:List (List UInt8))(rest items:Value)(ts:List Tr)(vs:List Value)(dpk:Nat)(gk:Bool):Prop where
 LQ:q <:+ r
 len:ts.length+q.length<=r.length
 lf:Pl.LF (Pl.pd n) r ts dpk gk q
 rd:EW wr b rest ((dep+1:Nat):Int) ((max dpst (dep+1+dpk):Nat):Int) (g||gk)
 tk:DG wr rest q
 row:wr.ownsRow w.heap.size PT 1 items ts.length vs
 KG:∀(i:Nat)(u:Value)(x:Tr),vs[i]?=some u->ts[i]?=some x->AN (fun k=>w.heap.size<=k/\items.ownBlock≠some k) n wr u x
 one:∀u∈vs,u.oneCell'=true
 grown:w.grownBy wr (some b)
 ge:GE wr
 bw:b<w.heap.size
theorem L6.start{w1:World}(h:EW w1 b rest ((dep+1:Nat):Int) ((max dpst (dep+1):Nat):Int) g)(e:DG w1 rest r)(d:w.grownBy w1 (some b))(a:GE w1)(f:b<w.heap.size)(o:Obj)(j:o=.cells #[] PT (0,0)) :L6 n w (w1.alloc o) b r dep dpst g r rest (.slice (some ⟨w1.heap.size,0,none⟩) 0 0) [] [] 0 false where
 LQ:=List.suffix_refl _
 len:=by simp
 lf:=Pl.LF.start _ _
 rd:=(h.alloc o).cast rfl (by omega) (by simp)
 tk:=e.below (r_.alloc n_ o)
 row:=⟨rfl,.inr ⟨w1.heap.size,0,#[],rfl,d.size,by rw [j];exact heap_alloc_new _ _,n_,by unfold maxLen;omega,rfl,rfl⟩⟩
 KG:=fun i u x c=>by simp at c
 one:=fun u c=>by simp at c
 grown:=aC d (World.grownBy_alloc _ _ _)
 ge:=a.below (r_.alloc n_ o)
 bw:=f
structure PMid(n:Nat)(w w2:World)(b:Nat)(r:List (List UInt8))(dep dpst:Nat)(g:Bool)(p:Pl.PR)(rest items:Value)(ts:List Tr)(vs:List Value)(v:Value)(dpk:Nat)(gk:Bool):Prop where
 LQ:p.q <:+ r
 len:ts.length+1+p.q.length<=r.length
 lf:Pl.LF (Pl.pd n) r (ts++[p.t]) (max dpk p.dp) (gk||p.gr) p.q
 rd:EW w2 b rest ((dep+1:Nat):Int) ((max dpst (dep+1+max dpk p.dp):Nat):Int) (g||(gk||p.gr))
 tk:DG w2 rest p.q
 row:w2.ownsRow w.heap.size PT 1 items ts.length vs
 KG:∀(i:Nat)(u:Value)(x:Tr),vs[i]?=some u->ts[i]?=some x->AN (fun k=>w.heap.size<=k/\items.ownBlock≠some k) n w2 u x
 new:AN (fun k=>w.heap.size<=k/\items.ownBlock≠some k) n w2 v p.t
 one:∀u∈vs,u.oneCell'=true
 grown:w.grownBy w2 (some b)
 ge:GE w2
 bw:b<w.heap.size
theorem L6.call{wr w2:World}{t:List UInt8}{q0:List (List UInt8)}{rest':Value}{q:List Tr}{p:Pl.PR}{v:Value}(j:6<b)
  (h:L6 n w wr b r dep dpst g (t::q0) rest items q vs dpk gk) (y:¬t=[41]) (hp:Pl.pd n (t::q0)=some p) (f:wr.grownBy w2 (some b)) (c:AN (fun k=>wr.heap.size<=k) n w2 v p.t)
  (l:EW w2 b rest' ((dep+1:Nat):Int) ((max (max dpst (dep+1+dpk)) (dep+1+p.dp):Nat):Int) ((g||gk)||p.gr)) (m:DG w2 rest' p.q) :
  PMid n w w2 b r dep dpst g p rest' items q vs v dpk gk:=by
 have a:=Pl.FI n _ _ hp;have z:∀s,GA s wr w2:=fun s=>GA.DX f h.rd (by decide);have d:=h.len;have A:=a.2;simp only [c_] at d A;refine⟨a.1.trans h.LQ,by omega,h.lf.more y hp a.2,l.cast rfl (by omega) (by rw [Bool.or_assoc]),m,?_,?_,?_,h.one,aC h.grown f,h.ge.grown f j,h.bw⟩
 ·refine h.row.kept f ?_;by_cases o:items.ownBlock=some b
  ·have:=(h.row.lt b o).1;have:=h.bw;omega
  ·exact .inr o
 ·exact fun i u x B C=>AN.keep (z _) _ _ _ (h.KG i u x B C)
 ·refine AN.mono (fun k _ o=>?_) _ _ _ c;have:=h.grown.size;refine⟨by omega,fun e=>?_⟩;have:=(h.row.lt k e).2;omega
theorem PMid.push{w2 w3:World}{q:List Tr}{p:Pl.PR}{v:Value}{o:Obj}{g' cap':Nat}(L:6<b)
  (h:PMid n w w2 b r dep dpst g p rest items q vs v dpk gk) (F:v.oneCell'=true) (C:w3.ownsRow w.heap.size PT 1 (.slice (some ⟨g',0,none⟩) (q.length+1) cap') (q.length+1) (vs++[v])) (D:(w2.alloc o).grownBy w3 items.ownBlock) (G:items.ownBlock=some g'\/g'=w2.heap.size+1) :
  L6 n w w3 b r dep dpst g p.q rest (.slice (some ⟨g',0,none⟩) (q.length+1) cap') (q++[p.t]) (vs++[v]) (max dpk p.dp) (gk||p.gr):=by
 have H:=h.row.lt;have M:=h.grown.size;have E:=h.bw;have s:∀k,k<w2.heap.size->items.ownBlock≠some k->w3.heap[k]?=w2.heap[k]? := fun k d t=>(D.block k (by simp;omega) (fun e=>t e.symm)).trans (k_ d);have f:∀k,k<w.heap.size->w3.heap[k]?=w2.heap[k]? := fun k d=>s k (by omega) (fun e=>by have:=(H k e).1;omega);generalize I:Value.slice (some ⟨g',0,none⟩) (q.length+1) cap'=a at *;have J:a.ownBlock=some g':=by rw [<- I];rfl
 have z:GA (fun k=>w.heap.size<=k/\items.ownBlock≠some k) w2 w3:=fun k A c d=>by rw [s k (aB d) c.2];exact d
 have l:∀(u:Value)(x:Tr),AN (fun k=>w.heap.size<=k/\items.ownBlock≠some k) n w2 u x->AN (fun k=>w.heap.size<=k/\a.ownBlock≠some k) n w3 u x:=by
  intro u x N
  have j:AN (fun k=>(w.heap.size<=k/\items.ownBlock≠some k)/\a.ownBlock≠some k) n w2 u x:=by
   refine AN.mono (fun k d c=>⟨c,?_⟩) _ _ _ N;rw [J];intro e;obtain rfl:=i_ e;rcases G with j | j
   ·exact c.2 j
   ·omega
  have O:=AN.keep (w':=w3) (ok:=fun k=>(w.heap.size<=k/\items.ownBlock≠some k)/\a.ownBlock≠some k) (fun k A c d=>z k A c.1 d) _ _ _ j;exact AN.mono (fun k _ c=>⟨c.1.1,c.2⟩) _ _ _ O
 refine⟨h.LQ,by have:=h.len;simp;omega,h.lf,?_,?_,by simpa using C,?_,?_,?_,?_,E⟩
 ·show w3.heap[b]?=_;rw [f b E];exact h.rd
 ·refine h.tk.keep fun k A d=>?_;rw [s k (aB d) ?_];exact d;intro e;rcases h.row.2 with⟨K,_⟩ | ⟨y,_,_,K,_,P,_⟩
  ·rw [K] at e;simp [Value.ownBlock] at e
  ·rw [K] at e;simp only [Value.ownBlock,o_] at e;subst e;rw [P] at d;simp only [o_,Obj.cells.injEq] at d;have:=d.2.1;simp [PT,PK] at this
 ·intro i u x m B;have Q:=h.row.1;by_cases R:i<vs.length
  ·rw [List.getElem?_append_left R] at m;rw [List.getElem?_append_left (by omega)] at B;exact l u x (h.KG i u x m B)
  ·have e:i=vs.length:=by
    have:=(s_ m).1;simp at this;omega
   subst e;rw [List.getElem?_append_right n_] at m;rw [List.getElem?_append_right (by omega)] at B;have S:vs.length-q.length=0:=by omega
   rw [S] at B;simp at m B;subst m B;exact l _ _ h.new
 ·intro u m;rcases List.mem_append.1 m with j | j
  ·exact h.one u j
  ·simp at j;subst j;exact F
 ·refine⟨D.os.trans h.grown.os,D.tape.trans h.grown.tape,D.output.trans h.grown.output,by have:=D.size;simp at this;omega,fun k d t=>?_⟩;rw [f k d];exact h.grown.block k d t
 ·obtain⟨T,U,V⟩:=h.ge;exact⟨T,(World.cell?_of_block (w:=w2) (f 6 (by omega))).trans U,V⟩
theorem L6.done{wr:World}{q:List (List UInt8)}{j:List Tr}(h:L6 n w wr b r dep dpst g q rest items j vs dpk gk)(l:r.length<=1000)(o:wr.grownBy w' (some b)) :AN (fun k=>w.heap.size<=k) (n+1) w' (.iface 115 items) (.agg j):=by have p:∀m,GA m wr w':=fun m=>GA.DX o h.rd (by decide);refine AN.keep (p _) _ _ _ ⟨items,vs,rfl,fun r l=>(h.row.lt r l).1,⟨h.row.1,h.row.2.imp id (fun⟨g,d,e,a,b,c⟩=>⟨g,d,e,a,Nat.zero_le _,c⟩)⟩,?_,by have:=h.len;omega⟩;intro i u x s t;exact AN.mono (fun k _ f=>f.1) _ _ _ (h.KG i u x s t)
end
end Go.Proofs.YtkgbdddkcjpgfaaGreatDoor
