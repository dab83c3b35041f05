import Derived.Test.YtkgbdddkcjpgfaaGreatDoorQ09
namespace Go.Proofs.YtkgbdddkcjpgfaaGreatDoor
set_option maxHeartbeats 4000000
set_option maxRecDepth 100000
open Go.Proofs.Tryz
open Pl (PV PW AE arity AO)
section
open Go.RowKit Go.Lib
structure QB(w:World)(s:Sg)(ps:List (PV×PV))(b:Nat):Prop where
 pairs:∀(i k:Nat)(p:PV×PV),s.pb[i]?=some k->ps[i]?=some p->k<b/\∃x y,w.heap[k]?=some (.cells #[x,y] E0 (0,0))/\RV s x p.1/\RV s y p.2
 nodup:s.pb.Nodup
 len:s.pb.length=ps.length
 procs:∀(i k:Nat),s.qb[i]?=some k->k≠0->k<b/\∃cs,w.heap[k]?=some (.cells cs (ZX s.tq) (0,0))
 AG:∀(i k:Nat),s.cb[i]?=some k->k<b/\∃cs,w.heap[k]?=some (.cells cs (ZX s.tc) (0,0))
 B3:Lib.TabIs prog w oS .u64 Lib.pow10Tab
 DI:8<=b
 NH:IS s
 qn:∀(i j k:Nat),s.qb[i]?=some k->s.qb[j]?=some k->k≠0->i=j
 cn:s.cb.Nodup
theorem QB.below{w w':World}{s:Sg}{ps:List (PV×PV)}{b:Nat}(h:QB w s ps b)(e:Below b w w'):QB w' s ps b :=
 ⟨fun i k p c g=>by
  obtain⟨a,x,y,d,j⟩:=h.pairs i k p c g
  exact⟨a,x,y,(e.block k a).trans d,j⟩,h.nodup,h.len,fun i k c l=>by
  obtain⟨a,f,d⟩:=h.procs i k c l
  exact⟨a,f,(e.block k a).trans d⟩,fun i k c=>by
  obtain⟨a,f,d⟩:=h.AG i k c
  exact⟨a,f,(e.block k a).trans d⟩,iH (fun k m=>e.block k (l_ m h.DI)) h.B3,h.DI,h.NH,h.qn,h.cn⟩
def J1(W:PW)(w:World)(b:Nat)(l:AE)(p:PV)(e:Ending)(w':World):Prop :=e=.returned (.tuple #[])/\GP b w w'/\∃l',A6 w' b l'/\Pl.Q l' (l++Pl.text W.pairs p)/\l'.length<=max l.length 200+300+min 10 (10*Pl.B7 p)+min (201-l.length) (Pl.B7 p)
def P6(v:Value)(b:Nat)(w:World)(Q:Ending->World->Prop):Prop:=∃T x f x',v=.iface T x/\(Go.method 638 T x "Spell").run prog w=.ok (f,x') w/\Enters f/\Calls prog f #[x',.pointer (some ⟨b,0,none⟩)] w Q
def VA(W:PW)(s:Sg)(b n:Nat):Prop:=∀(w:World)(l:AE)(v:Value)(p:PV),A6 w b l->QB w s W.pairs b->RV s v p->BL W p->Pl.B7 p<=n->l.length<=1000000000->P6 v b w (J1 W w b l p)
theorem cH{W:PW}{w:World}{b:Nat}{l t:AE}{p:PV}(a:Pl.text W.pairs p=t)(c:t.length<=300){e:Ending}{w':World}(h:EP w b l t e w'):J1 W w b l p e w' :=⟨h.1,h.2.2,_,h.2.1,by rw [a];exact Pl.Q.refl _,by simp only [a_];omega⟩
theorem tR(W:PW)(s:Sg)(b:Nat)(w:World)(l:AE)(v:Value)(p:PV)(c:A6 w b l)(g:QB w s W.pairs b)(q:RV s v p)(j:BL W p)(d:l.length<=1000000000)(hp:∀i,p≠.pair i):P6 v b w (J1 W w b l p):=by
 have a:=Pl.Q8 W.pairs p hp
 cases q with
 | pair i b h=>exact absurd rfl (hp i)
 | num n =>refine⟨_,_,_,_,rfl,Tryz.w_ n w,Tryz.Y1,(sC w b l n c d j g.B3).mono (fun e f h=>cH a ?_ h)⟩;have:=Lib.itoa_length_le n (by have:n.natAbs<=1099511627776:=j;omega) (by have:n.natAbs<=1099511627776:=j;omega);show(Lib.itoa n).length<=300;omega
 | AT x=>exact⟨_,_,_,_,rfl,Tryz.SN x w,Tryz.RO,(uQ w b l x c d).mono (fun e f h=>cH a (by cases x<;>decide) h)⟩
 | name t=>exact⟨_,_,_,_,rfl,Tryz.WI _ w,Tryz.UM,(yI w b l t c d j).mono (fun e f h=>cH a j h)⟩
 | empty=>exact⟨_,_,_,_,rfl,Tryz.SO w,Tryz.RP,(uR w b l c d).mono (fun e f h=>cH a (by decide) h)⟩
 | nothing=>exact⟨_,_,_,_,rfl,Tryz.O1 w,Tryz.OE,(oU w b l c).mono (fun e f h=>cH a (by decide) h)⟩
 | proc i k h r =>obtain⟨_,o,m⟩:=g.procs i k h r;exact⟨_,_,_,_,rfl,g.NH.spq k w o m,Tryz.QQ,(lS w b l c d).mono (fun e f h=>cH a (show Pl.J6.length<=300 from by decide) h)⟩
 | cont i k h =>obtain⟨_,o,m⟩:=g.AG i k h;exact⟨_,_,_,_,rfl,g.NH.spc k w o m,Tryz.QQ,(lS w b l c d).mono (fun e f h=>cH a (show Pl.J6.length<=300 from by decide) h)⟩
 | AZ k t h m=>exact⟨_,_,_,_,rfl,Tryz.WG _ w,Tryz.UK,(yG w b l _ c d).mono (fun e f h=>cH a (show Pl.J6.length<=300 from by decide) h)⟩
 | EC=>exact⟨_,_,_,_,rfl,Tryz.RB w,Tryz.RF,(sD w b l c d).mono (fun e f h=>cH a (by decide) h)⟩
theorem UC{s:Sg}{j k:Nat}(a:s.pb.Nodup)(h:s.pb[j]?=some k):s.pb.idxOf k=j:=by obtain⟨b,rfl⟩:=s_ h;exact a.idxOf_getElem j b
def QU(W:PW)(w:World)(b:Nat)(l:AE)(i:Nat)(wr:World)(j:Nat)(lk:AE):Prop :=A6 wr b lk/\GP b w wr/\j<=i/\(l.length<lk.length/\lk.length<=max l.length 200+310+min (201-l.length) (i+1))/\∃q,W.pairs[j]?=some q/\Pl.Q (lk++(Pl.text W.pairs q.1++Pl.tl W.pairs q.2)) (l++Pl.text W.pairs (.pair i))
def blkOf:Value->Nat
 | .pointer (some a)=>a.block
 | _=>0
theorem yH(W:PW)(hP:OU W)(s:Sg)(b n:Nat)(hS:VA W s b n)(w:World)(l:AE)(i k:Nat)(ht:A6 w b l)(hL:QB w s W.pairs b)(hk:s.pb[i]?=some k)(hi:i<=n)(hl:l.length<=1000000000) :Calls prog 399 #[.pointer (some ⟨k,0,none⟩),.pointer (some ⟨b,0,none⟩)] w fun e N=>J1 W w b l (.pair i) e N:=by
 have HS:=h_ hS;have HP:=h_ hP;have Z:=h_ hL;have HT:=h_ ht;have HN:Hid (l.length<=1000000000/\i<W.pairs.length/\i<=n/\True):=⟨hl,by have:=(s_ hk).1;rw [hL.len] at this;exact this,hi,trivial⟩
 have HK:=h_ hk;clear hS hP hL ht hk hi hl;go_enter func399,ntmps399
 go_upto_region 1 with(go_at_call 335;refine(jI _ b l _ HT (by have:=HN.1;show l.length+1<=_;omega)).mono ?_;rintro e w1 ⟨rfl,ah,ai⟩)
 have H1:Hid (QU W w b l i w1 i (l++[40])):=by
  obtain⟨q,M⟩:∃q,W.pairs[i]?=some q:=⟨_,g_ HN.2.1⟩
  refine show QU _ _ _ _ _ _ _ _ from⟨ah,ai,n_,⟨by simp,by simp;omega⟩,q,M,?_⟩;rw [Pl.JO HP.KV M];simp [Pl.Q]
 clear ah ai
 go_loopw [0] (fun pv wr=>∃(j g:Nat)(D:AE),pv=.pointer (some ⟨g,0,none⟩)/\Hid (s.pb[j]?=some g)/\Hid (QU W w b l i wr j D)) (fun pv _=>s.pb.idxOf (blkOf pv))
 case atStart=>exact⟨i,k,_,rfl,HK,H1⟩
 case round =>
  obtain⟨j,g,D,rfl,HJ,HI⟩:=hrel;obtain⟨h,o,O,B,q,M,hQ⟩:=HI.out;obtain⟨P,x,y,Q,hx,hy⟩:=Z.pairs j g q HJ M;have d:=(o.block g P).trans Q;have x0:wr.cell? ⟨g,0,none⟩=some x:=aA d 0;have x1:wr.cell? ⟨g,1,none⟩=some y:=aA d 1;have aa:Hid (l.length<D.length/\D.length<=140000000000000):=⟨B.1,by have:=HN.1;have:=B.2;omega⟩
  have HQ:=h_ hQ;have HB:=h_ o;have bi:=h_ h;have HF:=h_ (uZ wr b D h aa.2);by_cases r:200<D.length
  ·have hd:decide (200<D.length)=true:=by simpa using r
   rw [hd] at HF;have HX:Hid (J1 W w b l (.pair i) (.returned (.tuple #[])) wr):=⟨rfl,o,D,h,(by have:=(Pl.Q.long (a:=D) [] (Pl.text W.pairs q.1++Pl.tl W.pairs q.2) r).trans hQ;simpa using this),by have:=B.2;simp only [Pl.B7];omega⟩
   clear hx hy Q d hQ M h o B;go_wp2_with (go_at_call 193;refine Calls.mono HF ?_;rintro e N ⟨rfl,rfl⟩)
   all_goals
    go_end0
    exact HX
  ·have hd:decide (200<D.length)=false:=by simpa using r
   rw [hd] at HF;have R:=HP.CH j q M;have S:=HP.KV j q M;obtain⟨T,x',f,xr,rfl,aj,V,t⟩:=HS.out wr D x q.1 h (Z.below o.below) hx R.1 (by have:=HN.2.2.1;omega) (by omega);unfold Enters at V;have HC:=h_ t;have u:Hid (BL W q.2/\Pl.B7 q.1<=j/\Pl.B7 q.2<=j/\RV s y q.2/\W.pairs[j]?=some q/\j<=i/\g<b/\D.length<=200):=⟨R.2,S.1,S.2,hy,M,O,P,by omega⟩
   have bj:=h_ d;rcases hy.MZ Z.NH with⟨m,km,F,ak,rfl⟩ | ⟨al,T2,x2,rfl,av⟩
   ·clear t hx hy Q d hQ M h o B R S O P
    go_wp2_with (first
     | (go_at_call 193;refine Calls.mono HF ?_;rintro e N ⟨rfl,rfl⟩)
     | (refine Calls.mono HC ?_;rintro e E ⟨rfl,C,c,G,H,am⟩;have ab:E.cell? ⟨g,1,none⟩=some (.iface 367 (.pointer (some ⟨km,0,none⟩))):=(C.cell (p:=⟨g,1,none⟩) u.2.2.2.2.2.2.1).trans x1;have bk:=@fC 367)
     | (go_at_call 335;refine(jI _ b c _ G (by have:=HN.out;have:=u.out;show c.length+1<=_;have:=HN.1;omega)).mono ?_;rintro e w3 ⟨rfl,v,z⟩))
    go_roundw
    case rel =>
     have hm:m<W.pairs.length:=by have:=u.1;rw [F] at this;exact this
     obtain⟨q',an⟩:∃q',W.pairs[m]?=some q':=⟨_,g_ hm⟩
     have hr:m+1<=j:=by have:=u.2.2.1;rw [F] at this;exact this
     have bl:=u.2.1;have O:=u.2.2.2.2.2.1;have aw:=u.2.2.2.2.2.2.2;refine⟨m,km,_,rfl,ak,show QU _ _ _ _ _ _ _ _ from⟨v,(HB.trans C).trans z,by omega,?_,q',an,?_⟩⟩
     ·have e1:(c++([32]:List UInt8)).length=c.length+1:=by simp
      have e2:=congrArg List.length H;simp only [List.length_take,a_] at e2;have e3:=aa.1;show l.length<(c++([32]:List UInt8)).length/\(c++([32]:List UInt8)).length<=_;omega
     ·refine Pl.Q.trans ?_ HQ;have ht:=Pl.MK HP.KV an;have h1:=H.app (Pl.tl W.pairs q.2);rw [F,ht] at h1;rw [F,ht];show Pl.Q ((c++[32])++_) _;simpa using h1
    case measure =>
     have hr:m+1<=j:=by have:=u.2.2.1;rw [F] at this;exact this
     show s.pb.idxOf km<s.pb.idxOf g;rw [UC Z.nodup ak,UC Z.nodup HJ.out];omega
   ·have HE:=(hy.QP Z.NH)
    have ao:=h_ al;clear t hx hy Q d hQ M h o B R S O P al
    go_upto_region 7 with(first
     | (go_at_call 193;refine Calls.mono HF ?_;rintro e N ⟨rfl,rfl⟩)
     | (refine Calls.mono HC ?_;rintro e E ⟨rfl,C,c,G,H,am⟩;have ab:E.cell? ⟨g,1,none⟩=some (.iface T2 x2):=(C.cell (p:=⟨g,1,none⟩) u.2.2.2.2.2.2.1).trans x1))
    have X:c.length<=510+min (201-l.length) (i+1):=by have:=u.2.1;have:=u.2.2.2.2.2.1;have:=u.2.2.2.2.2.2.2;have:=aa.1;omega
    have I:Hid (Calls prog 193 #[.pointer (some ⟨b,0,none⟩)] E fun e N=>e=.returned (.bool (decide (200<c.length)))/\E=N):=uZ E b c G (by omega);have U:Hid (Pl.Q (c++Pl.tl W.pairs q.2) (l++Pl.text W.pairs (.pair i))):=show Pl.Q _ _ from Pl.Q.trans (by simpa using H.app (Pl.tl W.pairs q.2)) HQ;have ac:=h_ (HB.trans C);have ad:=h_ G;have ax:=h_ X;clear G C H am X HC x0 x1 aj V av;by_cases ae:200<c.length
    ·have af:decide (200<c.length)=true:=by simpa using ae
     rw [af] at I;have HX:Hid (J1 W w b l (.pair i) (.returned (.tuple #[])) E):=⟨rfl,ac,c,ad,(by have:=(Pl.Q.long (a:=c) [] (Pl.tl W.pairs q.2) ae).trans U;simpa using this),by have:=ax.out;simp only [Pl.B7];omega⟩
     go_wp2_with (go_at_call 193;refine Calls.mono I ?_;rintro e N ⟨rfl,rfl⟩)
     go_end0
     exact HX
    ·have af:decide (200<c.length)=false:=by simpa using ae
     rw [af] at I;have J:Hid (c.length<=200):=show c.length<=200 from by omega
     have K:=neq_of (HE E);by_cases L:q.2=.empty
     ·rw [L] at K U;have Y:(binOp .neq 161 (.iface T2 x2) (.iface 366 (.agg #[]))).run prog E=.ok (.bool false) E:=K;clear K L HE
      go_wp2_with (first
       | (go_at_call 193;refine Calls.mono I ?_;rintro e N ⟨rfl,rfl⟩)
       | (go_at_call 335;refine(jI _ b c _ ad (by have:=J.out;show c.length+1<=_;omega)).mono ?_;rintro e w3 ⟨rfl,v,z⟩))
      go_end0
      exact⟨rfl,ac.trans z,_,v,U,by have:=J.out;show(c++([41]:List UInt8)).length<=_;simp only [a_,c_,z_,Pl.B7];omega⟩
     ·have Y:(binOp .neq 161 (.iface T2 x2) (.iface 366 (.agg #[]))).run prog E=.ok (.bool true) E:=by rw [K];simp [L]
      have ap:=Pl.QF W.pairs q.2 ao L
      have aq:Pl.B7 q.2=0:=by
       cases ay:q.2 with
       | pair k=>exact absurd ay (ao k)
       | _=>rfl
      have HR:Hid (Pl.tl W.pairs q.2=[32,46,32]++Pl.text W.pairs q.2++[41]/\Pl.B7 q.2=0):=⟨ap,aq⟩
      clear K L HE ap aq
      go_upto_region 10 with(first
       | (go_at_call 193;refine Calls.mono I ?_;rintro e N ⟨rfl,rfl⟩)
       | (go_at_call 335;refine(jI _ b c _ ad (by have:=J.out;show c.length+3<=_;omega)).mono ?_;rintro e w3 ⟨rfl,v,z⟩))
      have bm:=h_ v;have ar:=h_ (ac.trans z);obtain⟨T3,x3,f3,bn,e3,az,ag,A⟩:=HS.out w3 (c++[32,46,32]) _ q.2 v (Z.below ar.below) u.2.2.2.1 u.1 (by rw [HR.2];exact Nat.zero_le _) (by have:=J.out;simp only [a_,c_,z_];omega);simp only [Value.iface.injEq] at e3;obtain⟨rfl,rfl⟩:=e3;unfold Enters at ag;have ba:=h_ A;have bo:w3.cell? ⟨g,1,none⟩=some (.iface T2 x2):=(z.cell (p:=⟨g,1,none⟩) u.2.2.2.2.2.2.1).trans ab;clear A v z ab Y
      go_wp2_with (first
       | (go_at_call 335;refine(jI _ b l4 _ bb (by have:=au.out;show l4.length+1<=_;omega)).mono ?_;rintro e w5 ⟨rfl,bc,bd⟩)
       | (refine Calls.mono ba ?_;rintro e w4 ⟨rfl,be,l4,bf,bg,bh⟩;have bb:=h_ bf;have au:Hid (l4.length<=503):=show l4.length<=503 from(by have:=J.out;have:=HR.2;simp only [a_,c_,z_] at bh;omega)))
      go_end0
      refine⟨rfl,(ar.trans be).trans bd,_,bc,?_,by have:=au.out;show(l4++([41]:List UInt8)).length<=_;simp only [a_,c_,z_,Pl.B7];omega⟩;refine Pl.Q.trans ?_ U;rw [HR.1];have:=bg.app [41];show Pl.Q (l4++[41]) _;simpa using this
theorem uP(W:PW)(j:OU W)(s:Sg)(b:Nat):∀n,VA W s b n
 | 0=>fun w l v p a c d g h f=>tR W s b w l v p a c d g f (fun i e=>by subst e;simp [Pl.B7] at h)
 | n+1=>fun w l v p a c d g h f=>by
  by_cases m:∃i,p=.pair i
  ·obtain⟨i,rfl⟩:=m
   cases d with
   | pair _ k o=>exact⟨_,_,_,_,rfl,Tryz.WH k w,Tryz.UL,yH W j s b n (uP W j s b n) w l i k a c o (by simp only [Pl.B7] at h;omega) f⟩
  ·exact tR W s b w l v p a c d g f (fun i e=>m ⟨i,e⟩)
theorem txt_new(w:World):A6 (w.alloc (.cells #[.slice none 0 0] L3)) w.heap.size []:=⟨_,heap_alloc_new w _,World.ownsRow_nil _ _ _ _⟩
theorem hH(W:PW)(n:OU W)(s:Sg)(w:World)(v:Value)(p:PV)(o:QB w s W.pairs w.heap.size)(q:RV s v p)(r:BL W p) :Calls prog 126 #[v] w fun e t=>e=.returned (.string ⟨(Pl.cut (Pl.text W.pairs p)).toArray⟩)/\Below w.heap.size w t:=by
 have d:Below w.heap.size w (w.alloc (.cells #[.slice none 0 0] L3)):=cX w _ _ n_;obtain⟨T,x,f,z,rfl,b,c,a⟩:=uP W n s w.heap.size (Pl.B7 p) _ [] v p (txt_new w) (o.below d) q r n_ (by simp);have u:=h_ d;have y:=h_ a;unfold Enters at c;unfold L3 at b;clear a o q r d n;go_enter func126,ntmps126
 go_wp2_with (first
  | (go_at_call 168;refine(JT _ _ g h i).mono ?_;rintro e A ⟨rfl,rfl⟩)
  | (refine Calls.mono y ?_;rintro e B ⟨rfl,j,g,k,l,m⟩;have h:=h_ k;have i:Hid (g.length<=140000000000000):=show g.length<=_ from(by simp only [z_] at m;omega)))
 go_ret;exact⟨by rw [l.cut];rfl,u.trans j.below⟩
def EH(w:World):Prop:=∀(k:Nat)(nm:AE),AO[k]?=some nm->k<12->w.cell? ⟨1,k*2,none⟩=some (.string ⟨nm.toArray⟩)/\w.cell? ⟨1,k*2+1,none⟩=some (.int .i64 (arity nm:Nat))
theorem gR(nm:ByteArray)(n:Nat)(f:Option Addr)(a b:Nat)(w:World)(j:n<=1000000000)(k:nm.size<=1000) :Calls prog 298 #[.string nm,.int .i64 (n:Int),.slice f a b] w fun e c=>w=c/\((a=n/\e=.returned .nilIface)\/(a≠n/\∃g,e=.returned (aY g 10))):=by
 by_cases h:a=n
 ·subst h;go_enter func298,ntmps298;go_wp2_with fail;go_ret;exact⟨rfl,.inl ⟨trivial,rfl⟩⟩
 ·have i:((a:Int)!=(n:Int))=true:=by simp;omega
  have d:((a:Int)==(n:Int))=false:=by simp;omega
  go_enter func298,ntmps298
  go_wp2_with (go_at_call 78;refine(bJ _ _ _).mono ?_;rintro e c ⟨rfl,rfl⟩)
  go_ret;exact⟨rfl,.inr ⟨h,_,rfl⟩⟩
theorem lQ{nm:AE}(h:nm∈AO):nm.length<=10:=by
 have:∀x∈AO,x.length<=10:=by decide
 exact this nm h
theorem dD(k:Nat)(nm:AE)(a:Int)(w:World)(hp:EH w)(b:AO[k]?=some nm)(c:k<12) :Calls prog 326 #[.int .i64 (k:Int),.int .i64 a] w fun e d=>w=d/\∃f,e=.returned (aY f a):=by
 obtain⟨g,_⟩:=hp k nm b c;have h:=lQ (q_ b);have i:(0:Int)<=(k:Int):=by omega
 have j:(k:Int)<12:=by omega
 clear hp b;go_enter func326,ntmps326;go_wp2_with (go_at_call 78;refine(bJ _ _ _).mono ?_;rintro e d ⟨rfl,rfl⟩);go_ret;exact⟨rfl,_,rfl⟩
theorem uS(n:Int)(w:World)(b:n.natAbs<=4611686018427387904):Calls prog 329 #[.int .i64 n] w fun e a=>w=a/\e=.returned (.int .i64 (n.natAbs:Int)):=by
 have c:wrap64 (-n)=-n:=by unfold wrap64;omega
 go_enter func329,ntmps329
 go_wp2_with fail
 go_ret;exact⟨rfl,congrArg (fun x=>Ending.returned (.int .i64 x)) (show max n (-n)=_ from by omega)⟩
theorem TK(n:Int):decide ((n.natAbs:Int)<=1099511627776)=decide (n.natAbs<=Pl.CG):=by rw [decide_eq_decide];unfold Pl.CG;omega
theorem uV(x y:Int)(w:World)(b:x.natAbs<=Pl.CG)(c:y.natAbs<=Pl.CG):Calls prog 328 #[.int .i64 0,.int .i64 x,.int .i64 y] w fun e a=>w=a/\e=.returned (.tuple #[.int .i64 (x+y),.bool (decide ((x+y).natAbs<=Pl.CG))]):=by
 have d:=TK (x+y);unfold Pl.CG at b c;have f:wrap64 (x+y)=x+y:=by unfold wrap64;omega
 go_enter func328,ntmps328
 go_wp2_with (go_at_call 329;refine(uS _ _ (by omega)).mono ?_;rintro e a ⟨rfl,rfl⟩)
 go_ret2;exact⟨rfl,rfl⟩
theorem uT(x y:Int)(w:World)(b:x.natAbs<=Pl.CG)(c:y.natAbs<=Pl.CG):Calls prog 328 #[.int .i64 1,.int .i64 x,.int .i64 y] w fun e a=>w=a/\e=.returned (.tuple #[.int .i64 (x-y),.bool (decide ((x-y).natAbs<=Pl.CG))]):=by
 have d:=TK (x-y);unfold Pl.CG at b c;have f:wrap64 (x-y)=x-y:=by unfold wrap64;omega
 go_enter func328,ntmps328
 go_wp2_with (go_at_call 329;refine(uS _ _ (by omega)).mono ?_;rintro e a ⟨rfl,rfl⟩)
 go_ret2;exact⟨rfl,rfl⟩
theorem zQ(x y:Int)(b:x≠0):decide ((y.natAbs:Int)<=1099511627776 / (x.natAbs:Int))=decide ((x*y).natAbs<=Pl.CG):=by
 rw [decide_eq_decide];have a:(0:Int)<(x.natAbs:Int):=by omega
 rw [Int.le_ediv_iff_mul_le a,Int.natAbs_mul];unfold Pl.CG;constructor
 ·intro h;have:((y.natAbs*x.natAbs:Nat):Int)<=1099511627776:=by simpa using h
  rw [Nat.mul_comm];omega
 ·intro h;have:((x.natAbs*y.natAbs:Nat):Int)<=1099511627776:=by omega
  rw [Nat.mul_comm] at this;simpa using this
theorem uU(x y:Int)(w:World)(g:x.natAbs<=Pl.CG)(i:y.natAbs<=Pl.CG):Calls prog 328 #[.int .i64 2,.int .i64 x,.int .i64 y] w fun e c=>Below w.heap.size w c/\∃r,((x*y).natAbs<=Pl.CG->r=x*y)/\e=.returned (.tuple #[.int .i64 r,.bool (decide ((x*y).natAbs<=Pl.CG))]):=by
 have j:(x*y).natAbs<=Pl.CG->IntKind.i64.wrap (x*y)=x*y:=fun h=>by rw [IntKind.wrap_i64];unfold Pl.CG at h;omega
 unfold Pl.CG at g i;by_cases b:x=0
 ·subst b;have d:(0:Int)*y=0:=by omega
  have k:decide (((0:Int)*y).natAbs<=Pl.CG)=true:=by rw [d];rfl
  go_enter func328,ntmps328
  go_wp2_with fail
  go_region
  all_goals
   go_wp2_with fail
   go_ret2;exact⟨r_.drew,0,fun _=>d.symm,by rw [k];rfl⟩
 ·have m:(x==0)=false:=by simpa using b
  have f:=zQ x y b;have n:(x.natAbs:Int)≠0:=by omega
  have a:IntKind.i64.wrap (Int.tdiv 1099511627776 (x.natAbs:Int))=1099511627776 / (x.natAbs:Int):=by rw [IntKind.wrap_i64,Int.tdiv_eq_ediv_of_nonneg (by decide)];have o:1099511627776 / (x.natAbs:Int)<=1099511627776:=Int.ediv_le_self _ (by decide);have p:0<=1099511627776 / (x.natAbs:Int):=Int.ediv_nonneg (by decide) (by omega);omega
  have l:decide ((y.natAbs:Int)<=IntKind.i64.wrap (Int.tdiv 1099511627776 (x.natAbs:Int)))=decide ((x*y).natAbs<=Pl.CG):=by rw [a];exact f
  clear a f;go_enter func328,ntmps328;go_wp2_with fail;go_region_with (go_at_call 329;refine(uS _ _ (by omega)).mono ?_;rintro e c ⟨rfl,rfl⟩)
  all_goals
   go_wp2_with fail
   go_ret2;refine⟨r_.drew,_,j,?_⟩
   go_simp
end
open Pl (PS PF CW Env)
section
open Go.RowKit Go.Maps
variable {w w':World} {M M':Nat->Prop} {v:Value} {b tb mb gb:Nat} {bs:List Nat}
def M8:TypeId:=387
def DQ:TypeId:=258
def BT:TypeId:=169
def U9:TypeId:=148
def EQ:TypeId:=333
def J0:TypeId:=526
inductive CX (M:Nat->Prop) (w:World) (s:Sg):Value->Env->Prop
 | nil:CX M w s (.pointer none) []
 | cons (b:Nat) (nv up:Value) (ao:Option Addr) (cap base:Nat) (ns:List AE) (env:Env)
   (hb:w.heap[b]?=some (.cells #[nv,.slice ao ns.length cap,up] M8 (0,0))) (hm:¬M b) (hn:EI M w s nv ns) (hcap:ns.length<=cap)
   (hp:∀i,i<ns.length->∃g off,ao=some ⟨g,off,none⟩/\s.lp[base+i]?=some (some (g,off+i)))
   (h:CX M w s up env):CX M w s (.pointer (some ⟨b,0,none⟩)) (env++Pl.C1 ns base)
theorem CX.go{s t:Sg}(k:Stp M w M' w')(l:Sg.Le s t){e:Env}(h:CX M w s v e):CX M' w' t v e:=by
 induction h with
 | nil=>exact .nil
 | cons b n o p d a q f m r u c x _ y =>
  obtain⟨z,A⟩:=k.block b (aB m) r
  exact .cons b n o p d a q f (z.trans m) A (u.go k l) c (fun i B=>by
   obtain⟨g,j,C,D⟩:=x i B
   exact⟨g,j,C,bS l.lp D⟩) y
theorem CX.ptr{s:Sg}{e:Env}(h:CX M w s v e):∃o,v=.pointer o:=by cases h<;>exact⟨_,rfl⟩
def E3(M:Nat->Prop)(w:World)(s:Sg)(v:Value)(fs:List PF):Prop:=∃us,Sl M w D8 1 v us.length us/\BY (CP M w s) us fs
def FD(M:Nat->Prop)(w:World)(s:Sg)(v:Value)(l:List PV):Prop:=∃us,Sl M w B9 1 v us.length us/\BY (RV s) us l
theorem E3.go{s t:Sg}(a:Stp M w M' w')(l:Sg.Le s t){fs:List PF}(h:E3 M w s v fs):E3 M' w' t v fs:=by obtain⟨b,c,d⟩:=h;exact⟨b,c.AQ a,d.mono (fun _ _ x=>x.go a l)⟩
theorem FD.go{s t:Sg}(a:Stp M w M' w')(l:Sg.Le s t){fs:List PV}(h:FD M w s v fs):FD M' w' t v fs:=by obtain⟨b,c,d⟩:=h;exact⟨b,c.AQ a,d.mono (fun _ _ x=>x.le l)⟩
inductive FF (M:Nat->Prop) (w:World) (s:Sg):Value->CW->Prop
 | iff (a b c ev:Value) (fr:CW) (x y z:PF) (hk:fr.form.k=.iff) (hf:fr.form.ks=[x,y,z]) (ha:∃T x,a=.iface T x) (h2:CP M w s b y) (h3:CP M w s c z) (he:CX M w s ev fr.env):FF M w s (.iface 338 (.agg #[a,b,c,ev])) fr
 | set (k:Nat) (ev:Value) (fr:CW) (hk:fr.form.k=.set) (hn:s.ns[k]?=some fr.form.nm) (he:CX M w s ev fr.env):FF M w s (.iface 342 (.agg #[.string ⟨fr.form.nm.toArray⟩,.int .i64 (k:Int),ev])) fr
 | define (k:Nat) (fr:CW) (hk:fr.form.k=.define) (hn:s.ns[k]?=some fr.form.nm):FF M w s (.iface 344 (.agg #[.string ⟨fr.form.nm.toArray⟩,.int .i64 (k:Int)])) fr
 | begin (rv ev:Value) (fr:CW) (hk:fr.form.k=.begin) (hr:E3 M w s rv (fr.form.ks.drop fr.pos)) (he:CX M w s ev fr.env):FF M w s (.iface 375 (.agg #[rv,ev])) fr
 | call (vv rv ev:Value) (fr:CW) (hk:fr.form.k=.call) (hv:FD M w s vv fr.B8) (hr:E3 M w s rv (fr.form.ks.drop fr.pos)) (he:CX M w s ev fr.env):FF M w s (.iface 352 (.agg #[vv,rv,ev])) fr
theorem FF.go{s t:Sg}(d:Stp M w M' w')(l:Sg.Le s t){fr:CW}(h:FF M w s v fr):FF M' w' t v fr:=by
 cases h with
 | iff a b c f _ x y z e n o p q g=>exact .iff a b c f _ x y z e n o (p.go d l) (q.go d l) (g.go d l)
 | set k f _ e i g=>exact .set k f _ e (bS l.ns i) (g.go d l)
 | define k _ e i=>exact .define k _ e (bS l.ns i)
 | begin j f _ e m g=>exact .begin j f _ e (m.go d l) (g.go d l)
 | call r j f _ e u m g=>exact .call r j f _ e (u.go d l) (m.go d l) (g.go d l)
theorem FF.iface{s:Sg}{fr:CW}(h:FF M w s v fr):∃T x,v=.iface T x:=by cases h<;>exact⟨_,_,rfl⟩
def GW(M:Nat->Prop)(w:World)(s:Sg):Value->List CW->Prop
 | v,[]=>v=.pointer none
 | v,f::r=>∃b top up,v=.pointer (some ⟨b,0,none⟩)/\¬M b/\w.heap[b]?=some (.cells #[top,up,.int .i64 ((r.length+1:Nat):Int)] DQ (0,0))/\FF M w s top f/\GW M w s up r
theorem GW.go{s t:Sg}(a:Stp M w M' w')(l:Sg.Le s t):∀(d:List CW)(v:Value),GW M w s v d->GW M' w' t v d
 | [],_,h=>h
 | f::r,v,h=>by obtain⟨b,c,e,i,j,g,k,m⟩:=h;obtain⟨n,o⟩:=a.block b (aB g) j;exact⟨b,c,e,i,o,n.trans g,k.go a l,GW.go a l r e m⟩
theorem GW.ptr{s:Sg}:∀{a:List CW} {v:Value},GW M w s v a->∃o,v=.pointer o
 | [],_,h=>⟨_,h⟩
 | _::_,_,h=>by obtain⟨b,_,_,c,_⟩:=h;exact⟨_,c⟩
def GR(M:Nat->Prop)(w:World)(s:Sg)(b:Nat)(q:PF×Env):Prop:=¬M b/\∃nv body ev x,w.heap[b]?=some (.cells #[nv,body,ev] EQ (0,0))/\q.1.ks=[x]/\EI M w s nv q.1.ns/\CP M w s body x/\CX M w s ev q.2
def GX(M:Nat->Prop)(w:World)(s:Sg)(b:Nat)(c:List CW):Prop:=¬M b/\∃kv,w.heap[b]?=some (.cells #[kv] J0 (0,0))/\GW M w s kv c
theorem GR.go{s t:Sg}(c:Stp M w M' w')(l:Sg.Le s t){q:PF×Env}(h:GR M w s b q):GR M' w' t b q:=by obtain⟨e,f,a,g,x,d,i,j,k,m⟩:=h;obtain⟨n,o⟩:=c.block b (aB d) e;exact⟨o,f,a,g,x,n.trans d,i,j.go c l,k.go c l,m.go c l⟩
theorem GX.go{s t:Sg}(a:Stp M w M' w')(l:Sg.Le s t){q:List CW}(h:GX M w s b q):GX M' w' t b q:=by obtain⟨d,e,c,f⟩:=h;obtain⟨g,i⟩:=a.block b (aB c) d;exact⟨i,e,g.trans c,f.go a l⟩
structure OW{α:Type}(R:Nat->α->Prop)(bs:List Nat)(l:List α):Prop where
 len:bs.length=l.length
 nodup:bs.Nodup
 at_:∀(i b:Nat)(x:α),bs[i]?=some b->l[i]?=some x->R b x
theorem OW.mono{α:Type}{R Q:Nat->α->Prop}{l:List α}(h:OW R bs l)(a:∀b x,R b x->Q b x):OW Q bs l:=⟨h.len,h.nodup,fun i b x c d=>a b x (h.at_ i b x c d)⟩
theorem OW.push{α:Type}{R:Nat->α->Prop}{l:List α}(h:OW R bs l){x:α}(g:R b x)(j:b∉bs):OW R (bs++[b]) (l++[x]):=by
 refine⟨by simp [h.len],?_,?_⟩
 ·rw [List.nodup_append];refine⟨h.nodup,by simp,?_⟩;rintro a k c d;rintro rfl;simp at d;subst d;exact j k
 ·intro i c y d e;rcases Nat.lt_or_ge i bs.length with f | f
  ·rw [List.getElem?_append_left f] at d;rw [List.getElem?_append_left (by rw [<- h.len];exact f)] at e;exact h.at_ i c y d e
  ·rw [List.getElem?_append_right f] at d;rw [List.getElem?_append_right (by rw [<- h.len];exact f),<-h.len] at e;have m:=(s_ d).1;have n:i-bs.length=0:=by simp at m;omega
   rw [n] at d e;simp at d e;subst d e;exact g
theorem OW.get{α:Type}{R:Nat->α->Prop}{l:List α}(h:OW R bs l){i:Nat}(a:bs[i]?=some b):∃x,l[i]?=some x/\R b x:=by have d:=(s_ a).1;have c:=g_ (l:=l) (i:=i) (by rw [<- h.len];exact d);exact⟨_,c,h.at_ i b _ a c⟩
structure CM(M:Nat->Prop)(w:World)(s:Sg)(pl:List PV):Prop where
 len:s.lp.length=pl.length
 inj:∀(i j:Nat)(c:Nat×Nat),s.lp[i]?=some (some c)->s.lp[j]?=some (some c)->i=j
 at_:∀(i g o:Nat)(p:PV),s.lp[i]?=some (some (g,o))->pl[i]?=some p->M g/\∃cur v,w.heap[g]?=some (.cells cur B9 (0,0))/\cur[o]?=some v/\RV s v p
def heldE(v:Value):Option (DataW Value×List MemPlace):=some (.held v,[])
structure AC(D:DataW Value)(s:Sg)(W:PW):Prop where
 tidy:Tidy D
 yes:∀(k:Nat)(nm:AE)(i:Nat),s.ns[k]?=some nm->Pl.find W.globals nm=some i->Maps.has D (.int .i64 (k:Int))=true/\∃v p,(∀z,D.atKey (.int .i64 (k:Int)) z=.held v)/\W.places[i]?=some p/\RV s v p
 no:∀(k:Nat)(nm:AE),s.ns[k]?=some nm->Pl.find W.globals nm=none->Maps.has D (.int .i64 (k:Int))=false
 keys:∀k:Nat,Maps.has D (.int .i64 (k:Int))=true->k<s.ns.length
 names:∀nm i,Pl.find W.globals nm=some i->nm∈s.ns/\s.lp[i]?=some none
 inj:∀a b i,Pl.find W.globals a=some i->Pl.find W.globals b=some i->a=b
def GV(w:World)(gb:Nat)(s:Sg)(W:PW):Prop:=∃D:DataW Value,w.ownsMap prog 3 heldE gb W.globals.length D/\AC D s W
theorem XS{P:Program}{k:TypeId}{R:Value->Option (DataW Value×List MemPlace)}{n:Nat}{D:DataW Value}(h:w.ownsMap P k R b n D):w.ownsMap P k R b (Maps.size D) D:=by obtain⟨a,c,d,e,f,rfl⟩:=h;exact⟨a,c,d,e,Nat.le_of_eq (length_read (P:=P) (k:=k) (R0:=R) a).symm,rfl⟩
structure Wd(M:Nat->Prop)(w:World)(s:Sg)(tb mb sb gb:Nat)(W:PW):Prop where
 CY:BM M w s tb mb W.pairs
 NN:w.heap[sb]?=some (.cells #[.map (some gb)] U9 (0,0))
 msb:¬M sb
 DI:GV w gb s W
 TH:M gb
 UE:gb≠mb
 procs:OW (GR M w s) s.qb W.procs
 AG:OW (GX M w s) s.cb W.AG
 places:CM M w s W.places
 gs:Gs w M
 JQ:EH w
 gt:w.cell? ⟨0,0,none⟩=some (.iface 301 (.agg #[.pointer (some ⟨8,63,none⟩)]))
 ge:GE w
 tq:s.tq=330
 tc:s.tc=522
structure Mv(M:Nat->Prop)(w:World)(M':Nat->Prop)(w':World):Prop where
 AQ:Stp M w M' w'
 keep:∀k,k<w.heap.size->M k->M' k/\(w'.heap[k]?=w.heap[k]? \/ ∃cur e fz,w.heap[k]?=some (.cells cur e fz)/\e≠B9)
 lt:(∀k,M k->k<w.heap.size)->∀k,M' k->k<w'.heap.size
theorem Mv.below(h:Below w.heap.size w w'):Mv M w M w':=⟨Stp.AA h,fun k a b=>⟨b,.inl (h.block k a)⟩,fun c k a=>l_ (c k a) h.size⟩
def Mn(M:Nat->Prop)(X:Nat->Prop)(k:Nat):Prop:=M k\/X k
theorem Mv.wide(X:Nat->Prop)(h:∀k,X k->w.heap.size<=k)(a:Below w.heap.size w w')(d:∀k,X k->k<w'.heap.size):Mv M w (Mn M X) w' :=⟨⟨a.os,a.tape,a.output,a.size,fun k b c=>⟨a.block k b,fun x=>x.elim c (fun y=>by have:=h k y;omega)⟩⟩,fun k b c=>⟨.inl c,.inl (a.block k b)⟩,fun e k b=>b.elim (fun y=>l_ (e k y) a.size) (d k)⟩
theorem CM.mv{s:Sg}{d:List PV}(h:CM M w s d)(j:Mv M w M' w'):CM M' w' s d :=
 ⟨h.len,h.inj,fun i g o p k l=>by
  obtain⟨m,b,v,c,n,q⟩:=h.at_ i g o p k l;obtain⟨r,a⟩:=j.keep g (aB c) m;rcases a with a | ⟨f,e,u,a,t⟩
  ·exact⟨r,b,v,a.trans c,n,q⟩
  ·rw [c] at a;simp only [o_,Obj.cells.injEq] at a
   exact absurd a.2.1.symm t⟩
theorem CM.le{s t:Sg}{b:List PV}(h:CM M w s b)(l:Sg.Le s t)(hp:t.lp=s.lp):CM M w t b :=
 ⟨by rw [hp];exact h.len,by rw [hp];exact h.inj,fun i g o p c d=>by
  rw [hp] at c;obtain⟨e,a,v,f,j,k⟩:=h.at_ i g o p c d
  exact⟨e,a,v,f,j,k.le l⟩⟩
theorem bY(h:Gs w M)(b:Stp M w M' w'){k o:Nat}(a:k<8):w'.cell? ⟨k,o,none⟩=w.cell? ⟨k,o,none⟩:=World.cell?_of_block (w:=w) (b.block k (l_ a h.size) (h.low k a)).1
theorem jN:1<8:=by decide
theorem kT:0<8:=by decide
theorem kU:6<8:=by decide
theorem EH.AQ(h:EH w)(b:Gs w M)(c:Stp M w M' w'):EH w':=fun k d e a=>by rw [bY b c jN,bY b c jN];exact h k d e a
theorem DE(d:Mv M w M' w'){f:Array MapEntry}{c:Nat}(a:w.heap[b]?=some (.map f c))(g:M b):w'.heap[b]?=w.heap[b]? := by
 rcases(d.keep b (aB a) g).2 with h | ⟨i,e,j,h,_⟩
 ·exact h
 ·rw [a] at h;simp at h
theorem IW.F6{ns:List (List UInt8)}(h:IW w tb mb ns):∃a c,w.heap[mb]?=some (.map a c):=by obtain⟨D,⟨a,c,b,_⟩,_⟩:=h.map;exact⟨a,c,b⟩
theorem GV.F6{s:Sg}{W:PW}(h:GV w gb s W):∃a c,w.heap[gb]?=some (.map a c):=by obtain⟨D,⟨a,c,b,_⟩,_⟩:=h;exact⟨a,c,b⟩
theorem GV.keep{s:Sg}{W:PW}(h:GV w gb s W)(a:w'.heap[gb]?=w.heap[gb]?):GV w' gb s W:=by obtain⟨D,⟨b,c,d,r⟩,e⟩:=h;exact⟨D,⟨b,c,a.trans d,r⟩,e⟩
theorem BM.mv{s:Sg}{ps:List (PV×PV)}(h:BM M w s tb mb ps)(a:Mv M w M' w'):BM M' w' s tb mb ps:=by obtain⟨f,c,b⟩:=h.B3.F6;obtain⟨d,e⟩:=a.AQ.block tb h.B3.lt.1 h.JJ;exact⟨h.B3.keep d (DE a b h.FV),h.pairs.AQ a.AQ,(a.keep mb h.B3.lt.2 h.FV).1,e,a.lt h.mlt⟩
theorem Wd.mv{s:Sg}{sb:Nat}{W:PW}(h:Wd M w s tb mb sb gb W)(a:Mv M w M' w'):Wd M' w' s tb mb sb gb W:=by
 obtain⟨k,c,e⟩:=h.DI.F6;obtain⟨f,g⟩:=a.AQ.block sb (aB h.NN) h.msb
 exact⟨h.CY.mv a,f.trans h.NN,g,h.DI.keep (DE a e h.TH),(a.keep gb (aB e) h.TH).1,h.UE,h.procs.mono (fun b x d=>d.go a.AQ (Sg.Le.refl _)),h.AG.mono (fun b x d=>d.go a.AQ (Sg.Le.refl _)),h.places.mv a,h.gs.AQ a.AQ,h.JQ.AQ h.gs a.AQ,
  (bY h.gs a.AQ kT).trans h.gt,by
   obtain⟨v,i,j⟩:=h.ge
   exact⟨v,(bY h.gs a.AQ kU).trans i,j⟩,h.tq,h.tc⟩
def DS(M:Nat->Prop)(w:World)(v:Value)(l:AE):Prop:=w.ownsRow 0 JM 1 v l.length (byCells l)/\∀g,v.ownBlock=some g->M g
structure C0(M:Nat->Prop)(w:World)(sb rb:Nat)(fv ev gv kv ov:Value):Prop where
 blk:w.heap[rb]?=some (.cells #[.pointer (some ⟨sb,0,none⟩),fv,ev,gv,kv,ov] BT (0,0))
 JK:M rb
def FE(M:Nat->Prop)(w:World)(s:Sg)(v:Value)(ev gv:Value)(S:PS):Prop:=match S.form with
 | none=>v=.nilIface/\RV s gv S.val
 | some f=>CP M w s v f/\CX M w s ev S.env
structure LO(M:Nat->Prop)(w:World)(s:Sg)(sb rb:Nat)(S:PS)(out:AE):Prop where
 ex:∃fv ev gv kv ov,C0 M w sb rb fv ev gv kv ov/\FE M w s fv ev gv S/\GW M w s kv S.AB/\DS M w ov out
end
end Go.Proofs.YtkgbdddkcjpgfaaGreatDoor
