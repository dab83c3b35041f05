import Derived.Test.YtkgbdddkcjpgfaaGreatDoorT25
namespace Go.Proofs.YtkgbdddkcjpgfaaGreatDoor
set_option maxHeartbeats 2000000
set_option maxRecDepth 100000
section
namespace Pl
def Z4(c:Nat):PV->PV
 | .pair i=>.pair (i+c)
 | v=>v
def y_(c:Nat)(p:PV×PV):PV×PV:=(Z4 c p.1,Z4 c p.2)
mutual
def shF(c:Nat):PF->PF
 | .mk k nm d v ks ns=>.mk k nm d (if k=.const then Z4 c v else v) (if k=.const then ks else SS c ks) ns
def SS(c:Nat):List PF->List PF
 | []=>[]
 | x::r=>shF c x::SS c r
end
theorem FT(c:Nat)(k:FK)(nm:AE)(d:A9)(v:PV)(a:List PF)(ns:List AE):shF c (.mk k nm d v a ns)=.mk k nm d (if k=.const then Z4 c v else v) (if k=.const then a else SS c a) ns:=by simp [shF]
theorem GF(c:Nat):SS c []=[]:=by simp [SS]
theorem DV(c:Nat)(x:PF)(r:List PF):SS c (x::r)=shF c x::SS c r:=by simp [SS]
theorem E4(c:Nat):∀(l:List PF),(SS c l).length=l.length
 | []=>by rw [GF]
 | x::r=>by rw [DV,c_,c_,E4 c r]
theorem MM(c:Nat):∀(l:List PF)(i:Nat)(f:PF),(SS c l)[i]?=some f->∃g,l[i]?=some g/\f=shF c g
 | [],i,f,h=>by rw [GF] at h;simp at h
 | x::r,0,f,h=>by rw [DV] at h;exact⟨x,rfl,(i_ h).symm⟩
 | x::r,i+1,f,h=>by rw [DV,List.getElem?_cons_succ] at h;obtain⟨g,a,b⟩:=MM c r i f h;exact⟨g,by simpa using a,b⟩
theorem aCC(c:Nat)(f:Nat->A9->PV×List (PV×PV))(d:∀b t,f (b+c) t=(Z4 c (f b t).1,(f b t).2.map (y_ c)))(b:Nat):∀(a:List A9),AL f (b+c) a=(Z4 c (AL f b a).1,(AL f b a).2.map (y_ c))
 | []=>rfl
 | x::r=>by
  have g:=aCC c f d b r;have e:∀b,AL f b (x::r)=((.pair (b+(AL f b r).2.length+(f (b+(AL f b r).2.length) x).2.length)),(AL f b r).2++(f (b+(AL f b r).2.length) x).2++[((f (b+(AL f b r).2.length) x).1,(AL f b r).1)]):=fun _=>rfl;rw [e,e,g];dsimp only;rw [List.length_map,show b+c+(AL f b r).2.length=b+(AL f b r).2.length+c by omega,d];dsimp only;rw [List.length_map];refine Prod.ext ?_ ?_
  ·show PV.pair _=PV.pair _
   congr 1
   omega
  ·dsimp only;rw [List.map_append,List.map_append];rfl
theorem aDL(c:Nat):∀(n b:Nat)(t:A9),made n (b+c) t=(Z4 c (made n b t).1,(made n b t).2.map (y_ c))
 | 0,_,_=>rfl
 | n+1,b,t=>by
  cases t with
  | agg a=>exact aCC c (made n) (aDL c n) b a
  | lit x=>cases x<;>rfl
  | _=>rfl
mutual
theorem MC(c:Nat):∀(f:PF)(b:Nat),settle f (b+c)=(shF c (settle f b).1,(settle f b).2.map (y_ c))
 | .mk k g d v e h,b=>by
  by_cases a:k=.const
  ·subst a;rw [CI,CI,aDL];dsimp only;rw [FT,if_pos rfl,if_pos rfl]
  ·rw [BC _ _ _ _ _ _ _ a,BC _ _ _ _ _ _ _ a,aBK c e b];dsimp only;rw [FT,if_neg a,if_neg a]
theorem aBK(c:Nat):∀(l:List PF)(b:Nat),AK l (b+c)=(SS c (AK l b).1,(AK l b).2.map (y_ c))
 | [],b=>by rw [BV,BV,GF];rfl
 | x::r,b=>by rw [BO,BO,MC c x b];dsimp only;rw [List.length_map,show b+c+(settle x b).2.length=b+(settle x b).2.length+c by omega,aBK c r,DV,List.map_append]
end
end Pl
namespace Pl
def FB:AE:=[113,117,111,116,101]
def UB:AE:=[105,102]
def D6:AE:=[98,101,103,105,110]
def KD:AE:=[115,101,116,33]
def D4:AE:=[100,101,102,105,110,101]
def D3:AE:=[108,97,109,98,100,97]
mutual
def fT(ps:List (PV×PV)):PF->AE
 | .mk k nm d v ks ns=>match k with
  | .const=>if isQ d then AP [FB,text ps v] else text ps v
  | .name=>nm
  | .iff=>AP (UB::GD ps ks)
  | .begin=>AP (D6::GD ps ks)
  | .call=>AP (GD ps ks)
  | .set=>AP (KD::nm::GD ps ks)
  | .define=>AP (D4::nm::GD ps ks)
  | .lambda=>AP (D3::AP ns::GD ps ks)
def GD(ps:List (PV×PV)):List PF->List AE
 | []=>[]
 | x::r=>fT ps x::GD ps r
end
theorem KT(ps:List (PV×PV)):∀(l:List PF)(i:Nat)(f:PF),l[i]?=some f->(GD ps l)[i]?=some (fT ps f)
 | [],i,f,h=>by simp at h
 | x::r,0,f,h=>by obtain rfl:=i_ h;simp [GD]
 | x::r,i+1,f,h=>by have:=KT ps r i f (by simpa using h);simpa [GD] using this
theorem JD(ps:List (PV×PV)):∀(l:List PF),(GD ps l).length=l.length
 | []=>by simp [GD]
 | x::r=>by simp [GD,JD ps r]
end Pl
end
open Go.Proofs.Tryz
open Pl (AE)
section
open Go.RowKit Go.Lib
variable {b i n:Nat} {w:World}
def BE(w:World)(b:Nat)(l t:AE)(m:Nat)(e:Ending)(w':World):Prop:=e=.returned (.tuple #[])/\GP b w w'/\∃l',A6 w' b l'/\Pl.Q l' (l++t)/\l'.length<=l.length+m
def L4(b:Nat)(w0:World)(u:Value)(t:AE)(m:Nat):Prop:=∀(w:World)(l:AE),GP b w0 w->A6 w b l->l.length+m<=1000000000->P6 u b w (BE w b l t m)
theorem L4.later{w0 w1:World}{u:Value}{t:AE}{m:Nat}(h:L4 b w0 u t m)(k:GP b w0 w1):L4 b w1 u t m:=fun w l a c d=>h w l (k.trans a) c d
def D9(b:Nat)(w:World)(sl:Value)(sz n:Nat)(xs:List Value):Prop:=xs.length=n*sz/\∃ao cap,sl=.slice ao n cap/\n<=cap/\(n=0\/∃g off cur T,ao=some ⟨g,off,none⟩/\g≠b/\T≠JM/\w.heap[g]?=some (.cells cur T (0,0))/\∀(i:Nat)(u:Value),xs[i]?=some u->cur[off+i]?=some u)
theorem D9.cell{w':World}{sl:Value}{sz:Nat}{xs:List Value}(h:D9 b w sl sz n xs)(k:GP b w w'){u:Value}(l:xs[i]?=some u):∃g a d,sl=.slice (some ⟨g,a,none⟩) n d/\n<=d/\g<w'.heap.size/\w'.cell? ⟨g,a+i,none⟩=some u:=by
 obtain⟨t,v,d,rfl,m,j⟩:=h;rcases j with j | ⟨g,a,o,T,rfl,p,q,r,s⟩
 ·subst j;have:=(s_ l).1;omega
 ·have f:=k.kept g _ r p (fun c x e=>q (by cases e;rfl));exact⟨g,a,d,rfl,m,aB f,(aA f _).trans (s i u l)⟩
theorem D9.slice{sl:Value}{sz:Nat}{xs:List Value}(h:D9 b w sl sz n xs):∃c a,sl=.slice c n a/\n<=a:=by obtain⟨f,c,a,e,d,_⟩:=h;exact⟨c,a,e,d⟩
theorem Pl.Q.J5{a b:AE}(h:a=b):Pl.Q a b:=by rw [h];exact Pl.Q.refl _
def BP(ms:Nat->Nat):Nat->Nat
 | 0=>0
 | i+1=>BP ms i+(ms i+1)
theorem aBN(a:Nat->Nat)(n:Nat):n<=BP a n:=by
 induction n with
 | zero=>exact n_
 | succ n b=>simp only [BP];omega
theorem aA9(a:Nat->Nat)(h:i<=n):BP a i<=BP a n:=by
 induction n with
 | zero=>rw [Nat.le_zero.1 h];exact n_
 | succ n b =>
  rcases Nat.lt_or_ge i (n+1) with c | c
  ·have:=b (by omega);simp only [BP];omega
  ·rw [show i=n+1 by omega];exact n_
structure R4(w:World)(b:Nat)(l:AE)(ts:List AE)(ms:Nat->Nat)(i:Nat)(wr:World)(lk:AE):Prop where
 KW:A6 wr b lk
 SG:GP b w wr
 q:Pl.Q lk (l++40::Pl.CZ (ts.take i))
 len:lk.length<=l.length+1+BP ms i
theorem aBR{a:List AE}{t:AE}(h:a[i]?=some t):a.take (i+1)=a.take i++[t]:=by rw [List.take_add_one,h];rfl
theorem R4.first{wr w2:World}{l c a:AE}{d:List AE}{e:Nat->Nat}{t:AE}(h:R4 w b l d e 0 wr c)(f:d[0]?=some t)(g:A6 w2 b a)(i:GP b wr w2)(j:Pl.Q a (c++t))(k:a.length<=c.length+e 0):R4 w b l d e 1 w2 a:=by refine⟨g,h.SG.trans i,j.trans ((h.q.app t).trans (Pl.Q.J5 ?_)),by have:=h.len;simp only [BP] at this ⊢;omega⟩;rw [aBR f];simp [Pl.CZ]
theorem V9{a:List AE}(hi:i≠0)(c:i<a.length):a.take i≠[]:=fun e=>by
 have b:(a.take i).length=0:=by rw [e];rfl
 rw [List.length_take] at b;omega
theorem R4.next{wr w1 w2:World}{l c a:AE}{d:List AE}{e:Nat->Nat}{t:AE}(h:R4 w b l d e i wr c)(hi:i≠0)(f:d[i]?=some t)(g:GP b wr w1)(j:A6 w2 b a)(k:GP b w1 w2)(m:Pl.Q a ((c++[32])++t))(n:a.length<=(c++[32]).length+e i):R4 w b l d e (i+1) w2 a:=by
 have o:=(s_ f).1;refine⟨j,(h.SG.trans g).trans k,m.trans (((h.q.app [32]).app t).trans (Pl.Q.J5 ?_)),?_⟩
 ·rw [aBR f,Pl.GM _ _ (V9 hi o)];simp
 ·have:=h.len;simp only [a_,c_,z_] at n;simp only [BP];omega
theorem aB1(w:World)(b:Nat)(l:AE)(sl:Value)(d:List Value)(q:List AE)(m:Nat->Nat)(U:A6 w b l)(E:D9 b w sl 1 d.length d)(p:q.length=d.length)(v:∀(i:Nat)(u:Value)(t:AE),d[i]?=some u->q[i]?=some t->L4 b w u t (m i))(V:l.length+2+BP m d.length<=1000000000) :Calls prog 338 #[.pointer (some ⟨b,0,none⟩),sl] w fun e w'=>BE w b l (Pl.AP q) (2+BP m d.length) e w':=by
 have HT:=h_ U;have HR:=h_ E;have HS:=h_ v;have F:=h_ V;have W:=h_ p;have ab:d.length<=1000000000:=t_ (aBN m _) (by omega);obtain⟨ao,ac,rfl,X⟩:=E.slice;clear U E v V p;go_enter func338,ntmps338
 go_upto_region 1 with(go_at_call 335;refine(jI _ b l _ HT (by have:=F.out;show l.length+1<=_;omega)).mono ?_;rintro e w1 ⟨rfl,y,z⟩)
 have Y:Hid (R4 w b l q m 0 w1 (l++[40])):=⟨y,z,Pl.Q.refl _,by simp⟩
 clear y z;go_wp2_with fail
 go_loopw [10] (fun G wr=>∃(i:Nat)(h:AE),G=.int .i64 (i:Int)/\i<=d.length/\Hid (R4 w b l q m i wr h)) (fun G _=>d.length-(RowKit.intOf G).toNat)
 case atStart=>exact⟨0,_,rfl,Nat.zero_le _,Y⟩
 case round =>
  obtain⟨i,h,rfl,hi,j⟩:=hrel;clear Y;by_cases A:i<d.length
  ·obtain⟨u,H⟩:∃u,d[i]?=some u:=⟨_,g_ A⟩
   obtain⟨t,r⟩:∃t,q[i]?=some t:=⟨_,g_ (by have:=W.out;omega)⟩
   obtain⟨g,ad,Z,e',_,hg,c0⟩:=HR.cell j.SG H;simp only [Value.slice.injEq,true_and] at e';obtain⟨rfl,rfl⟩:=e';have B:BP m i+(m i+1)<=BP m d.length:=aA9 m (i:=i+1) A;have s:Hid (h.length+1+m i<=1000000000/\q[i]?=some t):=⟨by have:=j.len;have:=F.out;omega,r⟩
   have n:=(HS i u t H r).later j.SG;have HP:=h_ n;obtain⟨T,x,rfl⟩:∃T x,u=.iface T x:=by obtain⟨T,x,_,_,e,_⟩:=n wr h (GP.refl _ _) j.KW (by have:=s.1;omega);exact⟨T,x,e⟩
   have aa:(i:Int)<(d.length:Int):=by omega
   clear H r B n;by_cases I:i=0
   ·have HZ:=h_ I;have J:¬(0:Int)<(i:Int):=by omega
    clear I;obtain⟨T1,x1,f,xr,C,D,o,a⟩:=HP.out wr h (GP.refl _ _) j.KW (by have:=s.1;omega);simp only [Value.iface.injEq] at C;obtain⟨rfl,rfl⟩:=C;unfold Enters at o;have K:=h_ a;clear a;go_wp2_with (refine Calls.mono K ?_;rintro e L ⟨rfl,c,l2,k,M,N⟩)
    go_roundw
    case rel=>exact⟨i+1,l2,by go_num,by omega,by have hz:=HZ.out;subst hz;exact j.first s.2 k c M N⟩
    case measure=>simp [RowKit.intOf];omega
   ·have J:(0:Int)<(i:Int):=by omega
    go_upto_region 6 with(go_at_call 335;refine(jI _ b h _ j.KW (by have:=s.1;show h.length+1<=_;omega)).mono ?_;rintro e L ⟨rfl,k,c⟩)
    obtain⟨T1,x1,f,xr,C,D,o,a⟩:=HP.out L _ c k (by have:=s.1;show(h++([32]:List UInt8)).length+m i<=_;simp;omega);simp only [Value.iface.injEq] at C;obtain⟨rfl,rfl⟩:=C;unfold Enters at o;have K:=h_ a;have O:=h_ c;clear a k c;go_wp2_with (refine Calls.mono K ?_;rintro e w3 ⟨rfl,P,l3,Q,R,S⟩)
    go_roundw
    case rel=>exact⟨i+1,l3,by go_num,by omega,j.next I s.2 O Q P R S⟩
    case measure=>simp [RowKit.intOf];omega
  ·obtain rfl:i=d.length:=by omega
   have HN:Hid (h.length+1<=140000000000000):=show h.length+1<=_ from by have:=j.len;have:=F.out;omega
   go_wp2_with (go_at_call 335;refine(jI _ b h _ j.KW (by have:=HN.out;show h.length+1<=_;exact this)).mono ?_;rintro e L ⟨rfl,k,c⟩)
   go_end0
   refine⟨rfl,j.SG.trans c,_,k,?_,?_⟩
   ·have h1:=j.q.app [41];rw [<- W.out,List.take_length] at h1;refine Pl.Q.trans (Pl.Q.J5 rfl) (h1.trans (Pl.Q.J5 ?_));simp [Pl.AP]
   ·have:=j.len;show(h++([41]:List UInt8)).length<=_;simp only [a_,c_,z_];omega
theorem XL(w:World)(b:Nat)(l:AE)(sl:Value)(d:List Value)(q:List AE)(m:Nat->Nat)(U:A6 w b l)(E:D9 b w sl 1 d.length d)(p:q.length=d.length)(v:∀(i:Nat)(u:Value)(t:AE),d[i]?=some u->q[i]?=some t->L4 b w u t (m i))(V:l.length+2+BP m d.length<=1000000000) :Calls prog 342 #[.pointer (some ⟨b,0,none⟩),sl] w fun e w'=>BE w b l (Pl.AP q) (2+BP m d.length) e w':=by
 have HT:=h_ U;have HR:=h_ E;have HS:=h_ v;have F:=h_ V;have W:=h_ p;have ab:d.length<=1000000000:=t_ (aBN m _) (by omega);obtain⟨ao,ac,rfl,X⟩:=E.slice;clear U E v V p;go_enter func342,ntmps342
 go_upto_region 1 with(go_at_call 335;refine(jI _ b l _ HT (by have:=F.out;show l.length+1<=_;omega)).mono ?_;rintro e w1 ⟨rfl,y,z⟩)
 have Y:Hid (R4 w b l q m 0 w1 (l++[40])):=⟨y,z,Pl.Q.refl _,by simp⟩
 clear y z;go_wp2_with fail
 go_loopw [10] (fun G wr=>∃(i:Nat)(h:AE),G=.int .i64 (i:Int)/\i<=d.length/\Hid (R4 w b l q m i wr h)) (fun G _=>d.length-(RowKit.intOf G).toNat)
 case atStart=>exact⟨0,_,rfl,Nat.zero_le _,Y⟩
 case round =>
  obtain⟨i,h,rfl,hi,j⟩:=hrel;clear Y;by_cases A:i<d.length
  ·obtain⟨u,H⟩:∃u,d[i]?=some u:=⟨_,g_ A⟩
   obtain⟨t,r⟩:∃t,q[i]?=some t:=⟨_,g_ (by have:=W.out;omega)⟩
   obtain⟨g,ad,Z,e',_,hg,c0⟩:=HR.cell j.SG H;simp only [Value.slice.injEq,true_and] at e';obtain⟨rfl,rfl⟩:=e';have B:BP m i+(m i+1)<=BP m d.length:=aA9 m (i:=i+1) A;have s:Hid (h.length+1+m i<=1000000000/\q[i]?=some t):=⟨by have:=j.len;have:=F.out;omega,r⟩
   have n:=(HS i u t H r).later j.SG;have HP:=h_ n;obtain⟨T,x,rfl⟩:∃T x,u=.iface T x:=by obtain⟨T,x,_,_,e,_⟩:=n wr h (GP.refl _ _) j.KW (by have:=s.1;omega);exact⟨T,x,e⟩
   have aa:(i:Int)<(d.length:Int):=by omega
   clear H r B n;by_cases I:i=0
   ·have HZ:=h_ I;have J:¬(0:Int)<(i:Int):=by omega
    clear I;obtain⟨T1,x1,f,xr,C,D,o,a⟩:=HP.out wr h (GP.refl _ _) j.KW (by have:=s.1;omega);simp only [Value.iface.injEq] at C;obtain⟨rfl,rfl⟩:=C;unfold Enters at o;have K:=h_ a;clear a;go_wp2_with (refine Calls.mono K ?_;rintro e L ⟨rfl,c,l2,k,M,N⟩)
    go_roundw
    case rel=>exact⟨i+1,l2,by go_num,by omega,by have hz:=HZ.out;subst hz;exact j.first s.2 k c M N⟩
    case measure=>simp [RowKit.intOf];omega
   ·have J:(0:Int)<(i:Int):=by omega
    go_upto_region 6 with(go_at_call 335;refine(jI _ b h _ j.KW (by have:=s.1;show h.length+1<=_;omega)).mono ?_;rintro e L ⟨rfl,k,c⟩)
    obtain⟨T1,x1,f,xr,C,D,o,a⟩:=HP.out L _ c k (by have:=s.1;show(h++([32]:List UInt8)).length+m i<=_;simp;omega);simp only [Value.iface.injEq] at C;obtain⟨rfl,rfl⟩:=C;unfold Enters at o;have K:=h_ a;have O:=h_ c;clear a k c;go_wp2_with (refine Calls.mono K ?_;rintro e w3 ⟨rfl,P,l3,Q,R,S⟩)
    go_roundw
    case rel=>exact⟨i+1,l3,by go_num,by omega,j.next I s.2 O Q P R S⟩
    case measure=>simp [RowKit.intOf];omega
  ·obtain rfl:i=d.length:=by omega
   have HN:Hid (h.length+1<=140000000000000):=show h.length+1<=_ from by have:=j.len;have:=F.out;omega
   go_wp2_with (go_at_call 335;refine(jI _ b h _ j.KW (by have:=HN.out;show h.length+1<=_;exact this)).mono ?_;rintro e L ⟨rfl,k,c⟩)
   go_end0
   refine⟨rfl,j.SG.trans c,_,k,?_,?_⟩
   ·have h1:=j.q.app [41];rw [<- W.out,List.take_length] at h1;refine Pl.Q.trans (Pl.Q.J5 rfl) (h1.trans (Pl.Q.J5 ?_));simp [Pl.AP]
   ·have:=j.len;show(h++([41]:List UInt8)).length<=_;simp only [a_,c_,z_];omega
theorem aA3(w:World)(s:ByteArray):Calls prog 339 #[.string s] w fun e a=>e=.returned (.agg #[.string s,.int .i64 0])/\Below w.heap.size w a:=by
 go_enter func339,ntmps339
 go_wp2_with fail
 (try simp only [Exit.inBlock,Exit.then])
 refine bodyPost_ret (v:=.agg #[.string s,.int .i64 0]) ?_ rfl ?_
 ·rw [aO rfl]
  go_simp
  try rfl
 exact⟨rfl,b_⟩
theorem aB9(w:World)(b:Nat)(l:AE)(x:AE)(k:Int)(h:A6 w b l)(g:l.length+300<=1000000000)(d:x.length<=300):Calls prog 333 #[.agg #[.string ⟨x.toArray⟩,.int .i64 k],.pointer (some ⟨b,0,none⟩)] w fun e i=>BE w b l x 300 e i:=by
 have f:=h_ h;have j:Hid (l.length+x.toArray.size<=140000000000000):=show _ from by show l.length+_<=_;simp;omega
 have m:=h_ d;clear h g d;go_enter func333,ntmps333;go_wp2_with (go_at_call 335;refine(jI _ b l _ (f.alloc _) (by have:=j.out;exact this)).mono ?_;rintro e n ⟨rfl,a,c⟩)
 go_end0
 exact⟨rfl,(CE w b _ (Nat.le_of_lt f.lt)).trans c,_,a,Pl.Q.refl _,by have:=m.out;show(l++x).length<=_;rw [a_];omega⟩
theorem Tryz.QG(s:ByteArray)(k:Int)(w:World):(Go.method 638 214 (.agg #[.string s,.int .i64 k]) "Spell").run prog w=.ok (333,.agg #[.string s,.int .i64 k]) w:=by kernel_rfl
theorem Tryz.MY:Enters 333:=enters_of func333 (by kernel_rfl) rfl
theorem J_(b:Nat)(w:World)(x:AE)(k:Int)(c:x.length<=300):L4 b w (.iface 214 (.agg #[.string ⟨x.toArray⟩,.int .i64 k])) x 300:=fun a l _ d e =>⟨_,_,_,_,rfl,Tryz.QG _ _ a,Tryz.MY,aB9 a b l x k d e c⟩
theorem aCB:∀(a:List AE)(b:List Nat)(i:Nat)(x:AE),a.length=b.length->a[i]?=some x->∃k:Nat,(d7 a b)[i*2]?=some (.string ⟨x.toArray⟩)/\(d7 a b)[i*2+1]?=some (.int .i64 (k:Int))
 | [],_,_,_,_,h=>by simp at h
 | _::_,[],_,_,c,_=>by simp at c
 | y::a,k::b,0,x,_,h=>by obtain rfl:=i_ h;exact⟨k,rfl,rfl⟩
 | y::a,k::b,i+1,x,c,h=>by
  obtain⟨d,e,f⟩:=aCB a b i x (by simpa using c) (by simpa using h);refine⟨d,?_,?_⟩
  ·rw [show(i+1)*2=i*2+2 by omega];exact e
  ·rw [show(i+1)*2+1=(i*2+1)+2 by omega];exact f
theorem XM(w:World)(b:Nat)(l:AE)(sl:Value)(ns:List AE)(C:List Nat)(R:A6 w b l)(D:D9 b w sl 2 ns.length (d7 ns C))(n:ns.length=C.length)(S:∀x∈ns,x.length<=300)(T:l.length+2+BP (fun _=>300) ns.length<=1000000000) :Calls prog 407 #[.pointer (some ⟨b,0,none⟩),sl] w fun e w'=>BE w b l (Pl.AP ns) (2+BP (fun _=>300) ns.length) e w':=by
 have HT:=h_ R;have U:=h_ D;have HS:=h_ S;have E:=h_ T;have HE:=h_ n;have ac:ns.length<=1000000000:=t_ (aBN (fun _=>300) _) (by omega);obtain⟨ao,ad,rfl,V⟩:=D.slice;clear R D S T n;go_enter func407,ntmps407
 go_upto_region 1 with(go_at_call 335;refine(jI _ b l _ HT (by have:=E.out;show l.length+1<=_;omega)).mono ?_;rintro e w1 ⟨rfl,r,s⟩)
 have W:Hid (R4 w b l ns (fun _=>300) 0 w1 (l++[40])):=⟨r,s,Pl.Q.refl _,by simp⟩
 clear r s;go_wp2_with fail
 go_loopw [10] (fun F wr=>∃(i:Nat)(a:AE),F=.int .i64 (i:Int)/\i<=ns.length/\Hid (R4 w b l ns (fun _=>300) i wr a)) (fun F _=>ns.length-(RowKit.intOf F).toNat)
 case atStart=>exact⟨0,_,rfl,Nat.zero_le _,W⟩
 case round =>
  obtain⟨i,a,rfl,hi,f⟩:=hrel;clear W;by_cases t:i<ns.length
  ·obtain⟨x,m⟩:∃x,ns[i]?=some x:=⟨_,g_ t⟩
   obtain⟨k,u,v⟩:=aCB ns C i x HE m;obtain⟨g,ae,X,Y,_,hg,c0⟩:=U.cell f.SG u;obtain⟨g2,Z,aa,G,_,_,c1⟩:=U.cell f.SG v;simp only [Value.slice.injEq,true_and] at Y G;obtain⟨rfl,rfl⟩:=Y;simp only [o_,Addr.mk.injEq,and_true] at G;obtain⟨⟨rfl,rfl⟩,rfl⟩:=G;rw [<- Nat.add_assoc] at c1;have y:Hid (a.length+1+300<=1000000000/\ns[i]?=some x):=⟨by have:=f.len;have:=E.out;have:BP (fun _=>300) i+(300+1)<=BP (fun _=>300) ns.length:=aA9 (fun _=>300) (i:=i+1) t;omega,m⟩
   have z:Hid (x.length<=300):=HS.out x (q_ m);have A:=f.KW.lt;have ab:(i:Int)<(ns.length:Int):=by omega
   clear u v m;by_cases H:i=0
   ·have HZ:=h_ H;have I:¬(0:Int)<(i:Int):=by omega
    have B:=Tryz.QG ⟨x.toArray⟩ k;have j:=Tryz.MY;unfold Enters at j;have J:=(show Hid (∀o:Obj,Calls prog 333 #[.agg #[.string ⟨x.toArray⟩,.int .i64 k],.pointer (some ⟨b,0,none⟩)] (wr.alloc o) (BE (wr.alloc o) b a x 300)) from fun o=>aB9 _ b a x k (f.KW.alloc o) (by have:=y.1;omega) z)
    clear H;go_wp2_with (refine Calls.mono (J _) ?_;rintro e p ⟨rfl,d,l2,h,K,L⟩)
    go_roundw
    case rel=>exact⟨i+1,l2,by go_num,by omega,by have hz:=HZ.out;subst hz;exact f.first y.2 h ((CE wr b _ (Nat.le_of_lt A)).trans d) K L⟩
    case measure=>simp [RowKit.intOf];omega
   ·have I:(0:Int)<(i:Int):=by omega
    have HA:Hid (∀o:Obj,A6 (wr.alloc o) b a):=fun o=>f.KW.alloc o
    go_upto_region 6 with(go_at_call 335;refine(jI _ b a _ (HA _) (by have:=y.1;show a.length+1<=_;omega)).mono ?_;rintro e p ⟨rfl,h,d⟩)
    have q:=d.kept wr.heap.size _ (heap_alloc_new wr _) (by omega) (fun c fz e=>by cases e);have d0:p.cell? ⟨wr.heap.size,0,none⟩=some (.string ⟨x.toArray⟩):=aA q 0;have d1:p.cell? ⟨wr.heap.size,1,none⟩=some (.int .i64 (k:Int)):=aA q 1;have B:=Tryz.QG ⟨x.toArray⟩ k;have j:=Tryz.MY;unfold Enters at j;have J:Hid (Calls prog 333 #[.agg #[.string ⟨x.toArray⟩,.int .i64 k],.pointer (some ⟨b,0,none⟩)] p (BE p b (a++[32]) x 300)):=aB9 _ b _ x k h (by have:=y.1;show(a++([32]:List UInt8)).length+300<=_;simp;omega) z;have M:Hid (GP b wr p):=(CE wr b _ (Nat.le_of_lt A)).trans d;clear h d q;go_wp2_with (refine Calls.mono J ?_;rintro e w3 ⟨rfl,N,l3,O,P,Q⟩)
    go_roundw
    case rel=>exact⟨i+1,l3,by go_num,by omega,f.next H y.2 M O N P Q⟩
    case measure=>simp [RowKit.intOf];omega
  ·obtain rfl:i=ns.length:=by omega
   have HN:Hid (a.length+1<=140000000000000):=show a.length+1<=_ from by have:=f.len;have:=E.out;omega
   go_wp2_with (go_at_call 335;refine(jI _ b a _ f.KW (by have:=HN.out;show a.length+1<=_;exact this)).mono ?_;rintro e p ⟨rfl,h,d⟩)
   go_end0
   refine⟨rfl,f.SG.trans d,_,h,?_,?_⟩
   ·have h1:=f.q.app [41];rw [List.take_length] at h1;refine Pl.Q.trans (Pl.Q.J5 rfl) (h1.trans (Pl.Q.J5 ?_));simp [Pl.AP]
   ·have:=f.len;show(a++([41]:List UInt8)).length<=_;simp only [a_,c_,z_];omega
theorem XF(w:World)(b:Nat)(l:AE)(sl:Value)(ns:List AE)(c:List Nat)(f:A6 w b l)(d:D9 b w sl 2 ns.length (d7 ns c))(a:ns.length=c.length)(g:∀x∈ns,x.length<=300)(h:l.length+2+BP (fun _=>300) ns.length<=1000000000) :Calls prog 406 #[sl,.pointer (some ⟨b,0,none⟩)] w fun e j=>BE w b l (Pl.AP ns) (2+BP (fun _=>300) ns.length) e j:=by
 have k:=h_ (XM w b l sl ns c f d a g h);obtain⟨p,m,rfl,i⟩:=d.slice;clear f d a g h;go_enter func406,ntmps406;go_wp2_with (go_at_call 407;refine Calls.mono k ?_;rintro e q ⟨rfl,n,o⟩)
 go_end0
 exact⟨rfl,n,o⟩
end
section
namespace Pl
def line(W:PW)(S:PS):Nat×AE×Nat:=match S.form with
 | some f=>(1,cut (fT W.pairs f),S.AB.length)
 | none=>(2,cut (text W.pairs S.val),S.AB.length)
def trace:Nat->PW->PS->List (Nat×AE×Nat)
 | 0,_,_=>[]
 | n+1,W,S=>line W S::(if S.ended then [] else if(step W S).e=0 then trace n (step W S).W (step W S).S else [])
theorem L8:∀(n:Nat)(W:PW)(S:PS),(trace n W S).length<=n
 | 0,_,_=>n_
 | n+1,W,S=>by
  unfold trace;rw [c_];split
  ·simp
  ·split
   ·have:=L8 n (step W S).W (step W S).S;omega
   ·simp
end Pl
namespace Pl
def BG(W:PW)(t:AE)(n:Int):Nat×List (Nat×AE×Nat) :=
 if over n then(6,[])
 else if check t≠0 then(check t,[])
 else match BQ t with
  | some f=>(0,trace n.toNat (AR W f) (AV W f))
  | none=>(5,[])
end Pl
end
end Go.Proofs.YtkgbdddkcjpgfaaGreatDoor
