import Derived.Test.YtieooapcfpimlaaGreatDoorL09
namespace Go.Proofs.YtieooapcfpimlaaGreatDoor
set_option maxHeartbeats 4000000
set_option maxRecDepth 100000
open Go.Proofs.Tryz
open Pl (PV PF FR AE FK AD BB BN EE EF isName)
section
open Go.RowKit
variable {M:Nat->Prop} {w w2:World} {mb tb:Nat} {ev:Value}
theorem bW{c:Func}{p u v:Tmp}{ty:TypeId}(h:c.results=#[.cell p ty,.tmp u,.tmp v])(b:Array Value)(P:Program)(w:World) :(results c b).run P w=((asAddr (b.getD p undef)).run P w).andThen fun a d=>((loadVar ty a).run P d).andThen fun x e=>.ok (.tuple #[x,b.getD u undef,b.getD v undef]) e:=by simp only [results,h];simp [Sem.run_bind,Result.andThen]
theorem BM.I8{w3:World}{s t:Sg}{ps:List (PV×PV)}(h:BM M w s tb mb ps)(a:w.grownBy w3 (some mb))(b:IW w3 tb mb t.ns)(c:DK s t)(hp:t.pb=s.pb):BM M w3 t tb mb ps :=⟨b,(h.pairs.AQ (eL a h.FV)).le c.le hp,h.FV,h.JJ,fun k d=>l_ (h.mlt k d) a.size⟩
def ZR(M:Nat->Prop)(w:World)(s:Sg)(tb mb:Nat)(ps:List (PV×PV))(t:Tr)(bs:ByteArray)(k:Int)(ev:Value)(w':World):Prop :=
 w.grownBy w' (some mb) /\
  ((∃x,t=.lit (.string x)/\EE x=false/\bs=⟨x.toArray⟩/\k=((s.ns.idxOf x:Nat):Int)/\ev=.nilIface/\BM M w' (s.named x) tb mb ps) \/
   (isName t=false/\BM M w' s tb mb ps/\∃es,ev=aY es 5))
theorem U1{base:Nat}{X Y:World}{R:Nat}(h:Below base X Y)(b:base<=R)(o:Nat)(v:Value):Below base X (Y.setCell ⟨R,o,none⟩ v) :=⟨h.os,h.tape,h.output,by simpa [World.setCell] using h.size,fun k a=>by rw [Below.heap_setCell _ _ _ _ (fun e=>by have:k=R:=(by simpa using e);omega)];exact h.block k a⟩
theorem ZR.to{w1 wx:World}{s:Sg}{ps:List (PV×PV)}{t:Tr}{n:ByteArray}{k:Int}(o:ZR M w1 s tb mb ps t n k ev w2)(f:BM M w s tb mb ps)(d:Below w.heap.size w w1)(a:Below w.heap.size w2 wx):ZR M w s tb mb ps t n k ev wx:=by
 obtain⟨e,h⟩:=o;have b:=f.B3.lt;have c:w.grownBy wx (some mb):=⟨a.os.trans (e.os.trans d.os),a.tape.trans (e.tape.trans d.tape),a.output.trans (e.output.trans d.output),t_ d.size (t_ e.size a.size),fun j g p=>by rw [a.block j g,e.block j (l_ g d.size) p,d.block j g]⟩
 refine⟨c,?_⟩;rcases h with⟨x,i,l,m,q,r,u⟩ | ⟨i,l,m⟩
 ·exact .inl ⟨x,i,l,m,q,r,f.I8 c (u.B3.keep (a.block _ b.1) (a.block _ b.2)) (s.E5 x) rfl⟩
 ·exact .inr ⟨i,f.I8 c (l.B3.keep (a.block _ b.1) (a.block _ b.2)) (DK.refl s) rfl,m⟩
theorem iR(w:World)(a b c:Obj):(((w.alloc a).alloc b).alloc c).heap[w.heap.size]?=some a/\(((w.alloc a).alloc b).alloc c).heap[w.heap.size+1]?=some b/\(((w.alloc a).alloc b).alloc c).heap[w.heap.size+2]?=some c/\((w.alloc a).alloc b).heap[w.heap.size]?=some a/\((w.alloc a).alloc b).heap[w.heap.size+1]?=some b:=by have f:=heap_alloc_new w a;have d:=heap_alloc_new (w.alloc a) b;have g:=heap_alloc_new ((w.alloc a).alloc b) c;rw [show(w.alloc a).heap.size=w.heap.size+1 from by simp] at d;rw [show((w.alloc a).alloc b).heap.size=w.heap.size+2 from by simp] at g;have e:((w.alloc a).alloc b).heap[w.heap.size]?=some a:=(k_ (aB f)).trans f;exact⟨(k_ (aB e)).trans e,(k_ (aB d)).trans d,g,e,d⟩
theorem P9.one{s:Sg}{ps:List (PV×PV)}{t:Tr}{e:Ending}{w':World}(h:P9 M w s tb mb ps t e w'):∃d k f,e=.returned (.tuple #[.agg #[.string d,.int .i64 k],f])/\ZR M w s tb mb ps t d k f w':=by
 obtain⟨g,⟨x,a,b,c,i⟩ | ⟨a,b,j,c⟩⟩:=h
 ·exact⟨_,_,_,c,g,.inl ⟨x,a,b,rfl,rfl,rfl,i⟩⟩
 ·exact⟨_,_,_,c,g,.inr ⟨a,b,j,rfl⟩⟩
def LM(M:Nat->Prop)(w:World)(s:Sg)(tb mb:Nat)(ps:List (PV×PV))(o:FR)(z:Nat)(v ev:Value)(w':World):Prop :=
 w.grownBy w' (some mb)/\∃t,DK s t/\t.ns.length<=s.ns.length+z /\
  ((∃r,o=some r/\ev=.nilIface/\BM M w' t tb mb (ps++r.2)/\CP M w' t v r.1)\/(o=none/\t.pb=s.pb/\BM M w' t tb mb ps/\∃es,ev=aY es 5))
theorem A5.one{s:Sg}{ps:List (PV×PV)}{o:FR}{z:Nat}{e:Ending}{w':World}(h:A5 M w s tb mb ps o z e w'):∃v f,e=.returned (.tuple #[v,f])/\LM M w s tb mb ps o z v f w':=by
 obtain⟨g,t,i,j,⟨r,v,a,b,c,d⟩ | ⟨a,b,c,v,k,d⟩⟩:=h
 ·exact⟨_,_,b,g,t,i,j,.inl ⟨r,a,rfl,c,d⟩⟩
 ·exact⟨_,_,d,g,t,i,j,.inr ⟨a,b,c,k,rfl⟩⟩
def Z9:Obj:=.cells #[.string ⟨#[]⟩,.int .i64 0] B6 (0,0)
def VJ(M:Nat->Prop)(w:World)(s:Sg)(tb mb:Nat)(ps:List (PV×PV))(t1:Tr)(bs:ByteArray)(kk:Int)(b3:Nat)(e8:Value)(wx:World):Prop :=w.heap.size+2<=b3/\wx.heap[b3]?=some (.cells #[.string bs,.int .i64 kk] B6 (0,0))/\wx.heap[w.heap.size]?=some (A0 tb)/\wx.heap[w.heap.size+1]?=some Z9/\ZR M w s tb mb ps t1 bs kk e8 wx
theorem X2{s:Sg}{ps:List (PV×PV)}{c:Tr}{b:ByteArray}{kk:Int}(d:BM M w s tb mb ps)(a:ZR M ((w.alloc (A0 tb)).alloc Z9).drew s tb mb ps c b kk ev w2):VJ M w s tb mb ps c b kk w2.heap.size ev (w2.alloc (.cells #[.string b,.int .i64 kk] B6)):=by
 have g:=d.B3.lt.2;have h:w.heap.size+2<=w2.heap.size:=by have:=a.1.size;simpa using this
 obtain⟨_,_,_,i,j⟩:=iR w (A0 tb) Z9 Z9;have e:=(a.1.block w.heap.size (by show _<((w.alloc _).alloc _).heap.size;simp<;>omega) (by simp;omega)).trans i;have f:=(a.1.block (w.heap.size+1) (by show _<((w.alloc _).alloc _).heap.size;simp<;>omega) (by simp;omega)).trans j;exact⟨h,heap_alloc_new _ _,(k_ (aB e)).trans e,(k_ (aB f)).trans f,a.to d (bA w _ _).drew (r_.alloc (by omega) _)⟩
theorem X1{s:Sg}{ps:List (PV×PV)}{c:Tr}{a:ByteArray}{kk:Int}(d:BM M w s tb mb ps)(b:ZR M (((w.alloc (A0 tb)).alloc Z9).alloc Z9).drew s tb mb ps c a kk ev w2):VJ M w s tb mb ps c a kk (w.heap.size+2) ev ((w2.setCell ⟨w.heap.size+2,0,none⟩ (.string a)).setCell ⟨w.heap.size+2,1,none⟩ (.int .i64 kk)):=by
 have e:=d.B3.lt.2;obtain⟨f,g,h,_,_⟩:=iR w (A0 tb) Z9 Z9;have i:=(b.1.block w.heap.size (by show _<(((w.alloc _).alloc _).alloc _).heap.size;simp<;>omega) (by simp;omega)).trans f;have j:=(b.1.block (w.heap.size+1) (by show _<(((w.alloc _).alloc _).alloc _).heap.size;simp<;>omega) (by simp;omega)).trans g;have k:=(b.1.block (w.heap.size+2) (by show _<(((w.alloc _).alloc _).alloc _).heap.size;simp<;>omega) (by simp;omega)).trans h;refine⟨n_,?_,?_,?_,b.to d ((bA w _ _).alloc (by simp;omega) _).drew (U1 (U1 r_ (by omega) _ _) (by omega) _ _)⟩
 ·have:=aD (aD k 0 (.string a)) 1 (.int .i64 kk);simpa using this
 ·rw [Below.heap_setCell _ _ _ _ (by simp),Below.heap_setCell _ _ _ _ (by simp)];exact i
 ·rw [Below.heap_setCell _ _ _ _ (by simp),Below.heap_setCell _ _ _ _ (by simp)];exact j
def A_(n b:Nat)(ts:List Tr):Option (AE×PF×List (PV×PV)):=match ts with
 | [a,e]=>if isName a then(EF (AD n e) b).map fun r=>(Pl.strOf a,r) else none
 | _=>none
def QA(M:Nat->Prop)(w:World)(s:Sg)(tb mb:Nat)(ps:List (PV×PV))(o:Option (AE×PF×List (PV×PV)))(z:Nat)(e:Ending)(w':World):Prop :=
 w.grownBy w' (some mb)/\∃t,DK s t/\t.ns.length<=s.ns.length+z /\
  ((∃x r k v,o=some (x,r)/\e=.returned (.tuple #[.agg #[.string ⟨x.toArray⟩,.int .i64 ((k:Nat):Int)],v,.nilIface])/\t.ns[k]?=some x/\BM M w' t tb mb (ps++r.2)/\CP M w' t v r.1) \/
   (o=none/\t.pb=s.pb/\BM M w' t tb mb ps/\∃es,e=.returned (.tuple #[.agg #[.string ⟨#[]⟩,.int .i64 0],.nilIface,aY es 5])))
theorem X3{n b:Nat}{a:List Tr}(h:¬a.length=2):A_ n b a=none:=by
 match a,h with
 | [],_=>rfl
 | [_],_=>rfl
 | _::_::_::_,_=>rfl
theorem wQ{wx:World}{g off L cap:Nat}{vs:List Value}(h:CD M w (.slice (some ⟨g,off,none⟩) L cap) vs)(k:w.grownBy wx (some mb))(l:M mb)(i:Nat)(u:Value)(d:vs[i]?=some u):wx.cell? ⟨g,off+i,none⟩=some u:=by
 obtain⟨_,o,c,e,_,m⟩:=Sl.AQ (eL k l) h;simp only [Value.slice.injEq] at e;obtain⟨rfl,_,_⟩:=e;rcases m with p | ⟨q,f,n,j,_,b,a⟩
 ·have:=(s_ d).1;omega
 ·simp only [o_,Addr.mk.injEq,and_true] at j;obtain⟨rfl,rfl⟩:=j;rw [aA b];exact a i u d
theorem fY(n:Nat)(hF:GB n)(M:Nat->Prop)(w:World)(s:Sg)(tb mb:Nat)(ps:List (PV×PV))(sl:Value)(vs:List Value)(ts:List Tr)(hR:BM M w s tb mb ps)(hS:CD M w sl vs)(hA:C9 M n w vs ts)(hB:∀x∈ts,cL n x)(hz:s.ns.length+(ts.map (BB n)).sum<=BS)(o:Option (AE×PF×List (PV×PV)))(ho:o=A_ n ps.length ts) :Calls prog 53 #[D2 tb,sl] w fun e l=>QA M w s tb mb ps o (ts.map (BB n)).sum e l:=by
 have q:Hid (BM M w s tb mb ps):=hR;have T:=hA.1;unfold D2;by_cases L:ts.length=2
 ·obtain⟨D,j,rfl⟩:=fO L;obtain⟨u1,u2,rfl⟩:=fO (T.trans L);have r1:=hA.2 0 u1 D rfl rfl;have r2:=hA.2 1 u2 j rfl rfl;have N:Hid (AN (fun k=>¬M k) n w u1 D):=r1;have aj:Hid (JI M w u2 (EF (AD n j)) (BB n j)):=hF M w u2 j r2 (hB j (by simp))
  have m:Hid (∀x,D=.lit (.string x)->x.length<=1000/\s.ns.length+1+BB n j<=BS/\s.ns.length+1+BB n j=s.ns.length+([D,j].map (BB n)).sum):=fun x U=>by
   subst U
   cases n with
   | zero=>exact r1.elim
   | succ n =>
    refine⟨t_ (show x.length<=300 from hB (.lit (.string x)) (by simp)) (by decide),?_,?_⟩
    ·simp only [List.map_cons,List.map_nil,List.sum_cons,List.sum_nil] at hz;rw [show BB (n+1) (.lit (.string x))=1 from rfl] at hz;omega
    ·simp only [List.map_cons,List.map_nil,List.sum_cons,List.sum_nil];rw [show BB (n+1) (.lit (.string x))=1 from rfl];omega
  have HO:Hid (o=if isName D then(EF (AD n j) ps.length).map fun r=>(Pl.strOf D,r) else none):=ho;obtain⟨T1,x1,rfl,E⟩:=r1.iface;obtain⟨T2,x2,rfl,F⟩:=r2.iface;have ac:=(Sl.C7 hS)
  obtain⟨g,G,ak,rfl,ad,hg,k0,ks⟩:=ac.cell0;have k1:=ks 0 _ rfl;simp only [Nat.zero_add,c_,z_] at k1 ad ⊢;have V:Hid (∀wx:World,w.grownBy wx (some mb)->wx.cell? ⟨g,G+1,none⟩=some (.iface T2 x2)):=fun wx f=>wQ hS f q.FV 1 _ rfl;clear hA hB hF r1 r2 T L ks ac hR E F hz ho hS;go_enter func53,ntmps53
  go_upto_region 40 with fail
  have W:Hid (mb<w.heap.size):=q.B3.lt.2;have q3:∀E F o3:Obj,(((w.alloc E).alloc F).alloc o3).cell? ⟨g,G,none⟩=some (.iface T1 x1):=fun E F o3=>(((bA w E F).alloc (by simp;omega) o3).cell (p:=⟨g,G,none⟩) hg).trans k0;have q2:∀E F:Obj,((w.alloc E).alloc F).cell? ⟨g,G,none⟩=some (.iface T1 x1):=fun E F=>((bA w E F).cell (p:=⟨g,G,none⟩) hg).trans k0;have s0:∀E F o3:Obj,(((w.alloc E).alloc F).alloc o3).heap.size=w.heap.size+3:=fun _ _ _=>by simp
  go_cut [7,8] (fun n7 e8 wx=>∃(B:ByteArray)(C:Int)(R:Nat),n7=.pointer (some ⟨R,0,none⟩)/\Hid (VJ M w s tb mb ps D B C R e8 wx))
  case first =>
   have HN:Hid (Calls prog 55 #[.agg #[.pointer (some ⟨tb,0,none⟩)],.iface T1 x1] ((w.alloc (A0 tb)).alloc (.cells #[.string ⟨#[]⟩,.int .i64 0] B6)).drew fun e l=>∃B C t,e=.returned (.tuple #[.agg #[.string B,.int .i64 C],t])/\Hid (ZR M ((w.alloc (A0 tb)).alloc (.cells #[.string ⟨#[]⟩,.int .i64 0] B6)).drew s tb mb ps D B C t l)) :=(qP _ n w M _ s tb mb ps _ D N (q.below (bA w (A0 tb) (.cells #[.string ⟨#[]⟩,.int .i64 0] B6)).drew) (fun x U=>⟨(m x U).1,by have:=(m x U).2.1;omega⟩)).mono (fun e l h=>h.one)
   have al:Hid (Calls prog 55 #[.agg #[.pointer (some ⟨tb,0,none⟩)],.iface T1 x1] (((w.alloc (A0 tb)).alloc (.cells #[.string ⟨#[]⟩,.int .i64 0] B6)).alloc (.cells #[.string ⟨#[]⟩,.int .i64 0] B6)).drew fun e l=>∃B C t,e=.returned (.tuple #[.agg #[.string B,.int .i64 C],t])/\Hid (ZR M (((w.alloc (A0 tb)).alloc (.cells #[.string ⟨#[]⟩,.int .i64 0] B6)).alloc (.cells #[.string ⟨#[]⟩,.int .i64 0] B6)).drew s tb mb ps D B C t l)/\l.cell? ⟨w.heap.size+2,0,none⟩=some (.string ⟨#[]⟩)/\l.cell? ⟨w.heap.size+2,1,none⟩=some (.int .i64 0)/\l.frozen? ⟨w.heap.size+2,0,none⟩=false/\l.frozen? ⟨w.heap.size+2,1,none⟩=false) :=
    (qP _ n w M _ s tb mb ps _ D N (q.below ((bA w (A0 tb) (.cells #[.string ⟨#[]⟩,.int .i64 0] B6)).alloc (by simp;omega) _).drew) (fun x U=>⟨(m x U).1,by have:=(m x U).2.1;omega⟩)).mono (fun e l h=>by
     obtain⟨B,C,t,h1,L⟩:=h.one;have hb:=(L.1.block (w.heap.size+2) (by show _<((((w.alloc _).alloc _).alloc _)).heap.size;simp) (by have:=W.out;simp;omega)).trans (iR w (A0 tb) (.cells #[.string ⟨#[]⟩,.int .i64 0] B6) (.cells #[.string ⟨#[]⟩,.int .i64 0] B6)).2.2.1
     exact⟨B,C,t,h1,L,aA hb 0,aA hb 1,aF hb 0,aF hb 1⟩)
   go_region_with (go_at_call 55;first | (refine Calls.mono HN ?_;rintro e w2 ⟨B,C,t,rfl,HQ⟩) | (refine Calls.mono al ?_;rintro e w2 ⟨B,C,t,rfl,HQ,c0,c1,f0,f1⟩))
   all_goals
    go_wp2_with fail
    go_meet
    first
    | exact⟨_,_,_,rfl,X2 q HQ⟩
    | exact⟨_,_,_,rfl,X1 q HQ⟩
  case rest =>
   obtain⟨B,C,R,rfl,HC⟩:=hcut;obtain⟨b,am⟩:∃b,b=wc:=⟨_,rfl⟩
   subst am;obtain⟨ba,z,H,a,f,hq⟩:=HC.out;have ae:Hid (w.grownBy b (some mb)):=f;have c0:b.cell? ⟨w.heap.size,0,none⟩=some (.pointer (some ⟨tb,0,none⟩)):=aA H 0;have c1:=V.out b f;have r0:b.cell? ⟨w.heap.size+1,0,none⟩=some (.string ⟨#[]⟩):=aA a 0;have r1:b.cell? ⟨w.heap.size+1,1,none⟩=some (.int .i64 0):=aA a 1;have f0:b.frozen? ⟨w.heap.size+1,0,none⟩=false:=aF a 0;have f1:b.frozen? ⟨w.heap.size+1,1,none⟩=false:=aF a 1;rcases hq with⟨x,an,af,ap,aq,X,c⟩ | ⟨ag,c,es,X⟩
   ·subst an ap aq X;obtain⟨Y,Z⟩:=q.wide2 f c.B3 (s.E5 x).le rfl;have bb:Hid (BM (Mw M w.heap.size b.heap.size) b (s.named x) tb mb ps):=Y;have bc:Hid (Stp M w (Mw M w.heap.size b.heap.size) b):=Z;have HX:=m.out x rfl;have ar:=dE s.ns x;have au:Hid (Calls prog 43 #[.agg #[.pointer (some ⟨tb,0,none⟩)],.iface T2 x2] b.drew fun e l=>∃v t,e=.returned (.tuple #[v,t])/\Hid (LM (Mw M w.heap.size b.heap.size) b.drew (s.named x) tb mb ps (EF (AD n j) ps.length) (BB n j) v t l)) :=(aj _ b.drew (s.named x) tb mb ps (Z.trans (Stp.AA r_.drew)) (Y.below r_.drew) (by have:=HX.2.1;simp only [Sg.named];omega)).mono (fun e l h=>h.one);have av:Hid (s.ns.length+1+BB n j=s.ns.length+([.lit (.string x),j].map (BB n)).sum):=HX.2.2;have aw:Hid (EE x=false):=af;clear H c Y Z HX ar af f m N k0 q3 q2 s0 k1
    go_upto_region 40 with fail
    go_cut [8,9] (fun e8 v9 wy=>Hid (LM (Mw M w.heap.size b.heap.size) b.drew (s.named x) tb mb ps (EF (AD n j) ps.length) (BB n j) v9 e8 wy))
    case first =>
     go_region_with (go_at_call 43;refine Calls.mono au ?_;rintro e w2 ⟨v,t,rfl,HQ⟩)
     all_goals
      go_wp2_with fail
      go_meet
      exact HQ
    case rest =>
     obtain⟨d,O,P,aa,ab⟩:=hcut.out;have ax:=W.out;have S:R<b.heap.size:=aB z;have ah:w.heap.size+1<b.heap.size:=by omega
     have Q:=(d.block R S (by simp;omega)).trans z;have A:=(d.block (w.heap.size+1) ah (by simp;omega)).trans a;have z0:wc.cell? ⟨R,0,none⟩=some (.string ⟨x.toArray⟩):=aA Q 0;have z1:wc.cell? ⟨R,1,none⟩=some (.int .i64 ((s.ns.idxOf x:Nat):Int)):=aA Q 1;have y0:wc.cell? ⟨w.heap.size+1,0,none⟩=some (.string ⟨#[]⟩):=aA A 0;have y1:wc.cell? ⟨w.heap.size+1,1,none⟩=some (.int .i64 0):=aA A 1;have g0:wc.frozen? ⟨w.heap.size+1,0,none⟩=false:=aF A 0;have g1:wc.frozen? ⟨w.heap.size+1,1,none⟩=false:=aF A 1;have i:Mw M w.heap.size b.heap.size (w.heap.size+1):=.inr ⟨by omega,ah⟩;have HG:Hid (w.grownBy wc (some mb)):=aM ae ⟨d.os,d.tape,d.output,d.size,d.block⟩
     have HT:Hid (DK s O/\O.ns.length<=s.ns.length+([.lit (.string x),j].map (BB n)).sum):=⟨(s.E5 x).trans P,by
      have h1:=dE s.ns x;have L:=av.out;simp only [Sg.named] at aa
      omega⟩
     rcases ab with⟨r,hr,he,c,I⟩ | ⟨hr,ai,c,es,he⟩
     ·subst he;have J:Hid (o=some (x,r)):=show o=_ from by rw [HO.out,hr];simp [isName,aw.out,Pl.strOf]
      have HK:Hid (O.ns[s.ns.idxOf x]?=some x):=bS P.le.ns (internL_get s.ns x);have K:Hid (∀u v,BM M ((wc.setCell ⟨w.heap.size+1,0,none⟩ u).setCell ⟨w.heap.size+1,1,none⟩ v) O tb mb (ps++r.2)):=fun u v=>q.narrow ((c.set i (by omega) 0 u).set i (by omega) 1 v);have ay:Hid (∀u v,CP M ((wc.setCell ⟨w.heap.size+1,0,none⟩ u).setCell ⟨w.heap.size+1,1,none⟩ v) O u9 r.1):=fun u v=>(I.go ((Stp.set i 0 u).trans (Stp.set i 1 v)) (Sg.Le.refl _)).weaken (fun _ y=>.inl y);obtain⟨T9,x9,rfl⟩:=I.iface;clear hr c I P aa d hcut i A Q a z HC;go_wp2_with fail
      (try simp only [Exit.inBlock,Exit.then])
      refine bodyPost_ret (v:=.tuple #[.agg #[.string ⟨x.toArray⟩,.int .i64 ((s.ns.idxOf x:Nat):Int)],.iface T9 x9,.nilIface]) ?_ rfl ?_
      ·rw [bW rfl]
       go_simp
      ·exact⟨gm_set (gm_set HG (by omega) _ _) (by omega) _ _,O,HT.1,HT.2,.inl ⟨x,r,_,_,J,rfl,HK,K _ _,ay _ _⟩⟩
     ·subst he;have J:Hid (o=none):=show o=_ from by rw [HO.out,hr];simp
      have K:Hid (∀u v,BM M ((wc.setCell ⟨w.heap.size+1,0,none⟩ u).setCell ⟨w.heap.size+1,1,none⟩ v) O tb mb ps):=fun u v=>q.narrow ((c.set i (by omega) 0 u).set i (by omega) 1 v);have az:Hid (O.pb=s.pb):=ai;clear hr c P aa d hcut i A Q a z HC ai;unfold aY;go_wp2_with fail
      (try simp only [Exit.inBlock,Exit.then])
      refine bodyPost_ret (v:=.tuple #[.agg #[.string ⟨#[]⟩,.int .i64 0],.nilIface,aY es 5]) ?_ rfl ?_
      ·rw [bW rfl];unfold aY
       go_simp
      ·exact⟨gm_set (gm_set HG (by omega) _ _) (by omega) _ _,O,HT.1,HT.2,.inr ⟨J,az,K _ _,_,rfl⟩⟩
   ·subst X;have J:Hid (o=none):=show o=_ from by rw [HO.out,ag];simp
    have ax:=W.out;have S:R<b.heap.size:=aB z;have K:Hid (∀u v,BM M ((b.setCell ⟨w.heap.size+1,0,none⟩ u).setCell ⟨w.heap.size+1,1,none⟩ v) s tb mb ps):=fun u v=>q.I8 (gm_set (gm_set f (by omega) _ _) (by omega) _ _) (c.B3.keep (by rw [Below.heap_setCell _ _ _ _ (fun e=>by have:tb=w.heap.size+1:=(by simpa using e);have:=q.B3.lt.1;omega),Below.heap_setCell _ _ _ _ (fun e=>by have:tb=w.heap.size+1:=(by simpa using e);have:=q.B3.lt.1;omega)]) (by rw [Below.heap_setCell _ _ _ _ (fun e=>by have:mb=w.heap.size+1:=(by simpa using e);omega),Below.heap_setCell _ _ _ _ (fun e=>by have:mb=w.heap.size+1:=(by simpa using e);omega)])) (DK.refl s) rfl;clear c ag f H a z HC m N k0 q3 q2 s0 k1 c1;unfold aY;go_wp2_with fail
    (try simp only [Exit.inBlock,Exit.then])
    refine bodyPost_ret (v:=.tuple #[.agg #[.string ⟨#[]⟩,.int .i64 0],.nilIface,aY es 5]) ?_ rfl ?_
    ·rw [bW rfl];unfold aY
     go_simp
    ·exact⟨gm_set (gm_set ae (by omega) _ _) (by omega) _ _,s,DK.refl _,Nat.le_add_right _ _,.inr ⟨J,rfl,K _ _,_,rfl⟩⟩
 ·have HE:Hid (o=none):=ho.trans (X3 L);obtain⟨ao,ak,rfl,_⟩:=Sl.C7 hS;have bd:((vs.length:Int)!=2)=true:=by simp;omega
  clear hS hA hB hR L T ho hF hz;go_enter func53,ntmps53;go_wp2_with (go_at_call 71;refine(aS _ _).mono ?_;rintro e l ⟨rfl,rfl⟩)
  (try simp only [Exit.inBlock,Exit.then])
  refine bodyPost_ret (v:=.tuple #[.agg #[.string ⟨#[]⟩,.int .i64 0],.nilIface,aY ⟨#[114,101,97,100,105,110,103,32,97,32,110,97,109,101,32,97,110,100,32,97,32,102,111,114,109]⟩ 5]) ?_ rfl ?_
  ·rw [bW rfl]
   go_simp
  ·exact⟨aI (bA w _ _),s,DK.refl _,Nat.le_add_right _ _,.inr ⟨HE,rfl,q.below (bA w _ _),_,rfl⟩⟩
theorem U4(k:FK)(d:k≠.const)(n b:Nat)(c:List Tr):EF (Pl.E6 k (AD n) c) b=(A_ n b c).map fun p=>(BN k p.1 .nil [p.2.1] [],p.2.2):=by
 match c with
 | []=>rfl
 | [_]=>rfl
 | [a,e] =>
  simp only [Pl.E6,A_]
  cases isName a with
  | false=>rfl
  | true =>
   cases AD n e with
   | none=>rfl
   | some f=>simp [EF,BN,Pl.BC _ _ _ _ _ _ _ d,Pl.BO,Pl.BV]
 | _::_::_::_=>rfl
theorem WY{t:Sg}{k:Nat}{v:Value}{x:AE}{f:PF}(h:t.ns[k]?=some x)(a:CP M w t v f):CP M w t (.iface 205 (.agg #[.string ⟨x.toArray⟩,.int .i64 (k:Int),v])) (BN .set x .nil [f] []):=.set k v f x .nil .nothing [] h a
theorem rP{t:Sg}{k:Nat}{v:Value}{x:AE}{f:PF}(h:t.ns[k]?=some x)(a:CP M w t v f):CP M w t (.iface 152 (.agg #[.string ⟨x.toArray⟩,.int .i64 (k:Int),v])) (BN .define x .nil [f] []):=.define k v f x .nil .nothing [] h a
theorem p_set(n:Nat)(G:GB n)(M:Nat->Prop)(w:World)(s:Sg)(tb mb:Nat)(ps:List (PV×PV))(sl:Value)(vs:List Value)(a:List Tr)(H:BM M w s tb mb ps)(z:CD M w sl vs)(I:C9 M n w vs a)(J:∀x∈a,cL n x)(K:s.ns.length+(a.map (BB n)).sum<=BS)(o:FR)(L:o=EF (Pl.E6 .set (AD n) a) ps.length) :Calls prog 75 #[D2 tb,sl] w fun e A=>A5 M w s tb mb ps o (a.map (BB n)).sum e A:=by
 have b:=bB w (A0 tb);have N:Hid (Calls prog 53 #[D2 tb,sl] (w.alloc (A0 tb)) fun e A=>QA M (w.alloc (A0 tb)) s tb mb ps (A_ n ps.length a) (a.map (BB n)).sum e A) :=fY n G M _ s tb mb ps sl vs a (H.below b) (Sl.AQ (Stp.AA b) z) (I.mono (fun _ _ h=>h.go (Stp.AA b))) J K _ rfl;obtain⟨S,R,rfl,_⟩:=Sl.C7 z;unfold D2 at N ⊢;have O:Hid (o=(A_ n ps.length a).map fun p=>(BN .set p.1 .nil [p.2.1] [],p.2.2)):=L.trans (U4 .set (by decide) n ps.length a);have l:=h_ b;clear z H b G L I J K;go_enter func75,ntmps75;go_wp2_with fail;refine Calls.mono N ?_;rintro e j ⟨y,t,f,g,⟨x,r,k,v,m,rfl,P,c,d⟩ | ⟨m,q,c,T,rfl⟩⟩
 ·have u:Hid (DK s t/\t.ns.length<=s.ns.length+(a.map (BB n)).sum):=⟨f,g⟩
  have B:=h_ (aM (aI l) y);have Q:Hid (∀i,BM M (j.alloc i) t tb mb (ps++r.2)/\CP M (j.alloc i) t (.iface 205 (.agg #[.string ⟨x.toArray⟩,.int .i64 (k:Int),v])) (BN .set x .nil [r.1] [])):=fun i=>⟨c.below (bB j i),(WY P d).go (Stp.AA (bB j i)) (Sg.Le.refl _)⟩
  have C:Hid (o=some (BN .set x .nil [r.1] [],r.2)):=show _=_ from by rw [O.out,m];rfl
  obtain⟨U,V,rfl⟩:=d.iface;clear y f g m c d P;go_wp2_with fail;go_ret2;exact⟨aM B (aI (bB j _)),t,u.1,u.2,.inl ⟨_,_,C,rfl,(Q _).1,(Q _).2⟩⟩
 ·have u:Hid (DK s t/\t.ns.length<=s.ns.length+(a.map (BB n)).sum):=⟨f,g⟩
  have B:=h_ (aM (aI l) y);have D:Hid (∀i,BM M (j.alloc i) t tb mb ps):=fun i=>c.below (bB j i);have E:=h_ q;have F:Hid (o=none):=show _=_ from by rw [O.out,m];rfl
  clear y f g m c q;unfold aY;go_wp2_with fail;go_ret2;exact⟨aM B (aI (bB j _)),t,u.1,u.2,.inr ⟨F,E,D _,_,_,rfl⟩⟩
theorem yW(n:Nat)(G:GB n)(M:Nat->Prop)(w:World)(s:Sg)(tb mb:Nat)(ps:List (PV×PV))(sl:Value)(vs:List Value)(a:List Tr)(H:BM M w s tb mb ps)(z:CD M w sl vs)(I:C9 M n w vs a)(J:∀x∈a,cL n x)(K:s.ns.length+(a.map (BB n)).sum<=BS)(o:FR)(L:o=EF (Pl.E6 .define (AD n) a) ps.length) :Calls prog 42 #[D2 tb,sl] w fun e A=>A5 M w s tb mb ps o (a.map (BB n)).sum e A:=by
 have b:=bB w (A0 tb);have N:Hid (Calls prog 53 #[D2 tb,sl] (w.alloc (A0 tb)) fun e A=>QA M (w.alloc (A0 tb)) s tb mb ps (A_ n ps.length a) (a.map (BB n)).sum e A) :=fY n G M _ s tb mb ps sl vs a (H.below b) (Sl.AQ (Stp.AA b) z) (I.mono (fun _ _ h=>h.go (Stp.AA b))) J K _ rfl;obtain⟨S,R,rfl,_⟩:=Sl.C7 z;unfold D2 at N ⊢;have O:Hid (o=(A_ n ps.length a).map fun p=>(BN .define p.1 .nil [p.2.1] [],p.2.2)):=L.trans (U4 .define (by decide) n ps.length a);have l:=h_ b;clear z H b G L I J K;go_enter func42,ntmps42;go_wp2_with fail;refine Calls.mono N ?_;rintro e j ⟨y,t,f,g,⟨x,r,k,v,m,rfl,P,c,d⟩ | ⟨m,q,c,T,rfl⟩⟩
 ·have u:Hid (DK s t/\t.ns.length<=s.ns.length+(a.map (BB n)).sum):=⟨f,g⟩
  have B:=h_ (aM (aI l) y);have Q:Hid (∀i,BM M (j.alloc i) t tb mb (ps++r.2)/\CP M (j.alloc i) t (.iface 152 (.agg #[.string ⟨x.toArray⟩,.int .i64 (k:Int),v])) (BN .define x .nil [r.1] [])):=fun i=>⟨c.below (bB j i),(rP P d).go (Stp.AA (bB j i)) (Sg.Le.refl _)⟩
  have C:Hid (o=some (BN .define x .nil [r.1] [],r.2)):=show _=_ from by rw [O.out,m];rfl
  obtain⟨U,V,rfl⟩:=d.iface;clear y f g m c d P;go_wp2_with fail;go_ret2;exact⟨aM B (aI (bB j _)),t,u.1,u.2,.inl ⟨_,_,C,rfl,(Q _).1,(Q _).2⟩⟩
 ·have u:Hid (DK s t/\t.ns.length<=s.ns.length+(a.map (BB n)).sum):=⟨f,g⟩
  have B:=h_ (aM (aI l) y);have D:Hid (∀i,BM M (j.alloc i) t tb mb ps):=fun i=>c.below (bB j i);have E:=h_ q;have F:Hid (o=none):=show _=_ from by rw [O.out,m];rfl
  clear y f g m c q;unfold aY;go_wp2_with fail;go_ret2;exact⟨aM B (aI (bB j _)),t,u.1,u.2,.inr ⟨F,E,D _,_,_,rfl⟩⟩
end
end Go.Proofs.YtieooapcfpimlaaGreatDoor
