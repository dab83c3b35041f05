import Derived.Deep.RegionWith
import Derived.Lib.LaidTab
import Derived.Test.YtkgbdddkcjpgfaaGreatDoorT12
import Derived.Deep.DeepCutAuto
namespace Go.Proofs.YtkgbdddkcjpgfaaGreatDoor
set_option maxHeartbeats 8000000
set_option maxRecDepth 100000
open Go.Proofs.Tryz
open Pl (PV PW AE)
section
open Go.RowKit
variable {w w':World} {M:Nat->Prop}
def oS:String := "internal/strconv.uint64pow10"
structure Gs(w:World)(M:Nat->Prop):Prop where
 size:8<=w.heap.size
 low:∀k,k<8->¬M k
 B3:Lib.TabIs prog w oS .u64 Lib.pow10Tab
theorem Tryz.powB:(prog.globalNamed oS).map (fun g=>decide (g<8))=some true:=by kernel_rfl
theorem Tryz.powG:∃g,prog.globalNamed oS=some g/\g<8:=by
 have h:=Tryz.powB
 cases a:prog.globalNamed oS with
 | none=>rw [a] at h;simp at h
 | some g=>rw [a] at h;exact⟨g,rfl,by simpa using h⟩
theorem iH(h:∀k,k<8->w'.heap[k]?=w.heap[k]?)(a:Lib.TabIs prog w oS .u64 Lib.pow10Tab):Lib.TabIs prog w' oS .u64 Lib.pow10Tab:=by obtain⟨g,b,c⟩:=Tryz.powG;unfold Lib.TabIs World.var? at a ⊢;rw [b] at a ⊢;simp only [Option.bind_some,h g c] at a ⊢;exact a
theorem Gs.AQ{M':Nat->Prop}(h:Gs w M)(b:Stp M w M' w'):Gs w' M' :=⟨t_ h.size b.size,fun k a=>(b.block k (l_ a h.size) (h.low k a)).2,iH (fun k a=>(b.block k (l_ a h.size) (h.low k a)).1) h.B3⟩
theorem Gs.mono{M':Nat->Prop}(h:Gs w M)(b:∀k,M' k->M k):Gs w M':=⟨h.size,fun k c a=>h.low k c (b k a),h.B3⟩
theorem Gs.below(h:Gs w M)(a:Below w.heap.size w w'):Gs w' M:=h.AQ (Stp.AA a)
def AY:Prop:=∀(n:Int)(w:World),n.natAbs<=1099511627776->Lib.TabIs prog w oS .u64 Lib.pow10Tab->Calls prog 34 #[.int .i64 n] w fun e w'=>e=.returned (.string ⟨(Pl.itoa n).toArray⟩)/\Below w.heap.size w w'/\(Pl.itoa n).length<=30
theorem yB{wb:Nat}{W:PW}{pv qv cv lv gv:Value}{qs cs:List Value}(h:EV w wb W pv qv cv lv gv qs cs){k:Nat}{p:PV×PV}(hp:W.pairs[k]?=some p):∃g b,pv=.slice (some ⟨g,0,none⟩) W.pairs.length b/\W.pairs.length<=b/\g<w.heap.size /\
  w.cell? ⟨g,k*6,none⟩=some (.string ⟨(vK p.1).toArray⟩)/\w.cell? ⟨g,k*6+1,none⟩=some (.int .i64 (vN p.1))/\w.cell? ⟨g,k*6+2,none⟩=some (.string ⟨(vS p.1).toArray⟩) /\
  w.cell? ⟨g,k*6+3,none⟩=some (.string ⟨(vK p.2).toArray⟩)/\w.cell? ⟨g,k*6+3+1,none⟩=some (.int .i64 (vN p.2))/\w.cell? ⟨g,k*6+3+2,none⟩=some (.string ⟨(vS p.2).toArray⟩):=by
 have i:=(s_ hp).1;rcases h.pr.2 with⟨_,j⟩ | ⟨g,b,c,e,_,d,f,_⟩
 ·omega
 ·have a:=h.pr.cells (g:=g) (by rw [e];rfl);refine⟨g,b,e,f,aB d,?_,?_,?_,?_,?_,?_⟩
  ·have:=a (k*6) _ (aX mG 6 (fun _=>rfl) _ _ 0 _ hp (by decide));rwa [Addr.add_lit,Nat.zero_add] at this
  ·have:=a (k*6+1) _ (aX mG 6 (fun _=>rfl) _ _ 1 _ hp (by decide));rwa [Addr.add_lit,Nat.zero_add] at this
  ·have:=a (k*6+2) _ (aX mG 6 (fun _=>rfl) _ _ 2 _ hp (by decide));rwa [Addr.add_lit,Nat.zero_add] at this
  ·have:=a (k*6+3) _ (aX mG 6 (fun _=>rfl) _ _ 3 _ hp (by decide));rwa [Addr.add_lit,Nat.zero_add] at this
  ·have:=a (k*6+4) _ (aX mG 6 (fun _=>rfl) _ _ 4 _ hp (by decide));rwa [Addr.add_lit,Nat.zero_add] at this
  ·have:=a (k*6+5) _ (aX mG 6 (fun _=>rfl) _ _ 5 _ hp (by decide));rwa [Addr.add_lit,Nat.zero_add] at this
structure L2(W:PW):Prop where
 KV:Pl.NI W.pairs
 CH:∀(i:Nat)(p:PV×PV),W.pairs[i]?=some p->BL W p.1/\BL W p.2
 len:W.pairs.length<=1000000000
def IC(W:PW)(v:PV)(s:AE)(n:Nat)(w:World)(e:Ending)(w':World):Prop :=Below w.heap.size w w'/\∃r:AE,e=.returned (.string ⟨r.toArray⟩)/\Pl.Q r (s++Pl.text W.pairs v)/\r.length<=max s.length (700+n)
def OO(wb:Nat)(M:Nat->Prop)(W:PW)(n:Nat):Prop:=∀(w:World)(v:PV)(s:AE),RW w wb M W->Gs w M->BL W v->Pl.B7 v<=n->s.length<=100000000000 ->
 Calls prog 86 #[.pointer (some ⟨wb,0,none⟩),bT v,.string ⟨s.toArray⟩] w fun e w'=>IC W v s n w e w'
theorem c7(a b:AE):(⟨a.toArray⟩:ByteArray)++⟨b.toArray⟩=⟨(a++b).toArray⟩:=by apply ByteArray.ext;simp [ByteArray.data_append]
theorem dZ{a:ByteArray}{b:AE}(h:a=⟨b.toArray⟩):Ending.returned (.string a)=.returned (.string ⟨b.toArray⟩):=by rw [h]
theorem fU(m:AY)(wb:Nat)(M:Nat->Prop)(W:PW)(n:Nat)(w:World)(v:PV)(s:AE)(p:Gs w M)(c:BL W v)(r:s.length<=200)(hp:∀i,v≠.pair i) :Calls prog 86 #[.pointer (some ⟨wb,0,none⟩),bT v,.string ⟨s.toArray⟩] w fun e u=>IC W v s n w e u:=by
 have y:Hid AY:=m;have z:=h_ p;clear m p;have A:decide ((200:Int)<(s.length:Int))=false:=by simp;omega
 have f:∀o:Obj,Below w.heap.size w (w.alloc o):=fun o=>b_;have a:=h_ f;have d:=h_ r;clear f
 cases v with
 | pair i=>exact absurd rfl (hp i)
 | empty =>unfold bT AM vK vN vS kEmp;clear hp c;go_enter func86,ntmps86;go_wp2_with fail;go_ret;exact⟨a _,s++[40,41],dZ (c7 s [40,41]),Pl.Q.refl _,by simp only [a_];have:=d.out;simp only [c_,z_];omega⟩
 | nothing =>unfold bT AM vK vN vS kNot;clear hp c;go_enter func86,ntmps86;go_wp2_with fail;go_ret;exact⟨a _,s++[],by rw [List.append_nil];rfl,Pl.Q.refl _,by simp only [a_];have:=d.out;simp only [z_];omega⟩
 | proc i =>unfold bT AM vK vN vS s5;clear hp c;go_enter func86,ntmps86;go_wp2_with fail;go_ret;exact⟨a _,s++[35,112,114,111,99,101,100,117,114,101],dZ (c7 s [35,112,114,111,99,101,100,117,114,101]),Pl.Q.refl _,by simp only [a_];have:=d.out;simp only [c_,z_];omega⟩
 | cont i =>unfold bT AM vK vN vS pJ;clear hp c;go_enter func86,ntmps86;go_wp2_with fail;go_ret;exact⟨a _,s++[35,112,114,111,99,101,100,117,114,101],dZ (c7 s [35,112,114,111,99,101,100,117,114,101]),Pl.Q.refl _,by simp only [a_];have:=d.out;simp only [c_,z_];omega⟩
 | AZ i =>unfold bT AM vK vN vS pH;clear hp c;go_enter func86,ntmps86;go_wp2_with fail;go_ret;exact⟨a _,s++[35,112,114,111,99,101,100,117,114,101],dZ (c7 s [35,112,114,111,99,101,100,117,114,101]),Pl.Q.refl _,by simp only [a_];have:=d.out;simp only [c_,z_];omega⟩
 | AT b =>
  clear hp c
  cases b with
  | true =>unfold bT AM vK vN vS F_;simp only [↓reduceIte];go_enter func86,ntmps86;go_wp2_with fail;go_ret;exact⟨a _,s++[35,116],dZ (c7 s [35,116]),Pl.Q.refl _,by simp only [a_];have:=d.out;simp only [c_,z_];omega⟩
  | false =>unfold bT AM vK vN vS F_;simp only [↓reduceIte,Bool.false_eq_true];go_enter func86,ntmps86;go_wp2_with fail;go_ret;exact⟨a _,s++[35,102],dZ (c7 s [35,102]),Pl.Q.refl _,by simp only [a_];have:=d.out;simp only [c_,z_];omega⟩
 | name x =>have h:x.length<=300:=c;have j:=h_ h;unfold bT AM vK vN vS kNa;clear hp c;go_enter func86,ntmps86;go_wp2_with fail;go_ret;exact⟨a _,s++x,dZ (c7 s x),Pl.Q.refl _,by simp only [a_];have:=d.out;have:=j.out;omega⟩
 | num x =>
  have h:x.natAbs<=1099511627776:=c;have j:=h_ h;unfold bT AM vK vN vS kNu;clear hp c h;go_enter func86,ntmps86;go_wp2_with fail;refine(y x _ j (z.below (a _)).B3).mono ?_;rintro e B ⟨rfl,q,C⟩;have k:=(show Hid (Below w.heap.size w B) from(a _).trans (q.mono (a _).size))
  have l:=h_ C;clear q;generalize g:Pl.itoa x=t at *;have D:=h_ g;clear g;go_wp2_with fail;go_ret;exact⟨k,s++t,dZ (c7 s _),by rw [<- D.out];exact Pl.Q.refl _,by simp only [a_];have:=d.out;have:=l.out;omega⟩
theorem IT(wb:Nat)(W:PW)(n:Nat)(w:World)(v:PV)(s:AE)(b:200<s.length)(c:s.length<=100000000000) :Calls prog 86 #[.pointer (some ⟨wb,0,none⟩),bT v,.string ⟨s.toArray⟩] w fun e d=>IC W v s n w e d:=by
 have f:=h_ b;have g:(200:Int)<(s.length:Int):=by omega
 unfold bT AM;go_enter func86,ntmps86;go_wp2_with fail;go_ret;exact⟨b_,s,rfl,by have:=Pl.Q.long (a:=s) [] (Pl.text W.pairs v) f;rwa [List.append_nil] at this,by omega⟩
theorem bO{X:World}{R:Nat}(a:Below w.heap.size w X)(c:w.heap.size<=R)(o:Nat)(v:Value):Below w.heap.size w (X.setCell ⟨R,o,none⟩ v) :=⟨a.os,a.tape,a.output,by have:=a.size;simp [World.setCell];omega,fun k b=>by rw [Below.heap_setCell _ _ _ _ (fun e=>by simp at e;omega)];exact a.block k b⟩
theorem iK(v:PV):(∃i,v=.pair i)\/((∀i,v≠.pair i)/\(vK v==[112,97,105,114])=false):=by
 cases v with
 | pair i=>exact .inl ⟨i,rfl⟩
 | _=>exact .inr ⟨fun i h=>(by cases h),rfl⟩
theorem YD(v:PV):v=.empty\/(v≠.empty/\(vK v==[101,109,112,116,121])=false/\(vK v !=[101,109,112,116,121])=true):=by
 cases v with
 | empty=>exact .inl rfl
 | _=>exact .inr ⟨fun h=>(by cases h),rfl,rfl⟩
def rkAt(w:World)(R:Nat):Nat:=match w.cell? ⟨R,0,none⟩,w.cell? ⟨R,1,none⟩ with
 | some (.string k),some (.int _ m)=>if k.data.toList=pI then m.toNat+1 else 0
 | _,_=>0
theorem t6{R:Nat}{v:PV}{T:TypeId}(h:w.heap[R]?=some (.cells #[AM (vK v),.int .i64 (vN v),AM (vS v)] T (0,0))):rkAt w R=Pl.B7 v:=by
 unfold rkAt;rw [aA h 0,aA h 1]
 cases v with
 | pair i=>simp [AM,vK,vN,Pl.B7,pI]
 | _=>rfl
theorem lE(wb:Nat)(M:Nat->Prop)(W:PW)(n:Nat)(hT:OO wb M W n)(X:L2 W)(w:World)(i:Nat)(s:AE)(hW:RW w wb M W)(hG:Gs w M)(hv:BL W (.pair i))(hi:i<=n)(hs:s.length<=200)(hn:n<=1000000000) :Calls prog 86 #[.pointer (some ⟨wb,0,none⟩),bT (.pair i),.string ⟨s.toArray⟩] w fun e w'=>IC W (.pair i) s (n+1) w e w':=by
 have HT:=h_ hT;have HP:=h_ X;have HG:=h_ hG;have HW:=h_ hW;obtain⟨p,Y⟩:∃p,W.pairs[i]?=some p:=⟨_,g_ hv⟩
 have HX:=h_ (Pl.JO X.KV Y);have HV:=h_ (X.CH i p Y);have HR:=h_ (X.KV i p Y);have bb:=X.len;have m:Hid (∀o:Obj,Below w.heap.size w (w.alloc o)):=fun o=>b_;obtain⟨pv,qv,cv,lv,gv,qs,cs,hM,q⟩:=hW;obtain⟨g,Z,rfl,az,z,d0,d1,d2,d3,d4,d5⟩:=yB q Y;have c0:w.cell? ⟨wb,0,none⟩=some (.slice (some ⟨g,0,none⟩) W.pairs.length Z):=aA q.blk 0;have H:=aB q.blk;have bc:decide ((200:Int)<(s.length:Int))=false:=by simp;omega
 have bd:(i:Int)<(W.pairs.length:Int):=by have:i<W.pairs.length:=hv;omega
 have aa:(⟨s.toArray⟩:ByteArray)++⟨#[40]⟩=⟨(s++[40]).toArray⟩:=c7 s [40];have q1:∀(o:Obj)(b d:Nat),b<w.heap.size->(w.alloc o).cell? ⟨b,d,none⟩=w.cell? ⟨b,d,none⟩:=fun o b d hb=>(m o).cell (p:=⟨b,d,none⟩) hb;have HL:=h_ hs;have HM:=h_ hM;have I:=h_ q;clear hT X hG hv Y hM q;unfold bT AM vK vN vS pI;go_enter func86,ntmps86
 go_upto_region 21 with fail
 go_cut [2] (fun s2 E=>∃J:AE,s2=.string ⟨J.toArray⟩/\E.cell? ⟨w.heap.size,1,none⟩=some (.int .i64 i)/\Hid (Below w.heap.size w E)/\Hid (Pl.Q (J++Pl.tl W.pairs p.2) (s++Pl.text W.pairs (.pair i)))/\Hid (J.length<=700+n))
 case first =>
  go_region_with (go_at_call 86;refine(HT _ p.1 (s++[40]) (RW.later HW (m _).drew) (HG.below (m _).drew) HV.1 (t_ HR.1 hi) (by simp;omega)).mono ?_;rintro e w1 ⟨ab,J,rfl,ak,al⟩)
  all_goals
   go_wp2_with fail
   go_meet
   refine⟨J,rfl,(ab.cell (p:=⟨w.heap.size,1,none⟩) (by simp)).trans (aA (heap_alloc_new w _) 1),(m _).drew.trans (ab.mono (m _).size),?_,?_⟩
   ·show Pl.Q _ _;rw [HX.out];have:=ak.app (Pl.tl W.pairs p.2);simpa using this
   ·show _<=_;have:=HL.out;simp only [a_,c_,z_] at al;omega
 case rest =>
  obtain⟨J,rfl,x1,f,HQ,am⟩:=hcut;have r:=f.size;have an:g<wc.heap.size:=by omega
  have ac:wb<wc.heap.size:=by omega
  have ad:w.heap.size<wc.heap.size:=World.block_lt_of_cell? _ _ x1;have y0:=(f.cell (p:=⟨wb,0,none⟩) H).trans c0;have y3:=(f.cell (p:=⟨g,i*6+3,none⟩) z).trans d3;have y4:=(f.cell (p:=⟨g,i*6+3+1,none⟩) z).trans d4;have y5:=(f.cell (p:=⟨g,i*6+3+2,none⟩) z).trans d5;have qA:∀(o:Obj)(b d:Nat),b<wc.heap.size->(wc.alloc o).cell? ⟨b,d,none⟩=wc.cell? ⟨b,d,none⟩:=fun o b d hb=>(r_.alloc n_ o).cell (p:=⟨b,d,none⟩) hb;clear c0 d0 d1 d2 d3 d4 d5 aa q1
  go_upto_region 22 with fail
  go_cut [7] (fun p7 E=>∃R:Nat,p7=.pointer (some ⟨R,0,none⟩)/\w.heap.size<=R/\Hid (E.heap[R]?=some (.cells #[AM (vK p.2),.int .i64 (vN p.2),AM (vS p.2)] TV (0,0)))/\Hid (Below w.heap.size w E))
  case first =>
   go_region
   all_goals
    go_wp2_with fail
    go_meet
    exact⟨wc.heap.size,rfl,r,heap_alloc_new wc _,(f.alloc r _).drew⟩
  case rest =>
   obtain⟨R,rfl,K,ao,ap⟩:=hcut;clear x1 y0 y3 y4 y5 qA an ac ad r f;go_wp2_with fail
   go_loopw [2] (fun sv wr=>∃(c:AE)(a:PV),sv=.string ⟨c.toArray⟩/\Hid (wr.heap[R]?=some (.cells #[AM (vK a),.int .i64 (vN a),AM (vS a)] TV (0,0)))/\Hid (Below w.heap.size w wr)/\Hid (BL W a)/\Hid (Pl.B7 a<=n)/\Hid (Pl.Q (c++Pl.tl W.pairs a) (s++Pl.text W.pairs (.pair i)))/\Hid (c.length<=700+n)) (fun _ wr=>rkAt wr R)
   case atStart=>exact⟨J,p.2,rfl,ao,ap,HV.2,t_ HR.2 hi,HQ,am⟩
   case round =>
    obtain⟨c,a,rfl,F,k,L,ae,A,aq⟩:=hrel;have be:=aq.out;have af:=aB F;have r0:wr.cell? ⟨R,0,none⟩=some (.string ⟨(vK a).toArray⟩):=aA F 0;have N:wr.cell? ⟨R,1,none⟩=some (.int .i64 (vN a)):=aA F 1;have r2:wr.cell? ⟨R,2,none⟩=some (.string ⟨(vS a).toArray⟩):=aA F 2;have ar:(⟨c.toArray⟩:ByteArray)++⟨#[41]⟩=⟨(c++[41]).toArray⟩:=c7 c [41];by_cases t:c.length<=200
    ·have au:decide ((c.length:Int)<=200)=true:=by simp;omega
     rcases iK a with⟨j,rfl⟩ | ⟨ag,bf⟩
     ·obtain⟨G,u⟩:∃p,W.pairs[j]?=some p:=⟨_,g_ L⟩
      have bg:(j:Int)<(W.pairs.length:Int):=by have:j<W.pairs.length:=L.out;omega
      have ah:=h_ (HP.CH j G u);have O:=h_ (HP.KV j G u);have av:=h_ (Pl.MK HP.KV u);have ai:Hid (j<=n):=by have:=ae.out;simp only [Pl.B7] at this;show j<=n;omega
      have x:=h_ (HW.later k);obtain⟨g',ba,e',P,bh,d0,d1,d2,d3,d4,d5⟩:=yB I u;simp only [Value.slice.injEq,o_,Addr.mk.injEq,and_true,true_and] at e';obtain⟨rfl,rfl⟩:=e';have c0:wr.cell? ⟨wb,0,none⟩=some (.slice (some ⟨g,0,none⟩) W.pairs.length Z):=(k.cell (p:=⟨wb,0,none⟩) H).trans (aA I.blk 0);have y0:=(k.cell (p:=⟨g,j*6,none⟩) z).trans d0;have y1:=(k.cell (p:=⟨g,j*6+1,none⟩) z).trans d1;have y2:=(k.cell (p:=⟨g,j*6+2,none⟩) z).trans d2;have HD:=h_ (And.intro d3 (And.intro d4 d5));have aw:(⟨c.toArray⟩:ByteArray)++⟨#[32]⟩=⟨(c++[32]).toArray⟩:=c7 c [32];have Q:=h_ t;have e0:wr.cell? ⟨R,0,none⟩=some (.string ⟨#[112,97,105,114]⟩):=r0;have e1:wr.cell? ⟨R,1,none⟩=some (.int .i64 j):=N;clear u d0 d1 d2 d3 d4 d5 P r0 N r2
      go_upto_region 25 with fail
      go_cut [2] (fun s2 E=>∃l:AE,s2=.string ⟨l.toArray⟩/\Hid (E.heap[R]?=some (.cells #[AM (vK (.pair j)),.int .i64 (vN (.pair j)),AM (vS (.pair j))] TV (0,0)))/\Hid (Below w.heap.size w E)/\Hid (Pl.Q (l++Pl.tl W.pairs G.2) (s++Pl.text W.pairs (.pair i)))/\Hid (l.length<=700+n))
      case first =>
       go_region_with (go_at_call 86;refine(HT _ G.1 (c++[32]) (RW.later x (r_.drew)) ((HG.below k).below (r_.drew)) ah.1 (t_ O.1 ai) (by simp;omega)).mono ?_;rintro e w5 ⟨y,l,rfl,B,C⟩)
       all_goals
        go_wp2_with fail
        go_meet
        refine⟨l,rfl,(y.block _ (by simpa using af)).trans F,k.trans ((Below.trans (r_.drew) y).mono k.size),?_,?_⟩
        ·show Pl.Q _ _;refine Pl.Q.trans ?_ A;rw [av.out];have:=B.app (Pl.tl W.pairs G.2);simpa using this
        ·show _<=_;have:=Q.out;simp only [a_,c_,z_] at C;omega
      case rest =>
       obtain⟨l,rfl,S,h,U,D⟩:=hcut;obtain⟨v0,v1,v2,f0,f1,f2,s1,s2,s3⟩:=FA S;have x0:=(h.cell (p:=⟨wb,0,none⟩) H).trans (aA I.blk 0);have x3:=(h.cell (p:=⟨g,j*6+3,none⟩) z).trans HD.1;have x4:=(h.cell (p:=⟨g,j*6+3+1,none⟩) z).trans HD.2.1;have x5:=(h.cell (p:=⟨g,j*6+3+2,none⟩) z).trans HD.2.2;have bi:World.cell? _ ⟨R,1,none⟩=some (Value.int .i64 (j:Int)):=v1;clear c0 y0 y1 y2 aw ar e0 e1 v1;go_wp2_with fail
       go_region
       all_goals
        go_wp2_with fail
        go_roundw
        case rel =>
         refine⟨l,G.2,rfl,?_,?_,ah.2,t_ O.2 ai,U,D⟩
         ·exact aD (aD (aD S 0 _) 1 _) 2 _
         ·exact(bO (bO (bO h K _ _) K _ _) K _ _).drew
        case measure =>rw [t6 F.out];refine Nat.lt_of_le_of_lt (Nat.le_of_eq (t6 (v:=G.2) (T:=TV) (aD (aD (aD S 0 _) 1 _) 2 _))) ?_;have:=O.2;show Pl.B7 G.2<j+1;omega
     ·rcases YD a with rfl | ⟨aj,bj,bk⟩
      ·have V:=h_ A;have e0:wr.cell? ⟨R,0,none⟩=some (.string ⟨#[101,109,112,116,121]⟩):=r0;clear r0 N r2;go_wp2_with fail;go_ret;exact⟨k,c++[41],rfl,V,by simp only [a_,c_,z_];omega⟩
      ·have ax:Hid (Pl.tl W.pairs a=[32,46,32]++Pl.text W.pairs a++[41]):=Pl.QF _ _ ag aj;have k3:(⟨c.toArray⟩:ByteArray)++⟨#[32,46,32]⟩=⟨(c++[32,46,32]).toArray⟩:=c7 c [32,46,32];have Q:=h_ t;have x:=h_ (HW.later k);clear ag aj;have ay:Hid (bT a=.agg #[.string ⟨(vK a).toArray⟩,.int .i64 (vN a),.string ⟨(vS a).toArray⟩]):=rfl;clear F;generalize vK a=kk at *;generalize vN a=nn at *;generalize vS a=ss at *;go_wp2_with fail;rw [<- ay.out];refine(HT _ a (c++[32,46,32]) x (HG.below k) L ae (by simp;omega)).mono ?_;rintro e w5 ⟨y,l,rfl,B,C⟩;have h:=h_ (k.trans (y.mono k.size));have U:Hid (Pl.Q (l++[41]) (s++Pl.text W.pairs (.pair i))):=show Pl.Q _ _ from by refine Pl.Q.trans ?_ A;rw [ax.out];have:=B.app [41];simpa using this
       have D:Hid (l.length<=700+n):=show _<=_ from by have:=Q.out;simp only [a_,c_,z_] at C;omega
       have bl:=D.out;have kr:(⟨l.toArray⟩:ByteArray)++⟨#[41]⟩=⟨(l++[41]).toArray⟩:=c7 l [41];clear y B C;go_wp2_with fail;go_ret;exact⟨h,l++[41],rfl,U,by have:=D.out;simp only [a_,c_,z_];omega⟩
    ·have au:decide ((c.length:Int)<=200)=false:=by simp;omega
     have V:Hid (Pl.Q (c++[41]) (s++Pl.text W.pairs (.pair i))):=(Pl.Q.long [41] _ (by omega)).trans A;clear F;generalize vK a=kk at *;go_wp2_with fail
     all_goals
      go_ret;exact⟨k,c++[41],rfl,V,by simp only [a_,c_,z_];omega⟩
theorem lF(d:AY)(wb:Nat)(M:Nat->Prop)(W:PW)(j:L2 W):∀n,n<=1000000000->OO wb M W n
 | 0,_=>by
  intro w v s k a b f g;by_cases c:s.length<=200
  ·refine fU d wb M W 0 w v s a b c (fun i e=>?_);subst e;simp [Pl.B7] at f
  ·exact IT wb W 0 w v s (by omega) g
 | n+1,l=>by
  intro w v s k a b f g;by_cases c:s.length<=200
  ·rcases iK v with⟨i,rfl⟩ | ⟨h,_⟩
   ·exact lE wb M W n (lF d wb M W j n (by omega)) j w i s k a b (by simpa [Pl.B7] using f) c (by omega)
   ·exact fU d wb M W (n+1) w v s a b c h
  ·exact IT wb W (n+1) w v s (by omega) g
theorem oA(r:AE)(k:Nat):(⟨r.toArray⟩:ByteArray).extract 0 k=⟨(r.take k).toArray⟩:=by apply ByteArray.ext;simp [ByteArray.data_extract]
theorem uE(w:World)(r:AE)(f:r.length<=100000000000) :Calls prog 84 #[.string ⟨r.toArray⟩] w fun e d=>e=.returned (.string ⟨(Pl.cut r).toArray⟩)/\w=d:=by
 by_cases c:200<r.length
 ·have a:Hid (Pl.cut r=r.take 200++[46,46]):=show Pl.cut r=_ from by unfold Pl.cut;rw [if_pos c]
  have b:(200:Int)<(r.length:Int):=by omega
  go_enter func84,ntmps84
  go_wp2_with fail
  go_ret;refine⟨?_,rfl⟩;rw [a.out];exact dZ (by rw [oA];exact c7 _ [46,46])
 ·have a:Hid (Pl.cut r=r):=show Pl.cut r=_ from by unfold Pl.cut;rw [if_neg c]
  have b:decide ((200:Int)<(r.length:Int))=false:=by simp;omega
  go_enter func84,ntmps84
  go_wp2_with fail
  go_ret;exact⟨by rw [a.out];rfl,rfl⟩
def aJ:Obj:=.cells #[.string ⟨#[43]⟩,.string ⟨#[45]⟩,.string ⟨#[42]⟩,.string ⟨#[60]⟩,.string ⟨#[61]⟩,.string ⟨#[99,111,110,115]⟩,.string ⟨#[99,97,114]⟩,.string ⟨#[99,100,114]⟩,.string ⟨#[110,117,108,108,63]⟩,.string ⟨#[112,97,105,114,63]⟩,.string ⟨#[101,113,63]⟩,.string ⟨#[100,105,115,112,108,97,121]⟩,.string ⟨#[99,97,108,108,47,99,99]⟩] 9
def aH:Obj:=.cells #[.int .i64 2,.int .i64 2,.int .i64 2,.int .i64 2,.int .i64 2,.int .i64 2,.int .i64 1,.int .i64 1,.int .i64 1,.int .i64 1,.int .i64 2,.int .i64 1,.int .i64 1] 3
theorem bQ(w:World) :Calls prog 76 #[] w fun e a=>e=.returned (.tuple #[.slice (some ⟨w.heap.size,0,none⟩) 13 13,.slice (some ⟨w.heap.size+1,0,none⟩) 13 13])/\(w.alloc aJ).alloc aH=a:=by
 go_enter func76,ntmps76
 go_wp2_with fail
 go_ret2;exact⟨rfl,rfl⟩
theorem EV.MP{wb:Nat}{W:PW}{pv qv cv lv gv:Value}{qs cs:List Value}(h:EV w wb W pv qv cv lv gv qs cs)(t:AE)(g:t.length<=1000) :EV (w.setCell ⟨wb,5,none⟩ (AM t)) wb {W with out:=t} pv qv cv lv gv qs cs/\Stp (CQ wb [pv,qv,cv,lv,gv]) w (CQ wb [pv,qv,cv,lv,gv]) (w.setCell ⟨wb,5,none⟩ (AM t)):=by
 have b:=dJ (Below.refl w.heap.size w) (row:=none) ⟨rfl,rfl,rfl,n_,fun _ _ _=>rfl⟩ (wb:=wb) 5 (AM t);have a:∀k,(none:Option Nat)=some k->∃c,w.heap[k]?=some (.cells c JL (0,0)):=fun k e=>by cases e
 have f:Stp (CQ wb [pv,qv,cv,lv,gv]) w (CQ wb [pv,qv,cv,lv,gv]) (w.setCell ⟨wb,5,none⟩ (AM t)):=b.AQ (fun k e=>by cases e) (fun _ _ h=>h);exact⟨h.upd f (by rw [aD h.blk];rfl) (aL h.pr b h.blk a (by decide) (by decide)) (aL h.pc b h.blk a (by decide) (by decide)) (aL h.cn b h.blk a (by decide) (by decide)) (aL h.pl b h.blk a (by decide) (by decide)) (aL h.gl b h.blk a (by decide) (by decide)) g (fun i p d=>.inl ⟨d,rfl,rfl⟩) (fun i j d=>.inl ⟨d,rfl⟩),f⟩
end
end Go.Proofs.YtkgbdddkcjpgfaaGreatDoor
