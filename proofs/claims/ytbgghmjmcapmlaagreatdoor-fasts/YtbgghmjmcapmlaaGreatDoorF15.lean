import Derived.Test.YtbgghmjmcapmlaaGreatDoorF11
namespace Go.Proofs.YtbgghmjmcapmlaaGreatDoor
set_option maxHeartbeats 8000000
set_option maxRecDepth 100000
open Go.Proofs.Tryz
open Pl (PV PW PS PF SR AE Env arity AO AH BR C8 DN DY DW)
section
open Go.RowKit
variable {w w' w0:World} {n wb k:Nat} {W:PW} {pv qv cv lv gv v lv':Value} {qs cs xs:List Value} {l:List PV} {T:TypeId} {s:AE}
theorem bO{X:World}{R:Nat}(a:Q3 w X)(c:w.heap.size<=R)(o:Nat)(v:Value):Q3 w (X.setCell ⟨R,o,none⟩ v) :=⟨a.os,a.tape,a.output,by have:=a.size;simp [World.setCell];omega,fun k b=>by rw [Below.heap_setCell _ _ _ _ (fun e=>by simp at e;omega)];exact a.block k b⟩
theorem iK(v:PV):(∃i,v=.pair i)\/((∀i,v≠.pair i)/\(vK v==[112,97,105,114])=false):=by
 cases v with
 | pair i=>exact .inl ⟨i,rfl⟩
 | _=>exact .inr ⟨fun i h=>(by cases h),rfl⟩
theorem YD(v:PV):v=.empty\/(v≠.empty/\(vK v==[101,109,112,116,121])=false/\(vK v !=[101,109,112,116,121])=true):=by
 cases v with
 | empty=>exact .inl rfl
 | _=>exact .inr ⟨fun h=>(by cases h),rfl,rfl⟩
def rkAt(w:World)(R:Nat):Nat:=match w.cell? ⟨R,0,none⟩,w.cell? ⟨R,1,none⟩ with
 | some (.string k),some (.int _ m)=>if k.data.toList=pI then m.toNat+1 else 0
 | _,_=>0
theorem t6{R:Nat}{v:PV}(h:w.heap[R]?=some (.cells #[AM (vK v),Q1 (vN v),AM (vS v)] T (0,0))):rkAt w R=Pl.B7 v:=by
 unfold rkAt;rw [aA h 0,aA h 1]
 cases v with
 | pair i=>simp [AM,vK,vN,Pl.B7,pI]
 | _=>rfl
theorem lE(wb:Nat)(M:Q5)(W:PW)(n:Nat)(hT:OO wb M W n)(X:L2 W)(w:World)(i:Nat)(s:AE)(hW:RW w wb M W)(hG:Gs w M)(hv:BL W (.pair i))(hi:i<=n)(hs:s.length<=200)(hn:n<=1000000000) :Q2 30 #[Q0 wb,bT (.pair i),.string ⟨s.toArray⟩] w fun e w'=>IC W (.pair i) s (n+1) w e w':=by
 have HT:=h_ hT;have HP:=h_ X;have HG:=h_ hG;have HW:=h_ hW;obtain⟨p,Y⟩:∃p,W.pairs[i]?=some p:=⟨_,g_ hv⟩
 have HX:=h_ (Pl.JO X.KV Y);have HV:=h_ (X.CH i p Y);have HR:=h_ (X.KV i p Y);have bb:=X.len;have m:Hid (∀o:Obj,Q3 w (w.alloc o)):=fun o=>b_;obtain⟨pv,qv,cv,lv,gv,qs,cs,hM,q⟩:=hW;obtain⟨g,Z,rfl,az,z,d0,d1,d2,d3,d4,d5⟩:=yB q Y;have c0:w.cell? ⟨wb,0,none⟩=some (.slice (some ⟨g,0,none⟩) W.pairs.length Z):=aA q.blk 0;have H:=aB q.blk;have bc:decide ((200:Int)<(s.length:Int))=false:=by simp;omega
 have bd:(i:Int)<(W.pairs.length:Int):=by have:i<W.pairs.length:=hv;omega
 have aa:(⟨s.toArray⟩:Q8)++⟨#[40]⟩=⟨(s++[40]).toArray⟩:=c7 s [40];have q1:∀(o:Obj)(b d:Nat),b<w.heap.size->(w.alloc o).cell? ⟨b,d,none⟩=w.cell? ⟨b,d,none⟩:=fun o b d hb=>(m o).cell (p:=⟨b,d,none⟩) hb;have HL:=h_ hs;have HM:=h_ hM;have I:=h_ q;clear hT X hG hv Y hM q;unfold bT AM vK vN vS pI;go_enter func30,ntmps30
 go_upto_region 21 with fail
 go_cut [2] (fun s2 E=>∃J:AE,s2=.string ⟨J.toArray⟩/\E.cell? ⟨w.heap.size,1,none⟩=some (Q1 i)/\Hid (Q3 w E)/\Hid (Pl.Q (J++Pl.tl W.pairs p.2) (s++Pl.text W.pairs (.pair i)))/\Hid (J.length<=700+n))
 case first =>
  go_region_with (go_at_call 30;refine(HT _ p.1 (s++[40]) (RW.later HW (m _).drew) (HG.below (m _).drew) HV.1 (t_ HR.1 hi) r7).mono ?_;rintro e w1 ⟨ab,J,rfl,ak,al⟩)
  all_goals
   go_wp2_with fail
   go_meet
   refine⟨J,rfl,(ab.cell (p:=⟨w.heap.size,1,none⟩) w9).trans (aA (heap_alloc_new w _) 1),(m _).drew.trans (ab.mono (m _).size),?_,?_⟩
   ·show Pl.Q _ _;rw [HX.out];have:=ak.app (Pl.tl W.pairs p.2);simpa using this
   ·show _<=_;have:=HL.out;simp only [a_,c_,z_] at al;omega
 case rest =>
  obtain⟨J,rfl,x1,f,HQ,am⟩:=hcut;have r:=f.size;have an:g<wc.heap.size:=by omega
  have ac:wb<wc.heap.size:=by omega
  have ad:w.heap.size<wc.heap.size:=World.block_lt_of_cell? _ _ x1;have y0:=(f.cell (p:=⟨wb,0,none⟩) H).trans c0;have y3:=(f.cell (p:=⟨g,i*6+3,none⟩) z).trans d3;have y4:=(f.cell (p:=⟨g,i*6+3+1,none⟩) z).trans d4;have y5:=(f.cell (p:=⟨g,i*6+3+2,none⟩) z).trans d5;have qA:∀(o:Obj)(b d:Nat),b<wc.heap.size->(wc.alloc o).cell? ⟨b,d,none⟩=wc.cell? ⟨b,d,none⟩:=fun o b d hb=>(r_.alloc n_ o).cell (p:=⟨b,d,none⟩) hb;clear c0 d0 d1 d2 d3 d4 d5 aa q1
  go_upto_region 22 with fail
  go_cut [7] (fun p7 E=>∃R:Nat,p7=(Q0 R)/\w.heap.size<=R/\Hid (E.heap[R]?=some (.cells #[AM (vK p.2),Q1 (vN p.2),AM (vS p.2)] TV (0,0)))/\Hid (Q3 w E))
  case first =>
   go_region
   all_goals
    go_wp2_with fail
    go_meet
    exact⟨wc.heap.size,rfl,r,heap_alloc_new wc _,(f.alloc r _).drew⟩
  case rest =>
   obtain⟨R,rfl,K,ao,ap⟩:=hcut;clear x1 y0 y3 y4 y5 qA an ac ad r f;go_wp2_with fail
   go_loopw [2] (fun sv wr=>∃(c:AE)(a:PV),sv=.string ⟨c.toArray⟩/\Hid (wr.heap[R]?=some (.cells #[AM (vK a),Q1 (vN a),AM (vS a)] TV (0,0)))/\Hid (Q3 w wr)/\Hid (BL W a)/\Hid (Pl.B7 a<=n)/\Hid (Pl.Q (c++Pl.tl W.pairs a) (s++Pl.text W.pairs (.pair i)))/\Hid (c.length<=700+n)) (fun _ wr=>rkAt wr R)
   case atStart=>exact⟨J,p.2,rfl,ao,ap,HV.2,t_ HR.2 hi,HQ,am⟩
   case round =>
    obtain⟨c,a,rfl,F,k,L,ae,A,aq⟩:=hrel;have be:=aq.out;have af:=aB F;have r0:wr.cell? ⟨R,0,none⟩=some (.string ⟨(vK a).toArray⟩):=aA F 0;have N:wr.cell? ⟨R,1,none⟩=some (Q1 (vN a)):=aA F 1;have r2:wr.cell? ⟨R,2,none⟩=some (.string ⟨(vS a).toArray⟩):=aA F 2;have ar:(⟨c.toArray⟩:Q8)++⟨#[41]⟩=⟨(c++[41]).toArray⟩:=c7 c [41];by_cases t:c.length<=200
    ·have au:decide ((c.length:Int)<=200)=true:=by simp;omega
     rcases iK a with⟨j,rfl⟩ | ⟨ag,bf⟩
     ·obtain⟨G,u⟩:∃p,W.pairs[j]?=some p:=⟨_,g_ L⟩
      have bg:(j:Int)<(W.pairs.length:Int):=by have:j<W.pairs.length:=L.out;omega
      have ah:=h_ (HP.CH j G u);have O:=h_ (HP.KV j G u);have av:=h_ (Pl.MK HP.KV u);have ai:Hid (j<=n):=by have:=ae.out;simp only [Pl.B7] at this;show j<=n;omega
      have x:=h_ (HW.later k);obtain⟨g',ba,e',P,bh,d0,d1,d2,d3,d4,d5⟩:=yB I u;simp only [Value.slice.injEq,o_,Addr.mk.injEq,and_true,true_and] at e';obtain⟨rfl,rfl⟩:=e';have c0:wr.cell? ⟨wb,0,none⟩=some (.slice (some ⟨g,0,none⟩) W.pairs.length Z):=(k.cell (p:=⟨wb,0,none⟩) H).trans (aA I.blk 0);have y0:=(k.cell (p:=⟨g,j*6,none⟩) z).trans d0;have y1:=(k.cell (p:=⟨g,j*6+1,none⟩) z).trans d1;have y2:=(k.cell (p:=⟨g,j*6+2,none⟩) z).trans d2;have HD:=h_ (And.intro d3 (And.intro d4 d5));have aw:(⟨c.toArray⟩:Q8)++⟨#[32]⟩=⟨(c++[32]).toArray⟩:=c7 c [32];have Q:=h_ t;have e0:wr.cell? ⟨R,0,none⟩=some (.string ⟨#[112,97,105,114]⟩):=r0;have e1:wr.cell? ⟨R,1,none⟩=some (Q1 j):=N;clear u d0 d1 d2 d3 d4 d5 P r0 N r2
      go_upto_region 25 with fail
      go_cut [2] (fun s2 E=>∃l:AE,s2=.string ⟨l.toArray⟩/\Hid (E.heap[R]?=some (.cells #[AM (vK (.pair j)),Q1 (vN (.pair j)),AM (vS (.pair j))] TV (0,0)))/\Hid (Q3 w E)/\Hid (Pl.Q (l++Pl.tl W.pairs G.2) (s++Pl.text W.pairs (.pair i)))/\Hid (l.length<=700+n))
      case first =>
       go_region_with (go_at_call 30;refine(HT _ G.1 (c++[32]) (RW.later x (r_.drew)) ((HG.below k).below (r_.drew)) ah.1 (t_ O.1 ai) r7).mono ?_;rintro e w5 ⟨y,l,rfl,B,C⟩)
       all_goals
        go_wp2_with fail
        go_meet
        refine⟨l,rfl,(y.block _ (by simpa using af)).trans F,k.trans ((Below.trans (r_.drew) y).mono k.size),?_,?_⟩
        ·show Pl.Q _ _;refine Pl.Q.trans ?_ A;rw [av.out];have:=B.app (Pl.tl W.pairs G.2);simpa using this
        ·show _<=_;have:=Q.out;simp only [a_,c_,z_] at C;omega
      case rest =>
       obtain⟨l,rfl,S,h,U,D⟩:=hcut;obtain⟨v0,v1,v2,f0,f1,f2,s1,s2,s3⟩:=FA S;have x0:=(h.cell (p:=⟨wb,0,none⟩) H).trans (aA I.blk 0);have x3:=(h.cell (p:=⟨g,j*6+3,none⟩) z).trans HD.1;have x4:=(h.cell (p:=⟨g,j*6+3+1,none⟩) z).trans HD.2.1;have x5:=(h.cell (p:=⟨g,j*6+3+2,none⟩) z).trans HD.2.2;have bi:World.cell? _ ⟨R,1,none⟩=some (Value.int .i64 (j:Int)):=v1;clear c0 y0 y1 y2 aw ar e0 e1 v1;go_wp2_with fail
       go_region
       all_goals
        go_wp2_with fail
        go_roundw
        case rel =>
         refine⟨l,G.2,rfl,?_,?_,ah.2,t_ O.2 ai,U,D⟩
         ·exact aD (aD (aD S 0 _) 1 _) 2 _
         ·exact(bO (bO (bO h K _ _) K _ _) K _ _).drew
        case measure =>rw [t6 F.out];refine Nat.lt_of_le_of_lt (Nat.le_of_eq (t6 (v:=G.2) (T:=TV) (aD (aD (aD S 0 _) 1 _) 2 _))) ?_;have:=O.2;show Pl.B7 G.2<j+1;omega
     ·rcases YD a with rfl | ⟨aj,bj,bk⟩
      ·have V:=h_ A;have e0:wr.cell? ⟨R,0,none⟩=some (.string ⟨#[101,109,112,116,121]⟩):=r0;clear r0 N r2;go_wp2_with fail;go_ret;exact⟨k,c++[41],rfl,V,by simp only [a_,c_,z_];omega⟩
      ·have ax:Hid (Pl.tl W.pairs a=[32,46,32]++Pl.text W.pairs a++[41]):=Pl.QF _ _ ag aj;have k3:(⟨c.toArray⟩:Q8)++⟨#[32,46,32]⟩=⟨(c++[32,46,32]).toArray⟩:=c7 c [32,46,32];have Q:=h_ t;have x:=h_ (HW.later k);clear ag aj;have ay:Hid (bT a=.agg #[.string ⟨(vK a).toArray⟩,Q1 (vN a),.string ⟨(vS a).toArray⟩]):=rfl;clear F;generalize vK a=kk at *;generalize vN a=nn at *;generalize vS a=ss at *;go_wp2_with fail;rw [<- ay.out];refine(HT _ a (c++[32,46,32]) x (HG.below k) L ae r7).mono ?_;rintro e w5 ⟨y,l,rfl,B,C⟩;have h:=h_ (k.trans (y.mono k.size));have U:Hid (Pl.Q (l++[41]) (s++Pl.text W.pairs (.pair i))):=show Pl.Q _ _ from by refine Pl.Q.trans ?_ A;rw [ax.out];have:=B.app [41];simpa using this
       have D:Hid (l.length<=700+n):=show _<=_ from by have:=Q.out;simp only [a_,c_,z_] at C;omega
       have bl:=D.out;have kr:(⟨l.toArray⟩:Q8)++⟨#[41]⟩=⟨(l++[41]).toArray⟩:=c7 l [41];clear y B C;go_wp2_with fail;go_ret;exact⟨h,l++[41],rfl,U,by have:=D.out;simp only [a_,c_,z_];omega⟩
    ·have au:decide ((c.length:Int)<=200)=false:=by simp;omega
     have V:Hid (Pl.Q (c++[41]) (s++Pl.text W.pairs (.pair i))):=(Pl.Q.long [41] _ x8).trans A;clear F;generalize vK a=kk at *;go_wp2_with fail
     all_goals
      go_ret;exact⟨k,c++[41],rfl,V,by simp only [a_,c_,z_];omega⟩
theorem lF(d:AY)(wb:Nat)(M:Q5)(W:PW)(j:L2 W):∀n,n<=1000000000->OO wb M W n
 | 0,_=>by
  intro w v s k a b f g;by_cases c:s.length<=200
  ·refine fU d wb M W 0 w v s a b c (fun i e=>?_);subst e;simp [Pl.B7] at f
  ·exact fT wb W 0 w v s x8 g
 | n+1,l=>by
  intro w v s k a b f g;by_cases c:s.length<=200
  ·rcases iK v with⟨i,rfl⟩ | ⟨h,_⟩
   ·exact lE wb M W n (lF d wb M W j n x8) j w i s k a b (by simpa [Pl.B7] using f) c x8
   ·exact fU d wb M W (n+1) w v s a b c h
  ·exact fT wb W (n+1) w v s x8 g
theorem oA(r:AE)(k:Nat):(⟨r.toArray⟩:Q8).extract 0 k=⟨(r.take k).toArray⟩:=by apply ByteArray.ext;simp [ByteArray.data_extract]
theorem uE(w:World)(r:AE)(f:r.length<=100000000000) :Q2 29 #[.string ⟨r.toArray⟩] w fun e d=>e=.returned (.string ⟨(Pl.cut r).toArray⟩)/\w=d:=by
 by_cases c:200<r.length
 ·have a:Hid (Pl.cut r=r.take 200++[46,46]):=show Pl.cut r=_ from by unfold Pl.cut;rw [if_pos c]
  have b:(200:Int)<(r.length:Int):=by omega
  go_enter func29,ntmps29
  go_wp2_with fail
  go_ret;refine⟨?_,rfl⟩;rw [a.out];exact dZ (by rw [oA];exact c7 _ [46,46])
 ·have a:Hid (Pl.cut r=r):=show Pl.cut r=_ from by unfold Pl.cut;rw [if_neg c]
  have b:decide ((200:Int)<(r.length:Int))=false:=by simp;omega
  go_enter func29,ntmps29
  go_wp2_with fail
  go_ret;exact⟨by rw [a.out];rfl,rfl⟩
def aJ:Obj:=.cells #[.string ⟨#[43]⟩,.string ⟨#[45]⟩,.string ⟨#[42]⟩,.string ⟨#[60]⟩,.string ⟨#[61]⟩,.string ⟨#[99,111,110,115]⟩,.string ⟨#[99,97,114]⟩,.string ⟨#[99,100,114]⟩,.string ⟨#[110,117,108,108,63]⟩,.string ⟨#[112,97,105,114,63]⟩,.string ⟨#[101,113,63]⟩,.string ⟨#[100,105,115,112,108,97,121]⟩,.string ⟨#[99,97,108,108,47,99,99]⟩] 9
def aH:Obj:=.cells #[Q1 2,Q1 2,Q1 2,Q1 2,Q1 2,Q1 2,Q1 1,Q1 1,Q1 1,Q1 1,Q1 2,Q1 1,Q1 1] 3
theorem bQ(w:World) :Q2 19 #[] w fun e a=>e=.returned (.tuple #[.slice (some ⟨w.heap.size,0,none⟩) 13 13,.slice (some ⟨w.heap.size+1,0,none⟩) 13 13])/\(w.alloc aJ).alloc aH=a:=by
 go_enter func19,ntmps19
 go_wp2_with fail
 go_ret2;exact⟨rfl,rfl⟩
theorem EV.MP(h:EV w wb W pv qv cv lv gv qs cs)(t:AE)(g:t.length<=1000) :EV (w.setCell ⟨wb,5,none⟩ (AM t)) wb {W with out:=t} pv qv cv lv gv qs cs/\Stp (CQ wb [pv,qv,cv,lv,gv]) w (CQ wb [pv,qv,cv,lv,gv]) (w.setCell ⟨wb,5,none⟩ (AM t)):=by
 have b:=dJ (Below.refl w.heap.size w) (row:=none) ⟨rfl,rfl,rfl,n_,fun _ _ _=>rfl⟩ (wb:=wb) 5 (AM t);have a:∀k,(none:Option Nat)=some k->∃c,w.heap[k]?=some (.cells c JL (0,0)):=fun k e=>by cases e
 have f:Stp (CQ wb [pv,qv,cv,lv,gv]) w (CQ wb [pv,qv,cv,lv,gv]) (w.setCell ⟨wb,5,none⟩ (AM t)):=b.AQ (fun k e=>by cases e) (fun _ _ h=>h);exact⟨h.upd f (by rw [aD h.blk];rfl) (aL h.pr b h.blk a w8 w8) (aL h.pc b h.blk a w8 w8) (aL h.cn b h.blk a w8 w8) (aL h.pl b h.blk a w8 w8) (aL h.gl b h.blk a w8 w8) g (fun i p d=>.inl ⟨d,rfl,rfl⟩) (fun i j d=>.inl ⟨d,rfl⟩),f⟩
theorem mZ(g w:World)(wb:Nat)(M:Q5)(W:PW)(x y:PV)(h:RW g wb M W)(d:Q3 g w)(hn:W.pairs.length<=1000000000) :Q2 56 #[Q0 wb,bT x,bT y] w fun e u=>e=.returned (bT (.pair W.pairs.length))/\∃z,RW u wb z {W with pairs:=W.pairs++[(x,y)]}/\Stp M g z u/\∀(R:Nat)(j:Array Value),g.heap.size<=R->w.heap[R]?=some (.cells j TV (0,0))->u.heap[R]?=some (.cells j TV (0,0))/\∀A,u.grownBy A (some R)->RW A wb z {W with pairs:=W.pairs++[(x,y)]}/\Stp M g z A:=by
 obtain⟨i0,D,E,F,G⟩:=info_parts Tryz.TW;obtain⟨B,I,J,K,L,qs,cs,rfl,h⟩:=h;have H:=h_ h;have n:Hid (EV w wb W B I J K L qs cs):=h.later (fun k hk=>d.block k hk) (Stp.AA d);have U:=aB h.blk;have p:=aB n.blk;have c3:w.cell? ⟨wb,0,none⟩=some B:=aA n.blk 0;have N:=h_ d;have O:=d.size;have a3:=fun C P Q=>(YW (o:=0) p C P Q C).1;have a4:=fun C P Q o4=>(YW (o:=0) p C P Q o4).2.1;clear h d;unfold bT AM;go_enter func56,ntmps56;go_wp2_with fail
 go_region_law ((refine step_append_lies _ m6 _ _ _ m6 0 139 i0 _ 6 80 underlying49 D E F G rfl x8 B W.pairs.length (W.pairs.flatMap mG) m6 (((((n.pr.alloc _).alloc _).alloc _).alloc _).drew) ⟨w.heap.size+3,0,none⟩ 1 1 (mG (x,y)) m6 m6 (World.news_of_block (cs:=#[AM (vK x),Q1 (vN x),AM (vS x),AM (vK y),Q1 (vN y),AM (vS y)]) (t:=139) (fr:=(0,0)) (B_ w _ _ _ _ _)) (by simp [Value.oneCell',cZ,mG,AM]) x8 o6 x8 w9 (w.heap.size+4) w9 ?_;intro i b V f a c q;obtain⟨k1,k2,Y⟩:=fD n.blk (jU w _ _ _ _) a (aN n.pr) w8 0 B rfl))
 all_goals
  have Z:=tV (wb:=wb) (wO a (new3 w _ _ _ _ _) (fun e=>by have:=(H.pr.lt _ e).2;omega)) (show w.heap.size+2≠wb from by omega) 0 (.slice (some ⟨i,0,none⟩) (W.pairs.length+1) b);obtain⟨q1,q2⟩:=H.O4 (N.trans ((jU w _ _ _ _).mono O)) a _ (x,y) f (tH c x8)
  have hm:¬CQ wb [.slice (some ⟨i,0,none⟩) (W.pairs.length+1) b,I,J,K,L] (w.heap.size+2):=jM H (sl:=.slice (some ⟨i,0,none⟩) (W.pairs.length+1) b) zL8 x8 (by
   rcases c with e | rfl
   ·have:=(H.pr.lt _ e).2;simp [Value.ownBlock];omega
   ·simp [Value.ownBlock])
  have s:Hid (∀R,g.heap.size<=R->R<w.heap.size->(V.setCell ⟨wb,0,none⟩ (.slice (some ⟨i,0,none⟩) (W.pairs.length+1) b)).heap[R]?=w.heap[R]?):=by intro R l m;rw [Below.heap_setCell _ _ _ _ (fun e=>by simp at e;omega),a.block R r7 (fun e=>by have:=(H.pr.lt _ e.symm).2;omega)];exact(jU w _ _ _ _).block R m
  have S:Hid (∀R,g.heap.size<=R->R<w.heap.size->¬CQ wb [.slice (some ⟨i,0,none⟩) (W.pairs.length+1) b,I,J,K,L] R):=fun R l m=>jM H (sl:=.slice (some ⟨i,0,none⟩) (W.pairs.length+1) b) zL8 l (by
   rcases c with e | rfl
   ·have:=(H.pr.lt _ e).2;simp [Value.ownBlock];omega
   ·simp [Value.ownBlock];omega)
  have HM:=h_ hm;have Q1:=h_ q1;have Q2:=h_ q2;have k4:=Y (.slice (some ⟨i,0,none⟩) (W.pairs.length+1) b);clear q1 q2 f a c q hm k1 k2 Y;generalize V.setCell ⟨wb,0,none⟩ (.slice (some ⟨i,0,none⟩) (W.pairs.length+1) b)=X at *;obtain⟨r0,r1,r2,f0,f1,f2,s1,s2,s3⟩:=FA Z;clear Z;go_wp2_with fail
  (try simp only [Exit.inBlock,Exit.then])
  refine bodyPost_ret (v:=bT (.pair W.pairs.length)) ?_ rfl ?_
  ·rw [aO rfl];simp only [bT,AM,vK,vN,vS,pI]
   go_simp
  ·obtain⟨z1,z2⟩:=H.after Q1 Q2 rfl rfl (grown3 X (w.heap.size+2) _ _ _) x8 HM;refine⟨rfl,_,⟨_,_,_,_,_,_,_,rfl,z1⟩,z2,fun R j l m=>⟨?_,fun A T=>?_⟩⟩
   ·have hR:=aB m;rw [(grown3 X (w.heap.size+2) _ _ _).block R ?_ r7,s.out R l hR,m];have:=s.out R l hR;rw [m] at this;exact aB this
   ·obtain⟨y1,y2⟩:=H.after z1 z2 rfl rfl T l (S R l (aB m));exact⟨⟨_,_,_,_,_,_,_,rfl,y1⟩,y2⟩
def iE:List Nat:=[2,2,2,2,2,2,1,1,1,1,2,1,1]
def DU(s:AE)(n k:Nat):Prop:=∀j,j<k->∀h:j<13,AO[j]'h=s->iE[j]'h=n
theorem DU.start(s:AE)(n:Nat):DU s n 0:=fun j a=>by omega
theorem DU.next(h:DU s n k)(a:k<13)(b:AO[k]'a=s->iE[k]'a=n):DU s n (k+1):=fun j f c e=>by
 by_cases d:j=k
 ·subst d;exact b e
 ·exact h j x8 c e
theorem jD:∀k:Nat,∀h:k<13,iE[k]'h=arity (AO[k]'h):=by decide
theorem DU.done(h:DU s n 13)(b:s∈AO):n=arity s:=by obtain⟨k,c,rfl⟩:=List.getElem_of_mem b;have a:k<13:=c;rw [<- h k a a rfl];exact jD k a
def aW:Nat->AE
 | 0=>[43]
 | 1=>[45]
 | 2=>[42]
 | 3=>[60]
 | 4=>[61]
 | 5=>[99,111,110,115]
 | 6=>[99,97,114]
 | 7=>[99,100,114]
 | 8=>[110,117,108,108,63]
 | 9=>[112,97,105,114,63]
 | 10=>[101,113,63]
 | 11=>[100,105,115,112,108,97,121]
 | 12=>[99,97,108,108,47,99,99]
 | _=>[]
def RR:Nat->Int
 | 0=>2
 | 1=>2
 | 2=>2
 | 3=>2
 | 4=>2
 | 5=>2
 | 6=>1
 | 7=>1
 | 8=>1
 | 9=>1
 | 10=>2
 | 11=>1
 | 12=>1
 | _=>0
theorem bR:∀k:Nat,∀h:k<13,AO[k]'h=aW k:=by decide
theorem U6:∀k:Nat,∀h:k<13,RR k=((iE[k]'h:Nat):Int):=by decide
theorem oD(h:k<13)(e:iE[k]'h=n):(RR k !=(n:Int))=false:=by rw [U6 k h,e];simp
theorem jW(h:k<13)(e:¬iE[k]'h=n):(RR k !=(n:Int))=true:=by rw [U6 k h];simp;omega
theorem DU.fail(a:k<13)(b:AO[k]'a=s)(c:¬iE[k]'a=n):¬n=arity s:=by subst b;rw [<- jD k a];exact fun e=>c e.symm
theorem F9.pre{M:Q5}{wA:World}{xb:Nat}{r:SR}{e:Ending}(a:Q3 w wA)(h:F9 M wA wb xb r e w'):F9 M w wb xb r e w':=by obtain⟨b,c,d,f,g⟩:=h;exact⟨b,c,d,((Stp.AA a).mx xb).trans f,g⟩
theorem fE(h:l.length=2):∃a b,l=[a,b]:=by
 match l,h with
 | [a,b],_=>exact⟨a,b,rfl⟩
theorem jK(h:l.length=1):∃a,l=[a]:=by
 match l,h with
 | [a],_=>exact⟨a,rfl⟩
theorem nullT(W:PW)(S:PS)(x:PV):AH W S (.AZ DY) [x]=⟨0,W,S.A1 (.AT (vK x==[101,109,112,116,121]))⟩:=by cases x<;>rfl
theorem pairT(W:PW)(S:PS)(x:PV):AH W S (.AZ DW) [x]=⟨0,W,S.A1 (.AT (vK x==[112,97,105,114]))⟩:=by cases x<;>rfl
theorem carT(W:PW)(S:PS)(i:Nat)(p:PV×PV)(h:W.pairs[i]?=some p):AH W S (.AZ DN) [.pair i]=⟨0,W,S.A1 p.1⟩:=by show(match W.pairs[i]? with | some p=>(⟨0,W,S.A1 (if DN=C8 then p.2 else p.1)⟩:SR) | none=>⟨9,W,S⟩)=_;rw [h];rfl
theorem cdrT(W:PW)(S:PS)(i:Nat)(p:PV×PV)(h:W.pairs[i]?=some p):AH W S (.AZ C8) [.pair i]=⟨0,W,S.A1 p.2⟩:=by show(match W.pairs[i]? with | some p=>(⟨0,W,S.A1 (if C8=C8 then p.2 else p.1)⟩:SR) | none=>⟨9,W,S⟩)=_;rw [h];rfl
theorem carN(W:PW)(S:PS)(x:PV)(h:∀i,x≠.pair i):AH W S (.AZ DN) [x]=⟨9,W,S⟩:=by
 cases x with
 | pair i=>exact absurd rfl (h i)
 | _=>rfl
theorem cdrN(W:PW)(S:PS)(x:PV)(h:∀i,x≠.pair i):AH W S (.AZ C8) [x]=⟨9,W,S⟩:=by
 cases x with
 | pair i=>exact absurd rfl (h i)
 | _=>rfl
theorem Z5(W:PW)(S:PS)(x y:PV)(b:Bool)(h:decide (x=y)=b):AH W S (.AZ BR) [x,y]=⟨0,W,S.A1 (.AT b)⟩:=by subst h;rfl
theorem pv_ext(x y:PV)(e:vK x=vK y)(c:vN x=vN y)(d:vS x=vS y):x=y:=by
 cases x<;>cases y<;>first
  | (simp [vK,kNu,F_,kNa,kEmp,kNot,pI,kProc,pJ,pH] at e;done)
  | rfl
  | (simp only [vN] at c;subst c;rfl)
  | (simp only [vS] at d;subst d;rfl)
  | (simp only [vN] at c;have c:=Int.ofNat.inj c;subst c;rfl)
  | (rename_i a b;cases a<;>cases b<;>first | rfl | exact absurd c w8)
theorem eZ{S:PS}(h:¬l.length=arity s):AH W S (.AZ s) l=⟨10,W,S⟩:=by unfold AH;dsimp only;rw [if_pos h]
structure NA(w0 w:World)(wb:Nat)(W:PW)(pv qv cv lv gv:Value)(qs cs:List Value)(l:List PV)(lv':Value):Prop where
 old:EV w0 wb W pv qv cv lv gv qs cs
 IV:Chg w0 w wb lv.ownBlock
 blk:w.heap[wb]?=some (.cells #[pv,qv,cv,lv',gv,AM W.out] MG (0,0))
 row:w.ownsRow 0 TV 3 lv' (W.places.length+l.length) ((W.places++l).flatMap cZ)
 at_:∀k,lv'.ownBlock=some k->lv.ownBlock=some k\/w0.heap.size<=k
theorem NA.start(h:EV w0 wb W pv qv cv lv gv qs cs)(a:Q3 w0 w):NA w0 w wb W pv qv cv lv gv qs cs [] lv:=by have c:=h.later (fun k b=>a.block k b) (Stp.AA a);exact⟨h,⟨a.os,a.tape,a.output,a.size,fun k b _ _=>a.block k b⟩,c.blk,by simpa using c.pl,fun k b=>.inl b⟩
theorem NA.grown(h:NA w0 w wb W pv qv cv lv gv qs cs l lv'){row:Option Nat}(a:w.grownBy w' row)(d:∀k,row=some k->w0.heap.size<=k/\lv'.ownBlock≠some k):NA w0 w' wb W pv qv cv lv gv qs cs l lv':=by
 have m:=aB h.old.blk;have f:=h.IV.size;refine⟨h.old,⟨a.os.trans h.IV.os,a.tape.trans h.IV.tape,a.output.trans h.IV.output,t_ f a.size,fun k n o p=>?_⟩,?_,?_,h.at_⟩
 ·rw [a.block k x8 (fun e=>by have:=(d k e.symm).1;omega)];exact h.IV.block k n o p
 ·rw [a.block wb (aB h.blk) (fun e=>by have:=(d wb e.symm).1;omega)];exact h.blk
 ·refine⟨h.row.1,?_⟩;rcases h.row.2 with q | ⟨g,i,j,rfl,r,b,c⟩
  ·exact .inl q
  ·exact .inr ⟨g,i,j,rfl,r,(a.block g (aB b) (fun e=>(d g e.symm).2 rfl)).trans b,c⟩
theorem NA.later(h:NA w0 w wb W pv qv cv lv gv qs cs l lv')(a:Q3 w w'):NA w0 w' wb W pv qv cv lv gv qs cs l lv' :=h.grown (aQ none a) (fun k e=>by cases e)
theorem NA.done(h:NA w0 w wb W pv qv cv lv gv qs cs l lv') :EV w wb {W with places:=W.places++l} pv qv cv lv' gv qs cs/\Stp (CQ wb [pv,qv,cv,lv,gv]) w0 (CQ wb [pv,qv,cv,lv',gv]) w:=by have a:=aN h.old.pl;have c:Stp (CQ wb [pv,qv,cv,lv,gv]) w0 (CQ wb [pv,qv,cv,lv',gv]) w :=h.IV.AQ (fun k e=>.inr ⟨lv,w9,e⟩) (fJ (v:=lv) (v':=lv') w9 zL9 h.at_);refine⟨h.old.upd c h.blk (aL h.old.pr h.IV h.old.blk a w8 w8) (aL h.old.pc h.IV h.old.blk a w8 w8) (aL h.old.cn h.IV h.old.blk a w8 w8) ?_ (aL h.old.gl h.IV h.old.blk a w8 w8) h.old.out (fun i p b=>.inl ⟨b,rfl,rfl⟩) (fun i f b=>.inl ⟨b,rfl⟩),c⟩;simpa using h.row
theorem rW(y w:World)(wb:Nat)(W:PW)(z A B C D:Value)(E cs:List Value)(l:List PV)(c:Value)(x:PV)(h:NA y w wb W z A B C D E cs l c)(Q:W.places.length+l.length<=1000000000) :Q2 35 #[Q0 wb,bT x] w fun e F=>e=.returned (Q1 ((W.places.length+l.length:Nat):Int))/\∃j,NA y F wb W z A B C D E cs (l++[x]) j/\w.heap.size<=F.heap.size/\(∀k,k<w.heap.size->k≠wb->c.ownBlock≠some k->F.heap[k]?=w.heap[k]?)/\(∀k,j.ownBlock=some k->c.ownBlock=some k\/w.heap.size<=k):=by
 obtain⟨R,G,I,J,K⟩:=info_parts Tryz.TU;have H:=h_ h;have L:=aB h.blk;have U:w.cell? ⟨wb,3,none⟩=some c:=aA h.blk 3;obtain⟨V,X,Y,Z⟩:=bM (o:=3) L;clear h;obtain⟨N,M⟩:∃N,N=W.places.length+l.length:=⟨_,rfl⟩
 have O:=h_ M;rw [<- M] at Q;clear M;have f:Hid (w.ownsRow 0 TV 3 c N ((W.places++l).flatMap cZ)):=show World.ownsRow _ _ _ _ _ _ _ from by rw [O.out];exact H.row
 unfold bT AM;go_enter func35,ntmps35;go_wp2_with fail
 go_region_law ((refine step_append_lies _ m6 _ _ _ m6 0 81 R _ 3 40 underlying52 G I J K rfl x8 c N ((W.places++l).flatMap cZ) m6 (((f.alloc _).alloc _).drew) ⟨w.heap.size+1,0,none⟩ 1 1 (cZ x) m6 m6 (World.news_of_block (cs:=#[AM (vK x),Q1 (vN x),AM (vS x)]) (t:=81) (fr:=(0,0)) (zN w _ _ _)) (by simp [Value.oneCell',cZ,AM]) x8 o6 x8 w9 (w.heap.size+2) w9 ?_;intro m b P g a i q;obtain⟨k1,k2,k3⟩:=fD H.blk (jV w _ _) a (aN f) w8 3 c rfl))
 all_goals
  have S:Hid (NA y (P.setCell ⟨wb,3,none⟩ (.slice (some ⟨m,0,none⟩) (N+1) b)) wb W z A B C D E cs (l++[x]) (.slice (some ⟨m,0,none⟩) (N+1) b)):=by
   have r:=mJ H.blk (jV w _ _) a (aN f) w8;have n:=dJ (jV w _ _) a (wb:=wb) 3 (.slice (some ⟨m,0,none⟩) (N+1) b);have d:=H.IV;refine⟨H.old,⟨n.os.trans d.os,n.tape.trans d.tape,n.output.trans d.output,t_ d.size n.size,fun k p u v=>?_⟩,by rw [aD r];rfl,?_,?_⟩
   ·rw [n.block k (l_ p d.size) u ?_,d.block k p u v];intro e;rcases H.at_ k e.symm with s | s
    ·exact v s.symm
    ·omega
   ·have this:World.ownsRow _ 0 TV 3 _ _ _:=fH r w8 3 (.slice (some ⟨m,0,none⟩) (N+1) b) g;rw [a_,List.length_singleton,<-Nat.add_assoc,<-O.out,<-List.append_assoc,List.flatMap_append];simpa using this
   ·intro k p;simp only [Value.ownBlock,o_] at p;subst p;rcases i with s | s
    ·exact H.at_ _ s
    ·have:=d.size;exact .inr x8
  have T:Hid (w.heap.size<=(P.setCell ⟨wb,3,none⟩ (.slice (some ⟨m,0,none⟩) (N+1) b)).heap.size/\(∀k,k<w.heap.size->k≠wb->c.ownBlock≠some k->(P.setCell ⟨wb,3,none⟩ (.slice (some ⟨m,0,none⟩) (N+1) b)).heap[k]?=w.heap[k]?)/\(∀k,Value.ownBlock (.slice (some ⟨m,0,none⟩) (N+1) b)=some k->c.ownBlock=some k\/w.heap.size<=k)):=by have n:=dJ (jV w _ _) a (wb:=wb) 3 (.slice (some ⟨m,0,none⟩) (N+1) b);exact⟨n.size,fun k p u v=>n.block k p u (fun e=>v e.symm),tH i x8⟩
  clear g a i q H f;go_wp2_with fail;go_ret;exact⟨by rw [<- O.out];go_num,_,S,T⟩
theorem iW{P:Program}(t a:TypeId)(e:TypeId)(i:TypeInfo)(b:P.underlying t=some (.slice e))(hi:P.info? e=some i)(p:Option Addr)(c:Nat) :(Builtin.append_ #[t,t] a #[.slice none 0 0,.slice p 0 c]).run P w=.ok (.slice none 0 0) w:=by cases p<;>simp [Builtin.append_,run_underlying b,sizeOf,typeInfo,hi,Builtin.lenOf,Builtin.firstCells,loadCells,loadCellsFrom]
theorem dG{P:Program}{b:Array Oper}{rest:List Oper}{o:Oper}{a:Act}{Q:Exit->Act->World->Prop}(f:o.guard=none)(s x:Operand)(t:TypeId)
  (g:o.op=.call {callee:=.builtin .append,args:=#[s,x],argTypes:=#[t,t]})
  (e:TypeId) (i:TypeInfo) (j:P.underlying t=some (.slice e)) (hi:P.info? e=some i)
  (p:Option Addr) (c:Nat) (k:a.eval s=.slice none 0 0) (l:a.eval x=.slice p 0 c)
  (h:wpList P b Q rest (a.put o.dst (.slice none 0 0)) w):wpList P b Q (o::rest) a w:=by
 refine wpList_plain f fun K m=>?_;have d:=iW (P:=P) (w:=w) t o.type e i j hi p c;unfold Oper.wp;simp [execOp,g,resolve,invoke,builtin,k,l,d,Result.andThen];exact m _ _ h
theorem RF.open_{f:PF}(h:RF w v f):∃b o a c g j l m,v=(Q0 b) /\
  w.heap[b]?=some (.cells #[AM (H5 f.k),AM f.nm,o,a,c,g,j,l] NE (0,0))/\w.ownsRow 0 LN 1 a f.ks.length m/\(∀(i:Nat)(u:Value)(x:PF),m[i]?=some u->f.ks[i]?=some x->RF w u x) /\
  w.ownsRow 0 TS 1 c f.ns.length (f.ns.map AM)/\(f.k=.const->[g,j,l]=cZ f.v)/\shape f.k f.ks.length/\f.ks.length<=1000/\f.ns.length<=1000:=by
 obtain⟨n,p⟩:=h
 cases n with
 | zero=>exact p.elim
 | succ n =>obtain⟨k,F,d,G,H,I⟩:=f;obtain⟨b,o,a,c,g,j,l,m,q,r,s,t,y,z,A,B,C⟩:=p;exact⟨b,o,a,c,g,j,l,m,q,r,s,fun i u x D E=>⟨n,t i u x D E⟩,y,fun e=>(z e).1,A,B,C⟩
theorem row1(h:w.ownsRow 0 T 1 v n xs)(j:0<n):∃g a,v=.slice (some ⟨g,0,none⟩) n a/\n<=a/\(∃b,w.heap[g]?=some (.cells b T (0,0)))/\∀(i:Nat)(u:Value),xs[i]?=some u->w.cell? ⟨g,i,none⟩=some u:=by
 rcases h.2 with⟨_,k⟩ | ⟨g,a,b,e,_,c,d,_⟩
 ·omega
 ·refine⟨g,a,e,d,⟨b,c⟩,fun i u f=>?_⟩;have:=h.cells (g:=g) zQ7 i u f
  rwa [Addr.add_lit,Nat.zero_add] at this
theorem dN{base:Nat}{sz:Nat}(h:w.ownsRow base T sz v n xs):∃b a,v=.slice b n a/\n<=a:=by
 rcases h.2 with⟨e,c⟩ | ⟨g,a,d,e,_,i,f,_⟩
 ·subst c;exact⟨none,0,e,n_⟩
 ·exact⟨_,a,e,f⟩
theorem pc_at(h:EV w wb W pv qv cv lv gv qs cs){i:Nat}{p:PF×Env}(hp:W.procs[i]?=some p):∃g b c d,qv=.slice (some ⟨g,0,none⟩) W.procs.length b/\W.procs.length<=b/\g<w.heap.size/\w.cell? ⟨g,i*2,none⟩=some c/\w.cell? ⟨g,i*2+1,none⟩=some d/\RF w c p.1/\p.1.k=.lambda/\DF (CQ wb [pv,qv,cv,lv,gv]) w d p.2:=by
 have r:=(s_ hp).1;obtain⟨c,d,f,j,k,l,m⟩:=h.pcs i p hp;rcases h.pc.2 with⟨_,s⟩ | ⟨g,b,n,e,_,o,q,_⟩
 ·omega
 ·have a:=h.pc.cells (g:=g) zQ7;refine⟨g,b,c,d,e,q,aB o,?_,?_,k,l,m⟩
  ·have:=a _ _ f;rwa [Addr.add_lit,Nat.zero_add] at this
  ·have:=a _ _ j;rwa [Addr.add_lit,Nat.zero_add] at this
theorem xO{base:Nat}{sz:Nat}(h:w.ownsRow base T sz v n xs)(e:∀k a,v.ownBlock=some k->w.heap[k]?=some (.cells a T (0,0))->w'.heap[k]?=w.heap[k]?):w'.ownsRow base T sz v n xs:=by
 refine⟨h.1,?_⟩;rcases h.2 with f | ⟨g,c,a,rfl,i,d,b⟩
 ·exact .inl f
 ·exact .inr ⟨g,c,a,rfl,i,(e g a rfl d).trans d,b⟩
theorem vM(l:List AE)(s:AE)(n:Nat):Pl.C1 (l++[s]) n=Pl.C1 l n++[(s,n+l.length)]:=by rw [Pl.NS];rfl
theorem qX(l:List AE)(n:Nat):(Pl.C1 l n).length=l.length:=by
 induction l generalizing n with
 | nil=>rfl
 | cons x l a=>simp [Pl.C1,a]
theorem wM(l:Env):(l.flatMap iM).length=l.length*2:=by
 induction l with
 | nil=>rfl
 | cons x l a=>simp only [List.flatMap_cons,a_,a,iM,c_,z_];omega
theorem procB(W:PW)(S:PS)(i:Nat)(p:PF×Env)(l:List PV)(hp:W.procs[i]?=some p):AH W S (.proc i) l=if l.length≠p.1.ns.length then⟨10,W,S⟩ else⟨0,{W with places:=W.places++l},S.work p.1.ks[0]? (p.2++Pl.C1 p.1.ns W.places.length)⟩:=by show(match W.procs[i]? with | some p=>if l.length≠p.1.ns.length then(⟨10,W,S⟩:SR) else⟨0,{W with places:=W.places++l},S.work p.1.ks[0]? (p.2++Pl.C1 p.1.ns W.places.length)⟩ | none=>⟨9,W,S⟩)=_;rw [hp]
theorem xU(w:World)(wb xb:Nat)(M:Q5)(W:PW)(S:PS)(i:Nat)(av:Value)(l:List PV)(hW:RW w wb M W)(hS:RS M w xb S)(ha:CO M w av l)(hi:i<W.procs.length)(dj:l.length<=1000)(h1:W.places.length<=100000000)(O:∀p∈W.procs,p.2.length<=100000000) :Q2 57 #[Q0 wb,Q0 xb,bT (.proc i),av] w fun e w'=>F9 M w wb xb (AH W S (.proc i) l) e w':=by
 obtain⟨i0,ab,ay,az,ba⟩:=info_parts Tryz.G_;obtain⟨p,hp⟩:∃p,W.procs[i]?=some p:=⟨_,g_ hi⟩
 have HE:=h_ (procB W S i p l hp);have dk:=O p (q_ hp);have HW:=h_ hW;have HS:=h_ hS;have HA:=h_ ha;obtain⟨pv,qv,cv,lv,gv,qs,cs,hM,J⟩:=hW;obtain⟨gq,q,fv,ev,rfl,dl,dm,ca,cb,hF,V,ac⟩:=pc_at J hp;obtain⟨b,dv,kv,nv,c0,c1,c2,us,rfl,hb,bc,bd,ad,_,ae,dn,dp⟩:=hF.open_;rw [V] at ae;have af:p.1.ks.length=1:=ae;obtain⟨ea,m,rfl,dq⟩:=ac.shape;obtain⟨aa,dc,rfl,dr⟩:=ha.shape;obtain⟨na,X,rfl,ds⟩:=dN ad;have HF:=h_ hF;have cc:=h_ ac;have be:=h_ J;have HM:=h_ hM;have cd:=h_ ad;have ce:=h_ bd;have bf:=h_ bc;have ag:=h_ hb;have dt:=aB J.blk;have ah:=aB hb;have q1:w.cell? ⟨wb,1,none⟩=some (.slice (some ⟨gq,0,none⟩) W.procs.length q):=aA J.blk 1;have f4:w.cell? ⟨b,4,none⟩=some (.slice na p.1.ns.length X):=aA hb 4;have du:(i:Int)<(W.procs.length:Int):=by omega
 have qA:∀(o:Obj)(k d:Nat),k<w.heap.size->(w.alloc o).cell? ⟨k,d,none⟩=w.cell? ⟨k,d,none⟩:=fun o k d N=>(r_.alloc n_ o).cell (p:=⟨k,d,none⟩) N;have qB:∀(o o2:Obj)(k d:Nat),k<w.heap.size->((w.alloc o).alloc o2).cell? ⟨k,d,none⟩=w.cell? ⟨k,d,none⟩:=fun o o2 k d N=>((r_.alloc n_ o).alloc w9 o2).cell (p:=⟨k,d,none⟩) N;clear hp hS ha hM J hF ac hb bc bd ad hi O ae V;unfold bT AM vK vN vS kProc;go_enter func57,ntmps57;go_wp2_with fail
 go_upto_region 3 with fail
 go_cut [9] (fun p9 wx=>p9=(Q0 (w.heap.size+1))/\Hid (Q3 w wx)/\Hid (wx.heap[w.heap.size+1]?=some (.cells #[Q0 b,.slice ea p.2.length m] VQ (0,0))))
 case first =>
  go_region
  all_goals
   go_wp2_with fail
   go_meet
   exact⟨rfl,jV w _ _,zN w _ _ _⟩
 case rest =>
  obtain⟨rfl,y,G⟩:=hcut;have x0:wc.cell? ⟨w.heap.size+1,0,none⟩=some (Q0 b):=aA G 0;have x1:wc.cell? ⟨w.heap.size+1,1,none⟩=some (.slice ea p.2.length m):=aA G 1;have cf:=(y.cell (p:=⟨b,4,none⟩) ah).trans f4;clear qA qB q1 f4 ca cb;by_cases C:l.length=p.1.ns.length
  ·rw [if_neg zO4] at HE;have cg:((l.length:Int)!=(p.1.ns.length:Int))=false:=by simp;omega
   have H:=h_ C;clear C
   go_upto_region 7 with fail
   go_cut [10] (fun K wx=>Hid (wx.ownsRow w.heap.size TB 2 K p.2.length (p.2.flatMap iM))/\Hid (Q3 w wx)/\Hid (wx.heap[w.heap.size+1]?=some (.cells #[Q0 b,.slice ea p.2.length m] VQ (0,0))))
   case first =>
    by_cases hz:p.2.length=0
    ·have HZ:=h_ (e_ hz);have dw:wc.cell? ⟨w.heap.size+1,1,none⟩=some (.slice ea 0 m):=by rw [x1,hz]
     clear x1 hz;go_wp2_with (first | (at_builtin;refine dG rfl _ _ 53 rfl 120 i0 underlying53 ab ea m rfl rfl ?_))
     go_meet
     exact⟨zP3,y,G⟩
    ·obtain⟨ge,oe,rfl,ch,_,bg⟩:=Sl.cell cc x8;have Y:∀(j:Nat)(u:Value),(p.2.flatMap iM)[j]?=some u->wc.cell? ((⟨ge,oe,none⟩:Addr).add j)=some u:=fun j u hu=>by rw [Addr.add_lit];exact(y.cell (p:=⟨ge,oe+j,none⟩) ch).trans (bg j u hu)
     have ci:=h_ Y;have Z:=y.size;clear bg Y;go_wp2_with (first | (at_builtin;refine wpList_append_lies _ rfl _ _ 53 rfl w.heap.size 120 i0 _ 2 24 underlying53 ab ay az ba rfl w8 (.slice none 0 0) 0 [] rfl (World.ownsRow_nil _ _ _ _) ⟨ge,oe,none⟩ p.2.length m (p.2.flatMap iM) rfl (wM p.2) ci (by intro u hu;obtain⟨bb,_,bh⟩:=List.mem_flatMap.1 hu;simp only [iM,List.mem_cons,List.not_mem_nil,or_false] at bh;rcases bh with rfl | rfl<;>rfl) x8 o6 x8 Z wc.heap.size rfl ?_;intro g3 bi w3 z n bj bk));have bl:=h_ (cS n)
     go_meet
     refine⟨show World.ownsRow _ _ TB _ _ _ _ from(by have h:=z;simp only [Nat.zero_add,List.nil_append] at h;exact h),y.trans (bl.mono Z),(bl.block _ (aB G)).trans G⟩
   case rest =>
    obtain⟨cj,cl,cm⟩:=hcut;clear x0 x1 cf G y;have cn:=h_ (NA.start be cl);go_wp2_with fail
    go_loopw [10,11] (fun K iv wr=>∃(j:Nat)(A:Value),j<=l.length/\iv=.int .i64 j/\Hid (NA w wr wb W pv (.slice (some ⟨gq,0,none⟩) W.procs.length q) cv lv gv qs cs (l.take j) A)/\Hid (wr.ownsRow w.heap.size TB 2 K (p.2.length+j) ((p.2++Pl.C1 (p.1.ns.take j) W.places.length).flatMap iM))/\Hid (wr.heap[w.heap.size+1]?=some (.cells #[Q0 b,.slice ea p.2.length m] VQ (0,0)))) (fun _ iv _=>l.length-(intOf iv).toNat)
    case atStart=>exact⟨0,lv,Nat.zero_le _,rfl,by simpa [Hid] using cn.out,by simpa [Hid,Pl.C1] using cj.out,cm⟩
    case round =>
     obtain⟨j,A,hj,rfl,HJ,P,Q⟩:=hrel;have f:∀k d:Nat,k<w.heap.size->¬M k->wr.cell? ⟨k,d,none⟩=w.cell? ⟨k,d,none⟩:=fun k d N hm=>World.cell?_of_block (HJ.done.2.block k N (by rw [<- HM.out];exact hm)).1;have x0:wr.cell? ⟨w.heap.size+1,0,none⟩=some (Q0 b):=aA Q 0;have bm:¬M b:=HW.notM ag w8;have bn:=P.1;have bo:=aB Q;by_cases co:j<l.length
     ·obtain⟨v,hv⟩:∃v,l[j]?=some v:=⟨_,g_ co⟩
      obtain⟨nm,ai⟩:∃nm,p.1.ns[j]?=some nm:=⟨_,g_ (by have:=H.out;omega)⟩
      obtain⟨ga,oa,e1,aj,ak,R⟩:=Sl.cell HA x8;have e1:aa=some ⟨ga,oa,none⟩:=e1;subst e1;have a0:=(f ga (oa+j*3) aj ak).trans (R (j*3) _ (aX cZ 3 (fun _=>rfl) l j 0 v hv w8));have a1:=(f ga (oa+(j*3+1)) aj ak).trans (R (j*3+1) _ (aX cZ 3 (fun _=>rfl) l j 1 v hv w8));have a2:=(f ga (oa+(j*3+2)) aj ak).trans (R (j*3+2) _ (aX cZ 3 (fun _=>rfl) l j 2 v hv w8));rw [<- Nat.add_assoc] at a1 a2;unfold AM at a0 a2;have cp:Hid (bT v=.agg #[.string ⟨(vK v).toArray⟩,Q1 (vN v),.string ⟨(vS v).toArray⟩]):=rfl;have dd:(j:Int)<(l.length:Int):=by omega
      have cq:Hid (l.take (j+1)=l.take j++[v]):=show l.take (j+1)=_ from by rw [List.take_add_one,hv];rfl
      have cr:Hid (Pl.C1 (p.1.ns.take (j+1)) W.places.length=Pl.C1 (p.1.ns.take j) W.places.length++[(nm,W.places.length+j)]):=show Pl.C1 (p.1.ns.take (j+1)) W.places.length=_ from by rw [List.take_add_one,ai];have de:=H.out;have:=vM (p.1.ns.take j) nm W.places.length;rw [List.length_take,Nat.min_eq_left x8] at this;exact this
      have ct:=h_ ai;have bp:(l.take j).length=j:=by rw [List.length_take];omega
      have bq:=h_ bp;clear R hv ai bp bn f;generalize vK v=kk at *;generalize vN v=nn at *;generalize vS v=ss at *;go_wp2_with fail;rw [<- cp.out];refine(rW w wr wb W pv _ cv lv gv qs cs (l.take j) A v HJ (by rw [bq.out];omega)).mono ?_;rintro e I ⟨rfl,br,bs,df,al,bt⟩;rw [bq.out];have am:Hid (NA w I wb W pv (.slice (some ⟨gq,0,none⟩) W.procs.length q) cv lv gv qs cs (l.take (j+1)) br):=show NA _ _ _ _ _ _ _ _ _ _ _ _ _ from by rw [cq.out];exact bs
      have D:Hid (I.ownsRow w.heap.size TB 2 u10 (p.2.length+j) ((p.2++Pl.C1 (p.1.ns.take j) W.places.length).flatMap iM)):=xO P (fun k T h1 O=>al k (aB O) (fun e=>by subst e;exact absurd (aK O HJ.blk).2 w8) (fun e=>by obtain⟨c,hc⟩:=aN HJ.row k e;exact absurd (aK O hc).2 w8));have U:Hid (I.heap[w.heap.size+1]?=some (.cells #[Q0 b,.slice ea p.2.length m] VQ (0,0))):=(al _ bo x8 (fun e=>by obtain⟨c,hc⟩:=aN HJ.row _ e;exact absurd (aK Q hc).2 w8)).trans Q;have s:∀k d:Nat,k<w.heap.size->¬M k->I.cell? ⟨k,d,none⟩=w.cell? ⟨k,d,none⟩:=fun k d N hm=>World.cell?_of_block (am.done.2.block k N (by rw [<- HM.out];exact hm)).1;have y0:I.cell? ⟨w.heap.size+1,0,none⟩=some (Q0 b):=aA U 0;have y4:I.cell? ⟨b,4,none⟩=some (.slice na p.1.ns.length X):=(s b 4 ah bm).trans (aA ag 4);obtain⟨gn,dx,e2,_,⟨dg,bu⟩,bv⟩:=row1 cd (by have:=H.out;omega);simp only [Value.slice.injEq] at e2;obtain⟨rfl,_,rfl⟩:=e2;have yn:I.cell? ⟨gn,j,none⟩=some (.string ⟨nm.toArray⟩):=(s gn j (aB bu) (HW.notM bu w8)).trans (bv j (AM nm) (by rw [List.getElem?_map,ct.out];rfl));have dh:(j:Int)<(p.1.ns.length:Int):=by have:=H.out;omega
      have dy:p.2.length+j<=200000000:=by omega
      have dz:w.heap.size<=I.heap.size:=by omega
      have cu:=aB U;clear bs al bt s bv a0 a1 a2 x0;go_wp2_with (first | (at_builtin;refine wpList_append_lies _ rfl _ _ 53 rfl w.heap.size 120 i0 _ 2 24 underlying53 ab ay az ba rfl w8 u10 (p.2.length+j) ((p.2++Pl.C1 (p.1.ns.take j) W.places.length).flatMap iM) rfl (D.alloc _) ⟨I.heap.size,0,none⟩ 1 1 (iM (nm,W.places.length+j)) rfl rfl (World.news_of_block (cs:=#[AM nm,Q1 (W.places.length+j:Nat)]) (t:=120) (fr:=(0,0)) (heap_alloc_new I _)) (by simp [Value.oneCell',iM,AM]) w8 o6 x8 r7 (I.heap.size+1) w9 ?_;intro g3 bi w3 z n bj bk))
      go_roundw
      case rel =>
       refine⟨j+1,br,x8,k7,?_,?_,?_⟩
       ·refine(am.later b_).grown n (fun k N=>⟨(D.lt k N).1,fun e=>?_⟩);obtain⟨c1,an⟩:=aN am.row k e;obtain⟨c2,ap⟩:=aN D k N;exact absurd (aK an ap).2 w8
       ·have this:World.ownsRow w3 w.heap.size TB 2 _ _ _:=z;show World.ownsRow _ _ TB _ _ _ _;rw [cr.out,<-List.append_assoc,List.flatMap_append,<-Nat.add_assoc];simpa using this
       ·rw [n.block _ r7 (fun e=>?_)]
        ·exact(Below.heap_alloc I _ _ cu).trans U
        ·obtain⟨c2,ap⟩:=aN D _ e.symm;exact absurd (aK ap U).2 w8
      case measure=>simp [intOf];omega
     ·have cw:j=l.length:=by omega
      subst cw;obtain⟨aq,bw⟩:=HJ.done;rw [List.take_length] at aq;have bx:p.1.ns.take l.length=p.1.ns:=List.take_of_length_le (by have:=H.out;omega);have E:=P.out;rw [bx] at E;have cx:Hid (RW wr wb (CQ wb [pv,.slice (some ⟨gq,0,none⟩) W.procs.length q,cv,A,gv]) {W with places:=W.places++l}):=⟨_,_,_,_,_,_,_,rfl,aq⟩
      have ar:Hid (Stp M w (CQ wb [pv,.slice (some ⟨gq,0,none⟩) W.procs.length q,cv,A,gv]) wr):=show Stp _ _ _ _ from by rw [HM.out];exact bw
      have bz:Hid (DF (CQ wb [pv,.slice (some ⟨gq,0,none⟩) W.procs.length q,cv,A,gv]) wr u10 (p.2++Pl.C1 p.1.ns W.places.length)):=by
       have hl:(p.2++Pl.C1 p.1.ns W.places.length).length=p.2.length+l.length:=by rw [a_,qX,H.out]
       show Sl _ _ _ _ _ _ _;rw [hl];obtain⟨s0,ao,au,e1,e2,e3⟩:=gT ((fun h=>⟨h.1,h.2.imp id (fun⟨g,au,T,a,_,c⟩=>⟨g,au,T,a,Nat.zero_le _,c⟩)⟩:_->wr.ownsRow 0 TB 2 u10 (p.2.length+l.length) ((p.2++Pl.C1 p.1.ns W.places.length).flatMap iM)) E);refine⟨s0,ao,au,e1,e2,e3.imp id ?_⟩;rintro⟨g,d,T,rfl,_,hg,hc⟩;refine⟨g,d,T,rfl,?_,hg,hc⟩;have cy:=(E.lt g (by rw [e1];rfl)).1;refine jM be (sl:=A) (by intro x hx;simp only [List.mem_cons,List.not_mem_nil,or_false] at hx ⊢;rcases hx with rfl | rfl | rfl | rfl | rfl<;>simp) cy (fun e=>?_);obtain⟨c1,an⟩:=aN HJ.row g e;exact absurd (aK an hg).2 w8
      obtain⟨u0,cz⟩:∃u0,us=[u0]:=by
       have:=bf.1;rw [af] at this
       match us,this with
       | [a],_=>exact⟨a,rfl⟩
      subst cz
      obtain⟨r,B⟩:∃r,p.1.ks=[r]:=by
       match h:p.1.ks,af with
       | [a],_=>exact⟨a,rfl⟩
      have aw:=bf.out;rw [af] at aw;obtain⟨gk,ck,rfl,eb,⟨di,ax⟩,F⟩:=row1 aw w8;have z3:wr.cell? ⟨b,3,none⟩=some (.slice (some ⟨gk,0,none⟩) 1 ck):=(f b 3 ah bm).trans (aA ag 3);have zk:wr.cell? ⟨gk,0,none⟩=some u0:=(f gk 0 (aB ax) (HW.notM ax w8)).trans (F 0 u0 rfl);have L:Hid (RF wr u0 r):=(ce 0 u0 r rfl (by rw [B];rfl)).keep (ar.MD HW.X5);have da:Hid (AH W S (.proc i) l=⟨0,{W with places:=W.places++l},S.work (some r) (p.2++Pl.C1 p.1.ns W.places.length)⟩):=show _=_ from by rw [HE.out,B];rfl
      have db:=h_ (HS.AQ HW ar);obtain⟨ob,rfl⟩:∃ob,u0=(Q0 ob):=by obtain⟨ob,_,_,_,_,_,_,_,e,_⟩:=L.open_;exact⟨ob,e⟩
      clear aq bw E bx aw F ax B f bn P;go_wp2_with fail;refine(cP _ wb xb _ _ S r _ _ _ cx db L bz).mono ?_;rintro e w6 ⟨rfl,h1,O,h3⟩;have H1:=h_ h1;have H2:=h_ O;have H3:=h_ h3;clear h1 O h3;go_wp2_with fail;go_ret;rw [da.out];exact⟨rfl,_,H1,(ar.mx xb).trans H3,fun _=>H2.out⟩
  ·rw [if_pos zO4] at HE;have cg:((l.length:Int)!=(p.1.ns.length:Int))=true:=by simp;omega
   go_wp2_with fail
   go_ret;rw [HE.out];exact⟨rfl,M,HW.later y,(Stp.AA y).mx xb,fun h=>by simp at h⟩
end
end Go.Proofs.YtbgghmjmcapmlaaGreatDoor
