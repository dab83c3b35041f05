import Derived.Test.YtbgghmjmcapmlaaGreatDoorF30
namespace Go.Proofs.YtbgghmjmcapmlaaGreatDoor
set_option maxHeartbeats 8000000
set_option maxRecDepth 100000
open Go.Proofs.Tryz
open Pl (PV PW PF AE)
section
open Go.RowKit Go.Maps Go.Lib
variable {M O P:Q5} {w w2:World} {L:Lo} {F:Fg} {N g off m c rb k:Nat} {W:PW} {ks:List PF} {av a b:Value} {us:List Value} {x:PF} {nm':AE}
theorem aKF(h:FW L M O w F N W)(hP:∀k,P k->Cr M w F k)(hn:F.s.ns[k]?=some nm'){sc:List (List AE)}(bd:rb<w.heap.size)(ar:Sl M w TCod 1 (.slice (some ⟨rb,0,none⟩) ks.length ks.length) us.length us)(S:us.length=ks.length)(au:∀(i:Nat)(u:Value)(x:PF),us[i]?=some u->ks[i]?=some x->RC M w F u x sc)(hf:scF sc nm'=none)(hl:ks.length+1<=2000)(hN:N+1+1<=9000000000000000000)(nm:AE)(d:Pl.A9)(v:PV)(ns:List AE)(d':Pl.A9)(v':PV)(ab:List PF)(ac:List AE) :Q2 215 #[Q0 L.sb,.agg #[.string ⟨nm'.toArray⟩,Q1 k],.slice (some ⟨rb,0,none⟩) ks.length ks.length] w (CmpQ L M O P w F W (.mk .call nm d v (.mk .name nm' d' v' ab ac::ks) ns) sc (N+1+1)):=by
 obtain⟨wA,ad⟩:∃wA,wA=(w.alloc (.cells #[.string ⟨nm'.toArray⟩,Q1 k] B6)).alloc (.cells #[.slice (some ⟨rb,0,none⟩) ks.length ks.length] TCds):=⟨_,rfl⟩
 have ae:Q3 w wA:=by rw [ad];exact b_.alloc w9 _
 have cA:=(Cmp.refl h hP).below ae;have av:Bk M wA w.heap.size #[.string ⟨nm'.toArray⟩,Q1 k] B6:=⟨fun y=>Nat.lt_irrefl _ (h.mlt _ y),by rw [ad];exact aF5 (aF7 rfl)⟩
 have ap:Bx M wA (w.heap.size+1) (.slice (some ⟨rb,0,none⟩) ks.length ks.length) TCds:=⟨fun y=>by have:=h.mlt _ y;omega,by rw [ad];exact aF7 w9⟩
 obtain⟨f,af⟩:∃f,f=Pl.PF.mk .call nm d v (.mk .name nm' d' v' ab ac::ks) ns:=⟨_,rfl⟩
 have HG:Hid (Q2 202 #[Q0 L.sb,.agg #[.string ⟨nm'.toArray⟩,Q1 k]] wA fun e D=>∃g,e=.returned (pt g)/\w.heap.size+1<D.heap.size/\BoxF w.heap.size (w.heap.size+1) (.string ⟨nm'.toArray⟩) (.int .i64 (k:Int)) (.slice (some ⟨rb,0,none⟩) ks.length ks.length) (D.alloc (.cells #[pt g] TGlP))/\∀w' l,Ah (D.alloc (.cells #[pt g] TGlP)) w' l->(∀b∈l,∃z,w'.heap[b]?=some (.cells #[z] TCod (0,0)))->Q2 187 #[Q0 L.sb,.agg #[.string ⟨nm'.toArray⟩,Q1 k],.pointer none] w' (NamQ L M O P w F W (N+1+1) f sc k g w.heap.size (w.heap.size+1) D.heap.size (.string ⟨nm'.toArray⟩) (.int .i64 (k:Int)) (.slice (some ⟨rb,0,none⟩) ks.length ks.length) us ks l w')):=by refine(aHR cA.fw cA.cr hn x8).mono (fun e D hq=>?_);obtain⟨g,MB,G,rfl,cB,hg⟩:=hq;have aw:Q3 D (D.alloc (.cells #[pt g] TGlP)):=b_;have cC:=(cA.trans cB).below aw;have s:=cB.AQ.trans (Stp.AA aw);have b4:=av.go s;have b5:=ap.go s;refine⟨g,rfl,aB (ap.go cB.AQ).2,⟨b4.2,b5.2⟩,fun w' l hA hT=>?_⟩;subst af;exact p_namQ cC (bS cC.le.s.ns hn) hg b4 b5 (aGH cB.mlt (aF7 rfl)) (l_ bd (t_ ae.size s.size)) ((ar.AQ (Stp.AA ae)).AQ s) S (fun i u x q1 q2=>(au i u x q1 q2).go cC.AQ cC.le) hf hl hN nm d v ns d' v' ab ac w' l hA hT
 have HS:Hid (∀C:World,BoxF w.heap.size (w.heap.size+1) (.string ⟨nm'.toArray⟩) (.int .i64 (k:Int)) (.slice (some ⟨rb,0,none⟩) ks.length ks.length) C->C.cell? ⟨w.heap.size,0,none⟩=some (.string ⟨nm'.toArray⟩)/\C.cell? ⟨w.heap.size,1,none⟩=some (Q1 k)/\C.cell? ⟨w.heap.size+1,0,none⟩=some (.slice (some ⟨rb,0,none⟩) ks.length ks.length)):=fun C q=>⟨aA q.1 0,aA q.1 1,aA q.2 0⟩
 have HR:Hid (∀g b7 Q w6,Gl2 L M O P w F W (N+1+1) f sc k g (w.heap.size+1) b7 (.slice (some ⟨rb,0,none⟩) ks.length ks.length) us ks Q w6->∃gv,∃ch U:Nat,∃V,((∃T x,gv=.iface T x)\/gv=.nilIface)/\(∀C,Q3 w6 C->C.cell? ⟨b7,0,none⟩=some (Q0 g)/\C.cell? ⟨w.heap.size+1,0,none⟩=some (.slice (some ⟨rb,0,none⟩) ks.length ks.length)/\C.cell? ⟨Q,0,none⟩=some (.func (.func U) #[] V)/\C.cell? ⟨g,0,none⟩=some gv/\C.cell? ⟨g,1,none⟩=some (Q1 ch))/\∀wc,Q3 w6 wc->Q2 228 #[gv,.slice (some ⟨rb,0,none⟩) ks.length ks.length,.func (.func U) #[] V] wc fun e m=>∃km cm,e=.returned (.func (.func km) #[] cm)/\Q3 wc m/\∀mb sb wy,Stp (Xt mb sb) m (Xt mb sb) wy->w6.heap.size<=mb->w6.heap.size<=sb->(mb<wc.heap.size\/m.heap.size<=mb)->(sb<wc.heap.size\/m.heap.size<=sb)->wy.heap[mb]?=some (.cells #[.func (.func km) #[] cm] TCod (0,0))->wy.heap[sb]?=some (.cells #[Q1 ch] TInt (0,0))->CmpQ L M O P w F W f sc (N+1+1) (.returned (fnV 229 #[pt sb,pt b7,pt (w.heap.size+1),pt Q,pt mb])) wy):=fun g b7 Q w6 hq=>by
  obtain⟨M6,G,U,V,c6,ho,hg,h8,h5,h7,ah,ai⟩:=hq;obtain⟨_,gv,ch,bj,bk,E,_,_⟩:=c6.fw.gat k g hg;have aj:Sl M6 w6 TCod 1 (.slice (some ⟨rb,0,none⟩) us.length us.length) us.length us:=by have q:=ah;rw [<- S] at q;exact q
  have ax:∀u∈us,∃k c,u=fnV k c:=fun u hu=>by obtain⟨i,hi,rfl⟩:=List.mem_iff_getElem.1 hu;exact(ai i _ _ (g_ hi) (g_ x8)).func
  refine⟨gv,ch,U,V,(aK4 c6.fw hg E aj ax x8 (ko:=U) (co:=V)).2,fun C K=>⟨(h7.go (Stp.AA K)).cell,(h5.go (Stp.AA K)).cell,(h8.go (Stp.AA K)).cell,aA ((K.block g (aB E)).trans E) 0,aA ((K.block g (aB E)).trans E) 1⟩,fun wc K=>?_⟩;have H:=(aK4 (c6.below K).fw hg ((K.block g (aB E)).trans E) (aj.AQ (Stp.AA K)) ax x8 (ko:=U) (co:=V)).1;rw [S] at H;refine H.mono (fun e m hq=>?_);obtain⟨mv,rfl,⟨km,cm,rfl⟩,j,hM⟩:=hq;refine⟨km,cm,rfl,j,fun mb sb wy s k1 k2 m1 m2 e1 e2=>?_⟩;subst af;exact gl_fin c6 (bS c6.le.s.ns hn) hg E h7 h5 h8 hf ah S ai x8 nm d v ns d' v' ab ac ho K j ⟨_,_,rfl⟩ hM s k1 k2 m1 m2 e1 e2
 have bl:∀(a:Addr)(fn:Fn)(first ay:Array Value)(w:World),(store a (.func fn first ay)).run prog w=stored prog w a (.func fn first ay) .plain:=fun _ _ _ _ _=>run_store _ _ _ _ _ rfl;rw [<- af];subst ad;clear h hP hn ar S au hf hl ae cA av ap af;go_enter func215,ntmps215
 go_upto_region 2 with(go_at_call 202;refine(Calls.mono HG ?_);rintro e D ⟨g,rfl,dl,p,az⟩;have ak:=(show Hid _ from p);have aq:=(show Hid _ from az);clear p az)
 go_cut [8] (fun x C=>∃Q,x=(Q0 Q)/\Hid (Gl2 L M O P w F W (N+1+1) f sc k g (w.heap.size+1) D.heap.size (.slice (some ⟨rb,0,none⟩) ks.length ks.length) us ks Q C))
 case first =>
  clear HG HR
  go_region_held3 (fun C=>C.cell? ⟨w.heap.size,0,none⟩=some (.string ⟨nm'.toArray⟩)/\C.cell? ⟨w.heap.size,1,none⟩=some (Q1 k)/\C.cell? ⟨w.heap.size+1,0,none⟩=some (.slice (some ⟨rb,0,none⟩) ks.length ks.length))
   ((refine HS.out _ ?_;repeat' first | exact X.out | exact al.out | exact ak.out | apply BoxF.drew | (refine BoxF.set x8 x8 ?_) | apply BoxF.alloc))
   ((first
    | (go_at_call 187;first
     | (refine(Calls.mono (aq _ _ (ahB _ _ TCod (.inl rfl)) (fun b hb=>(by obtain rfl:=List.mem_singleton.1 hb;exact⟨_,aF6 (aF7 rfl)⟩))) ?_);rintro e w4 ⟨ku,cu,rfl,p,H,t,Y⟩;have dk:w4.heap[D.heap.size+1]?=some (.cells #[.nilFunc] TCod (0,0)):=(by have:=H _ (List.mem_singleton.2 rfl);simp only [World.size_alloc] at this;exact this.trans (aF6 (aF7 w9)));have be:D.heap.size+1<w4.heap.size:=(by simp at t;omega);have al:=(show Hid _ from p);have ag:=(show Hid _ from Y);clear p H t Y)
     | (refine(Calls.mono (aq _ _ (ahA _) (fun b hb=>(by cases hb))) ?_);rintro e w4 ⟨ku,cu,rfl,p,H,t,Y⟩;have be:D.heap.size+1<=w4.heap.size:=(by simpa using t);have al:=(show Hid _ from p);have ag:=(show Hid _ from Y);clear p H t Y))
    | (go_at_call 216;first
     | (refine(Calls.mono (ag _ _ (.inr ⟨rfl,_,rfl,rfl⟩)) ?_);rintro e w5 ⟨U,V,rfl,p,H,t,I⟩;have d8:w5.heap[w4.heap.size]?=some (.cells #[.nilFunc] TCod (0,0)):=(H _ (List.mem_singleton.2 rfl)).trans (aF7 rfl);have bf:w5.cell? ⟨w4.heap.size,0,none⟩=some .nilFunc:=aA d8 0;have bg:=aF d8 0;have bh:=aB d8;have X:=(show Hid _ from p);have Z:=(show Hid _ from I);clear p H t I d8)
     | (refine(Calls.mono (ag _ _ (.inl ⟨rfl,rfl⟩)) ?_);rintro e w5 ⟨U,V,rfl,p,H,t,I⟩;have d8:w5.heap[D.heap.size+1]?=some (.cells #[.nilFunc] TCod (0,0)):=(by have:=H _ (List.mem_singleton.2 rfl);simp only [World.size_alloc] at this;exact this.trans dk);have bf:w5.cell? ⟨D.heap.size+1,0,none⟩=some .nilFunc:=aA d8 0;have bg:=aF d8 0;have bh:=aB d8;have X:=(show Hid _ from p);have Z:=(show Hid _ from I);clear p H t I d8)
     | (refine(Calls.mono (ag _ _ (.inl ⟨rfl,rfl⟩)) ?_);rintro e w5 ⟨U,V,rfl,p,H,t,I⟩;have X:=(show Hid _ from p);have Z:=(show Hid _ from I);clear p H t I))))
  all_goals
   go_wp2_with fail
   go_meet
   first
    | exact⟨_,rfl,Z _ _ (.inl ⟨rfl,rfl,rfl⟩)⟩
    | exact⟨_,rfl,Z _ _ (.inr ⟨rfl,rfl⟩)⟩
    | exact⟨D.heap.size+1,rfl,Z _ _ (.inr ⟨w9,rfl⟩)⟩
 case rest =>
  obtain⟨Q,rfl,hq⟩:=hcut;obtain⟨gv,ch,U,V,E,R,H⟩:=HR.out _ _ _ _ hq.out;have h0:=(R _ r_).2.2.2.1;have bi:Hid _:=fun C (K:Q3 wc C)=>And.intro (R C K).1 (And.intro (R C K).2.1 (And.intro (R C K).2.2.1 (And.intro ((R C K).2.2.2.1.trans h0.symm) (R C K).2.2.2.2)));have HK:=h_ H;clear R H hq HR HG aq ak HS;rcases E with⟨T,x,rfl⟩ | rfl
  all_goals
   go_upto_region 3 with fail
   go_region_held3 (fun wz=>wz.cell? ⟨D.heap.size,0,none⟩=some (Q0 g)/\wz.cell? ⟨w.heap.size+1,0,none⟩=some (.slice (some ⟨rb,0,none⟩) ks.length ks.length)/\wz.cell? ⟨Q,0,none⟩=some (.func (.func U) #[] V)/\wz.cell? ⟨g,0,none⟩=wc.cell? ⟨g,0,none⟩/\wz.cell? ⟨g,1,none⟩=some (Q1 ch))
    ((refine bi.out _ ?_;repeat' first | exact aa.out | exact r_ | apply Below.drew | (refine aI9 ?_ x8 _) | (refine aGB ?_ n_)))
    ((go_at_call 228;first
     | (refine(Calls.mono (HK ((wc.alloc (.cells #[.nilFunc] TCod)).alloc (.cells #[Q1 0] TInt)).drew n8) ?_);rintro e m ⟨km,cm,rfl,j,n⟩;have J:m.heap[wc.heap.size]?=some (.cells #[_] TCod (0,0)):=(j.block _ r8).trans (aF6 (aF5 (aF7 r8)));have r:m.heap[wc.heap.size+1]?=some (.cells #[_] TInt (0,0)):=(j.block _ r8).trans (aF6 (aF7 r8));have ba:m.cell? ⟨_,0,none⟩=some .nilFunc:=aA J 0;have bb:=aF J 0;have bc:=aB J;have B:=(show Hid _ from J);clear J;have am:m.cell? ⟨_,0,none⟩=some (Q1 0):=aA r 0;have an:=aF r 0;have ao:=aB r;have o:=(show Hid _ from r);clear r;have t:wc.heap.size+2<=m.heap.size:=(by have:=j.size;simp at this;omega);have aa:Hid (Q3 wc m):=(Below.trans (b:=((wc.alloc (.cells #[.nilFunc] TCod)).alloc (.cells #[Q1 0] TInt)).drew) n8 (j.mono zQ1));have A:=(show Hid _ from n);clear j n)
     | (refine(Calls.mono (HK ((wc.alloc (.cells #[Q1 0] TInt)).alloc (.cells #[.nilFunc] TCod)).drew n8) ?_);rintro e m ⟨km,cm,rfl,j,n⟩;have r:m.heap[wc.heap.size]?=some (.cells #[_] TInt (0,0)):=(j.block _ r8).trans (aF6 (aF5 (aF7 r8)));have J:m.heap[wc.heap.size+1]?=some (.cells #[_] TCod (0,0)):=(j.block _ r8).trans (aF6 (aF7 r8));have am:m.cell? ⟨_,0,none⟩=some (Q1 0):=aA r 0;have an:=aF r 0;have ao:=aB r;have o:=(show Hid _ from r);clear r;have ba:m.cell? ⟨_,0,none⟩=some .nilFunc:=aA J 0;have bb:=aF J 0;have bc:=aB J;have B:=(show Hid _ from J);clear J;have t:wc.heap.size+2<=m.heap.size:=(by have:=j.size;simp at this;omega);have aa:Hid (Q3 wc m):=(Below.trans (b:=((wc.alloc (.cells #[Q1 0] TInt)).alloc (.cells #[.nilFunc] TCod)).drew) n8 (j.mono zQ1));have A:=(show Hid _ from n);clear j n)
     | (refine(Calls.mono (HK (wc.alloc (.cells #[.nilFunc] TCod)).drew n8) ?_);rintro e m ⟨km,cm,rfl,j,n⟩;have J:m.heap[wc.heap.size]?=some (.cells #[_] TCod (0,0)):=(j.block _ r8).trans (aF6 (aF7 r8));have ba:m.cell? ⟨_,0,none⟩=some .nilFunc:=aA J 0;have bb:=aF J 0;have bc:=aB J;have B:=(show Hid _ from J);clear J;have t:wc.heap.size+1<=m.heap.size:=(by have:=j.size;simp at this;omega);have aa:Hid (Q3 wc m):=(Below.trans (b:=(wc.alloc (.cells #[.nilFunc] TCod)).drew) n8 (j.mono zQ1));have A:=(show Hid _ from n);clear j n)
     | (refine(Calls.mono (HK (wc.alloc (.cells #[Q1 0] TInt)).drew n8) ?_);rintro e m ⟨km,cm,rfl,j,n⟩;have r:m.heap[wc.heap.size]?=some (.cells #[_] TInt (0,0)):=(j.block _ r8).trans (aF6 (aF7 r8));have am:m.cell? ⟨_,0,none⟩=some (Q1 0):=aA r 0;have an:=aF r 0;have ao:=aB r;have o:=(show Hid _ from r);clear r;have t:wc.heap.size+1<=m.heap.size:=(by have:=j.size;simp at this;omega);have aa:Hid (Q3 wc m):=(Below.trans (b:=(wc.alloc (.cells #[Q1 0] TInt)).drew) n8 (j.mono zQ1));have A:=(show Hid _ from n);clear j n)
     | (refine(Calls.mono (HK wc.drew n8) ?_);rintro e m ⟨km,cm,rfl,j,n⟩;have t:wc.heap.size+0<=m.heap.size:=(by have:=j.size;simp at this;omega);have aa:Hid (Q3 wc m):=(Below.trans (b:=wc.drew) n8 (j.mono zQ1));have A:=(show Hid _ from n);clear j n)))
   all_goals
    go_wp2_with fail
    go_ret;first
    | (show CmpQ L M O P w F W f sc (N+1+1) (.returned (fnV 229 #[pt (m.heap.size+1),pt D.heap.size,pt (w.heap.size+1),pt Q,pt (m.heap.size)])) _;exact(A (m.heap.size) (m.heap.size+1) _ o9 r8 r8 o7 o7 o5 o5))
    | (show CmpQ L M O P w F W f sc (N+1+1) (.returned (fnV 229 #[pt (m.heap.size),pt D.heap.size,pt (w.heap.size+1),pt Q,pt (m.heap.size+1)])) _;exact(A (m.heap.size+1) (m.heap.size) _ o9 r8 r8 o7 o7 o5 o5))
    | (show CmpQ L M O P w F W f sc (N+1+1) (.returned (fnV 229 #[pt (m.heap.size),pt D.heap.size,pt (w.heap.size+1),pt Q,pt (wc.heap.size)])) _;exact(A (wc.heap.size) (m.heap.size) _ o9 r8 r8 o7 o7 o5 o5))
    | (show CmpQ L M O P w F W f sc (N+1+1) (.returned (fnV 229 #[pt (wc.heap.size),pt D.heap.size,pt (w.heap.size+1),pt Q,pt (m.heap.size)])) _;exact(A (m.heap.size) (wc.heap.size) _ o9 r8 r8 o7 o7 o5 o5))
    | (show CmpQ L M O P w F W f sc (N+1+1) (.returned (fnV 229 #[pt (wc.heap.size+1),pt D.heap.size,pt (w.heap.size+1),pt Q,pt (wc.heap.size)])) _;exact(A (wc.heap.size) (wc.heap.size+1) _ o9 r8 r8 o7 o7 o5 o5))
    | (show CmpQ L M O P w F W f sc (N+1+1) (.returned (fnV 229 #[pt (wc.heap.size),pt D.heap.size,pt (w.heap.size+1),pt Q,pt (wc.heap.size+1)])) _;exact(A (wc.heap.size+1) (wc.heap.size) _ o9 r8 r8 o7 o7 o5 o5))
theorem aI6(v:Value)(w:World):(Instr.typeAssert (.iface 205 v) 101 205 true).run prog w=.ok (.tuple #[v,.bool true]) w:=by kernel_rfl
theorem aHD(v:Value)(w:World):(Instr.typeAssert (.iface 205 v) 101 196 true).run prog w=.ok (.tuple #[.agg #[.string ⟨#[]⟩,Q1 0],.bool false]) w:=by kernel_rfl
theorem aG2(v:Value)(w:World):(Instr.typeAssert (.iface 205 v) 101 269 true).run prog w=.ok (.tuple #[.agg #[.slice none 0 0,.nilIface],.bool false]) w:=by kernel_rfl
theorem aJ5(v:Value)(w:World):(Instr.typeAssert (.iface 196 v) 101 196 true).run prog w=.ok (.tuple #[v,.bool true]) w:=by kernel_rfl
theorem aHA(v:Value)(w:World):(Instr.typeAssert (.iface 196 v) 101 205 true).run prog w=.ok (.tuple #[.agg #[.nilIface,.bool false],.bool false]) w:=by kernel_rfl
theorem aH3(v:Value)(w:World):(Instr.typeAssert (.iface 196 v) 101 269 true).run prog w=.ok (.tuple #[.agg #[.slice none 0 0,.nilIface],.bool false]) w:=by kernel_rfl
theorem ffy_If(v:Value)(w:World):(Instr.typeAssert (.iface 261 v) 101 261 true).run prog w=.ok (.tuple #[v,.bool true]) w:=by kernel_rfl
theorem aH6(v:Value)(w:World):(Instr.typeAssert (.iface 261 v) 101 205 true).run prog w=.ok (.tuple #[.agg #[.nilIface,.bool false],.bool false]) w:=by kernel_rfl
theorem aH5(v:Value)(w:World):(Instr.typeAssert (.iface 261 v) 101 196 true).run prog w=.ok (.tuple #[.agg #[.string ⟨#[]⟩,Q1 0],.bool false]) w:=by kernel_rfl
theorem aIO(v:Value)(w:World):(Instr.typeAssert (.iface 261 v) 101 269 true).run prog w=.ok (.tuple #[.agg #[.slice none 0 0,.nilIface],.bool false]) w:=by kernel_rfl
theorem aLV(v:Value)(w:World):(Instr.typeAssert (.iface 263 v) 101 263 true).run prog w=.ok (.tuple #[v,.bool true]) w:=by kernel_rfl
theorem aG6(v:Value)(w:World):(Instr.typeAssert (.iface 263 v) 101 205 true).run prog w=.ok (.tuple #[.agg #[.nilIface,.bool false],.bool false]) w:=by kernel_rfl
theorem aGX(v:Value)(w:World):(Instr.typeAssert (.iface 263 v) 101 196 true).run prog w=.ok (.tuple #[.agg #[.string ⟨#[]⟩,Q1 0],.bool false]) w:=by kernel_rfl
theorem aI8(v:Value)(w:World):(Instr.typeAssert (.iface 263 v) 101 261 true).run prog w=.ok (.tuple #[.agg #[.nilIface,.nilIface,.nilIface],.bool false]) w:=by kernel_rfl
theorem aHQ(v:Value)(w:World):(Instr.typeAssert (.iface 263 v) 101 269 true).run prog w=.ok (.tuple #[.agg #[.slice none 0 0,.nilIface],.bool false]) w:=by kernel_rfl
theorem ffy_Set(v:Value)(w:World):(Instr.typeAssert (.iface 264 v) 101 264 true).run prog w=.ok (.tuple #[v,.bool true]) w:=by kernel_rfl
theorem aHN(v:Value)(w:World):(Instr.typeAssert (.iface 264 v) 101 205 true).run prog w=.ok (.tuple #[.agg #[.nilIface,.bool false],.bool false]) w:=by kernel_rfl
theorem aHI(v:Value)(w:World):(Instr.typeAssert (.iface 264 v) 101 196 true).run prog w=.ok (.tuple #[.agg #[.string ⟨#[]⟩,Q1 0],.bool false]) w:=by kernel_rfl
theorem aKL(v:Value)(w:World):(Instr.typeAssert (.iface 264 v) 101 261 true).run prog w=.ok (.tuple #[.agg #[.nilIface,.nilIface,.nilIface],.bool false]) w:=by kernel_rfl
theorem aIM(v:Value)(w:World):(Instr.typeAssert (.iface 264 v) 101 263 true).run prog w=.ok (.tuple #[.agg #[.slice none 0 0],.bool false]) w:=by kernel_rfl
theorem aIA(v:Value)(w:World):(Instr.typeAssert (.iface 264 v) 101 269 true).run prog w=.ok (.tuple #[.agg #[.slice none 0 0,.nilIface],.bool false]) w:=by kernel_rfl
theorem aKK(v:Value)(w:World):(Instr.typeAssert (.iface 200 v) 101 200 true).run prog w=.ok (.tuple #[v,.bool true]) w:=by kernel_rfl
theorem aG1(v:Value)(w:World):(Instr.typeAssert (.iface 200 v) 101 205 true).run prog w=.ok (.tuple #[.agg #[.nilIface,.bool false],.bool false]) w:=by kernel_rfl
theorem aGT(v:Value)(w:World):(Instr.typeAssert (.iface 200 v) 101 196 true).run prog w=.ok (.tuple #[.agg #[.string ⟨#[]⟩,Q1 0],.bool false]) w:=by kernel_rfl
theorem aIP(v:Value)(w:World):(Instr.typeAssert (.iface 200 v) 101 261 true).run prog w=.ok (.tuple #[.agg #[.nilIface,.nilIface,.nilIface],.bool false]) w:=by kernel_rfl
theorem aHP(v:Value)(w:World):(Instr.typeAssert (.iface 200 v) 101 263 true).run prog w=.ok (.tuple #[.agg #[.slice none 0 0],.bool false]) w:=by kernel_rfl
theorem aIC(v:Value)(w:World):(Instr.typeAssert (.iface 200 v) 101 264 true).run prog w=.ok (.tuple #[.agg #[.string ⟨#[]⟩,Q1 0,.nilIface],.bool false]) w:=by kernel_rfl
theorem aHC(v:Value)(w:World):(Instr.typeAssert (.iface 200 v) 101 269 true).run prog w=.ok (.tuple #[.agg #[.slice none 0 0,.nilIface],.bool false]) w:=by kernel_rfl
theorem aIE(v:Value)(w:World):(Instr.typeAssert (.iface 269 v) 101 269 true).run prog w=.ok (.tuple #[v,.bool true]) w:=by kernel_rfl
theorem aG0(v:Value)(w:World):(Instr.typeAssert (.iface 269 v) 101 205 true).run prog w=.ok (.tuple #[.agg #[.nilIface,.bool false],.bool false]) w:=by kernel_rfl
theorem aH4(v:Value)(w:World):(Instr.typeAssert (.iface 269 v) 101 196 true).run prog w=.ok (.tuple #[.agg #[.string ⟨#[]⟩,Q1 0],.bool false]) w:=by kernel_rfl
theorem aIN(v:Value)(w:World):(Instr.typeAssert (.iface 269 v) 101 261 true).run prog w=.ok (.tuple #[.agg #[.nilIface,.nilIface,.nilIface],.bool false]) w:=by kernel_rfl
theorem aHO(v:Value)(w:World):(Instr.typeAssert (.iface 269 v) 101 263 true).run prog w=.ok (.tuple #[.agg #[.slice none 0 0],.bool false]) w:=by kernel_rfl
theorem aIB(v:Value)(w:World):(Instr.typeAssert (.iface 269 v) 101 264 true).run prog w=.ok (.tuple #[.agg #[.string ⟨#[]⟩,Q1 0,.nilIface],.bool false]) w:=by kernel_rfl
theorem aHB(v:Value)(w:World):(Instr.typeAssert (.iface 269 v) 101 200 true).run prog w=.ok (.tuple #[.agg #[.string ⟨#[]⟩,Q1 0,.nilIface],.bool false]) w:=by kernel_rfl
theorem aM4(v:Value)(w:World):(Instr.typeAssert (.iface 270 v) 101 270 true).run prog w=.ok (.tuple #[v,.bool true]) w:=by kernel_rfl
theorem aHE(v:Value)(w:World):(Instr.typeAssert (.iface 270 v) 101 205 true).run prog w=.ok (.tuple #[.agg #[.nilIface,.bool false],.bool false]) w:=by kernel_rfl
theorem aG5(v:Value)(w:World):(Instr.typeAssert (.iface 270 v) 101 196 true).run prog w=.ok (.tuple #[.agg #[.string ⟨#[]⟩,Q1 0],.bool false]) w:=by kernel_rfl
theorem aJK(v:Value)(w:World):(Instr.typeAssert (.iface 270 v) 101 261 true).run prog w=.ok (.tuple #[.agg #[.nilIface,.nilIface,.nilIface],.bool false]) w:=by kernel_rfl
theorem aID(v:Value)(w:World):(Instr.typeAssert (.iface 270 v) 101 263 true).run prog w=.ok (.tuple #[.agg #[.slice none 0 0],.bool false]) w:=by kernel_rfl
theorem aI7(v:Value)(w:World):(Instr.typeAssert (.iface 270 v) 101 264 true).run prog w=.ok (.tuple #[.agg #[.string ⟨#[]⟩,Q1 0,.nilIface],.bool false]) w:=by kernel_rfl
theorem aH7(v:Value)(w:World):(Instr.typeAssert (.iface 270 v) 101 200 true).run prog w=.ok (.tuple #[.agg #[.string ⟨#[]⟩,Q1 0,.nilIface],.bool false]) w:=by kernel_rfl
theorem aGU(v:Value)(w:World):(Instr.typeAssert (.iface 270 v) 101 269 true).run prog w=.ok (.tuple #[.agg #[.slice none 0 0,.nilIface],.bool false]) w:=by kernel_rfl
def CaR(L:Lo)(M O P:Q5)(w:World)(F:Fg)(W:PW)(N:Nat)(sc:List (List AE))(ks:List PF)(rb:Nat)(w2:World):Prop:=∃M2 G us,Cmp L M O P w F W M2 w2 G (N+OT ks)/\rb<w2.heap.size/\Sl M2 w2 TCod 1 (.slice (some ⟨rb,0,none⟩) ks.length ks.length) us.length us/\us.length=ks.length/\∀(i:Nat)(u:Value)(x:PF),us[i]?=some u->ks[i]?=some x->RC M2 w2 G u x sc
def CmpR(L:Lo)(M O P:Q5)(w:World)(F:Fg)(W:PW)(f:PF)(sc:List (List AE))(N:Nat)(e:Ending)(w':World):Prop:=CmpQ L M O P w F W f sc N e w'/\∃k c,e=.returned (fnV k c)
theorem CmpQ.after{M2:Q5}{w':World}{G:Fg}{f:PF}{sc:List (List AE)}{N2 N3:Nat}{e:Ending}(c:Cmp L M O P w F W M2 w2 G N)(h:CmpQ L M2 O P w2 G W f sc N2 e w')(b:N2<=N3):CmpR L M O P w F W f sc N3 e w':=by obtain⟨u,d,g,rfl,i,a⟩:=h;obtain⟨k,j,rfl⟩:=a.func;exact⟨⟨_,d,g,rfl,(c.trans i).up b,a⟩,k,j,rfl⟩
theorem ca_any{sc:List (List AE)}(r:CaR L M O P w F W N sc ks rb w2){u0:Value}{x0:PF}(t:CP M w F.s u0 x0)(y:CmpOk L O W x0)(z:ScR M w F.s av sc)(nm:AE)(d:Pl.A9)(v:PV)(ns:List AE)(A:sc.length+IU (.mk .call nm d v (x0::ks) ns)<=1100)(B:N+IU (.mk .call nm d v (x0::ks) ns)<=9000000000000000000)(C:ks.length+1<=2000)(w':World)(n:Q3 w2 w') :Q2 180 #[Q0 L.sb,u0,av] w' fun e o=>∃f g,e=.returned (.func (.func f) #[] g)/\Q2 216 #[.func (.func f) #[] g,.slice (some ⟨rb,0,none⟩) ks.length ks.length] o (CmpR L M O P w F W (.mk .call nm d v (x0::ks) ns) sc (N+IU (.mk .call nm d v (x0::ks) ns))):=by obtain⟨p,G,H,c,h,j,k,l⟩:=r;have a:=c.below n;rw [OL,ZL] at A B ⊢;refine(y p P w' G _ u0 av sc a.fw a.cr (t.go a.AQ a.le.s) (z.go a.AQ a.le.s) x8 x8).mono (fun e o m=>?_);obtain⟨u,I,J,rfl,b,q⟩:=m;obtain⟨f,g,rfl⟩:=q.func;have s:=(Stp.AA (M:=p) n).trans b.AQ;exact⟨f,g,rfl,(aI2 b.fw b.cr q (l_ h s.size) (j.AQ s) k (fun i u x D E=>(l i u x D E).go s b.le) C nm d v ns).mono (fun e K m=>m.after (a.trans b) x8)⟩
theorem ca_glob{sc:List (List AE)}(o:CaR L M O P w F W N sc ks rb w2)(p:F.s.ns[k]?=some nm')(q:scF sc nm'=none)(nm:AE)(d:Pl.A9)(v:PV)(ns:List AE)(f:Pl.A9)(v':PV)(a:List PF)(b:List AE)(B:N+IU (.mk .call nm d v (.mk .name nm' f v' a b::ks) ns)<=9000000000000000000)(r:ks.length+1<=2000)(w':World)(n:Q3 w2 w') :Q2 215 #[Q0 L.sb,.agg #[.string ⟨nm'.toArray⟩,Q1 k],.slice (some ⟨rb,0,none⟩) ks.length ks.length] w' (CmpR L M O P w F W (.mk .call nm d v (.mk .name nm' f v' a b::ks) ns) sc (N+IU (.mk .call nm d v (.mk .name nm' f v' a b::ks) ns))):=by
 obtain⟨t,G,C,c,g,h,j,l⟩:=o;have m:=c.below n;have s:=Stp.AA (M:=t) n;have e:N+OT ks+1+1<=N+IU (.mk .call nm d v (.mk .name nm' f v' a b::ks) ns):=by rw [OL,ZL];have:=aGO (.mk .name nm' f v' a b);omega
 exact(aKF m.fw m.cr (bS c.le.s.ns p) (l_ g s.size) (h.AQ s) j (fun i u x y z=>(l i u x y z).go s (Fg.Le.refl _)) q r x8 nm d v ns f v' a b).mono (fun D E A=>A.after m e)
theorem ca_lam{sc:List (List AE)}(B:CaR L M O P w F W N sc ks rb w2){sl:Value}{ns':List AE}(j:EI M w F.s sl ns')(C:CP M w F.s a x)(D:CmpOk L O W x)(E:ScR M w F.s av sc)(nm:AE)(d:Pl.A9)(v:PV)(ns:List AE)(f:AE)(k:Pl.A9)(v':PV)(H:sc.length+IU (.mk .call nm d v (.mk .lambda f k v' [x] ns'::ks) ns)<=1100)(I:N+IU (.mk .call nm d v (.mk .lambda f k v' [x] ns'::ks) ns)<=9000000000000000000)(X:ks.length+1<=2000)(w':World)(z:Q3 w2 w') :Q2 212 #[Q0 L.sb,.agg #[sl,a],av] w' fun e p=>∃l m,e=.returned (.func (.func l) #[] m)/\(∀b,w2.heap.size<=b->b<w'.heap.size->p.heap[b]?=w'.heap[b]?)/\Q2 214 #[Q1 ns'.length,.func (.func l) #[] m,.slice (some ⟨rb,0,none⟩) ks.length ks.length] p (fun e q=>CmpR L M O P w F W (.mk .call nm d v (.mk .lambda f k v' [x] ns'::ks) ns) sc (N+IU (.mk .call nm d v (.mk .lambda f k v' [x] ns'::ks) ns)) e q/\∀b,w2.heap.size<=b->b<w'.heap.size->q.heap[b]?=w'.heap[b]?):=by
 obtain⟨J,G,Y,c,K,r,t,y⟩:=B;have g:=c.below z;rw [OL,ZL,aH2] at H I ⊢;refine(p_body g.fw g.cr (j.go g.AQ g.le.s) (C.go g.AQ g.le.s) D (E.go g.AQ g.le.s) x8 x8).mono (fun e p n=>?_);obtain⟨u,Z,G5,rfl,h,A⟩:=n;obtain⟨l,m,rfl⟩:=A.func;have s:=(Stp.AA (M:=J) z).trans h.AQ;refine⟨l,m,rfl,fun b Q o=>(h.AQ.block b o (fun x=>by have:=c.mlt b x;omega)).1,?_⟩
 exact(aLE h.fw h.cr j.nodup A (r.AQ s) t (fun i u x R S=>(y i u x R S).go s h.le) x8 nm d v ns f k v').mono (fun e q n=>⟨n.after (g.trans h) x8,fun b Q o=>by
  obtain⟨_,_,_,_,T,_⟩:=n;obtain⟨U,V⟩:=h.AQ.block b o (fun x=>by have:=c.mlt b x;omega)
  exact(T.AQ.block b (l_ o h.AQ.size) V).1.trans U⟩)
def TCal:TypeId:=270
theorem Sl.tailC{T:TypeId}{u:Value}(h:Sl M w T 1 (.slice (some ⟨g,off,none⟩) m (c+1)) (us.length+1) (u::us)):m=us.length+1/\us.length<=c/\¬M g/\g<w.heap.size/\w.cell? ⟨g,off,none⟩=some u/\Sl M w T 1 (.slice (some ⟨g,off+1,none⟩) us.length c) us.length us/\∀a f,us=[]->Sl M w T 1 (.slice a 0 f) us.length us:=by
 obtain⟨_,a,o,e,q,j⟩:=h;simp only [Value.slice.injEq] at e;obtain⟨rfl,rfl,rfl⟩:=e;rcases j with j | ⟨r,k,b,e,l,d,n⟩
 ·omega
 ·simp only [o_,Addr.mk.injEq,and_true] at e;obtain⟨rfl,rfl⟩:=e;refine⟨rfl,x8,l,aB d,(aA d off).trans (by simpa using n 0 u rfl),⟨w9,_,_,rfl,x8,.inr ⟨g,off+1,b,rfl,l,d,fun i v p=>?_⟩⟩,fun a f e=>?_⟩
  ·have:=n (i+1) v (by simpa using p);rw [<- this]
   congr 1
   omega
  ·subst e;exact⟨rfl,_,_,rfl,Nat.zero_le _,.inl rfl⟩
def CaQ(L:Lo)(M O P:Q5)(w:World)(F:Fg)(W:PW)(N:Nat)(sc:List (List AE))(ks:List PF)(g off:Nat)(sl u0:Value)(e:Ending)(w2:World):Prop:=∃rb,e=.returned (.slice (some ⟨rb,0,none⟩) ks.length ks.length)/\w2.cell? ⟨w.heap.size,0,none⟩=some sl/\w.heap.size<w2.heap.size/\w2.cell? ⟨g,off,none⟩=some u0/\g<w2.heap.size/\CaR L M O P w F W N sc ks rb w2
theorem aIQ(h:FW L M O w F N W)(E:∀k,P k->Cr M w F k){u0:Value}(C:Sl M w D8 1 (.slice (some ⟨g,off,none⟩) m (c+1)) (us.length+1) (u0::us))(f:us.length=ks.length)(H:∀(i:Nat)(u:Value)(x:PF),us[i]?=some u->ks[i]?=some x->CP M w F.s u x)(I:∀(i:Nat)(x:PF),ks[i]?=some x->CmpOk L O W x){sc:List (List AE)}(J:ScR M w F.s av sc)(K:sc.length+OT ks<=1100)(Q:N+OT ks<=9000000000000000000)(R:ks.length<=2000)(a:Value)(j:a=.slice (some ⟨g,off+1,none⟩) us.length c\/(us=[]/\∃l n,a=.slice l 0 n)) :Q2 190 #[Q0 L.sb,a,av] (w.alloc (.cells #[.slice (some ⟨g,off,none⟩) m (c+1)] TCal)) (CaQ L M O P w F W N sc ks g off (.slice (some ⟨g,off,none⟩) m (c+1)) u0):=by
 obtain⟨rfl,_,hm,hg,o,S,p⟩:=C.tailC;have q:Q3 w (w.alloc (.cells #[.slice (some ⟨g,off,none⟩) (us.length+1) (c+1)] TCal)):=b_;have r:=(Cmp.refl h E).below q;have s:=Stp.AA (M:=M) q;have D:Bx M (w.alloc (.cells #[.slice (some ⟨g,off,none⟩) (us.length+1) (c+1)] TCal)) w.heap.size (.slice (some ⟨g,off,none⟩) (us.length+1) (c+1)) TCal:=aGH h.mlt (aF7 rfl)
 have b:Sl M w D8 1 a us.length us:=by
  rcases j with rfl | ⟨e,l,n,rfl⟩
  ·exact S
  ·exact p l n e
 refine(aLA r.fw r.cr (b.AQ s) f (fun i u x T U=>(H i u x T U).go s (Sg.Le.refl _)) I (J.go s (Sg.Le.refl _)) K Q R).mono (fun e w2 V=>?_);obtain⟨X,Y,G,t,rfl,d,v,y,z,A⟩:=V;obtain⟨_,_,_,Z,B,_⟩:=((C.AQ s).AQ d.AQ).tailC
 exact⟨X,rfl,(D.go d.AQ).cell,aB (D.go d.AQ).2,B,by
  have:=q.size;have:=d.AQ.size
  omega,Y,G,t,r.trans d,v,y,z,A⟩
theorem aGI(h:FW L M O w F N W)(K:∀k,P k->Cr M w F k)(l:us.length=ks.length)(Q:∀(i:Nat)(u:Value)(x:PF),us[i]?=some u->ks[i]?=some x->CP M w F.s u x)(R:∀(i:Nat)(x:PF),ks[i]?=some x->CmpOk L O W x){sc:List (List AE)}(r:ScR M w F.s av sc)(Z:ks.length+1<=2000)(nm:AE)(d:Pl.A9)(v:PV)(ns:List AE){T:TypeId}{y:Value}{x0:PF}(s:Sl M w D8 1 (.slice (some ⟨g,off,none⟩) m (c+1)) (us.length+1) (.iface T y::us))(n:CP M w F.s (.iface T y) x0)(o:CmpOk L O W x0)(A:sc.length+IU (.mk .call nm d v (x0::ks) ns)<=1100)(B:N+IU (.mk .call nm d v (x0::ks) ns)<=9000000000000000000)(zl zn:Value)(fl:∀w,(Instr.typeAssert (.iface T y) 101 269 true).run prog w=.ok (.tuple #[zl,.bool false]) w)(fn:∀w,(Instr.typeAssert (.iface T y) 101 196 true).run prog w=.ok (.tuple #[zn,.bool false]) w) :Q2 194 #[Q0 L.sb,.agg #[.slice (some ⟨g,off,none⟩) m (c+1)],av] w (CmpQ L M O P w F W (.mk .call nm d v (x0::ks) ns) sc (N+IU (.mk .call nm d v (x0::ks) ns))):=by
 have j:sc.length+OT ks<=1100/\N+OT ks<=9000000000000000000:=by rw [OL,ZL] at A B;omega
 have S:Hid (∀a,(a=.slice (some ⟨g,off+1,none⟩) (m-1) c\/(c=0/\∃C D,a=.slice C (m-1) D))->Q2 190 #[Q0 L.sb,a,av] (w.alloc (.cells #[.slice (some ⟨g,off,none⟩) m (c+1)] TCal)) fun e b=>∃p,e=.returned (.slice (some ⟨p,0,none⟩) ks.length ks.length)/\b.cell? ⟨w.heap.size,0,none⟩=some (.slice (some ⟨g,off,none⟩) m (c+1))/\w.heap.size<b.heap.size/\b.cell? ⟨g,off,none⟩=some (.iface T y)/\g<b.heap.size/\∀t,Q3 b t->Q2 180 #[Q0 L.sb,.iface T y,av] t fun e U=>∃E G,e=.returned (.func (.func E) #[] G)/\Q2 216 #[.func (.func E) #[] G,.slice (some ⟨p,0,none⟩) ks.length ks.length] U (CmpR L M O P w F W (.mk .call nm d v (x0::ks) ns) sc (N+IU (.mk .call nm d v (x0::ks) ns)))):=fun a H=>(aIQ h K s l Q R r j.1 j.2 x8 a (by
  obtain⟨I,q,_⟩:=s.tailC;rcases H with rfl | ⟨e,C,D,rfl⟩
  ·left;rw [I];simp
  ·right;exact⟨List.length_eq_zero_iff.1 x8,C,D,zP7⟩)).mono (fun e b hq=>by
  obtain⟨p,rfl,q1,q2,q3,q4,z⟩:=hq;refine⟨p,rfl,q1,q2,q3,q4,?_⟩
  exact fun t hB=>ca_any z n o r nm d v ns A B Z t hB)
 obtain⟨I,q,_,aa,_,_,_⟩:=s.tailC;have ab:(0:Int)<(m:Int):=by omega
 have ac:(1:Int)<=(m:Int):=by omega
 obtain⟨oa,rfl⟩:=r.ptr;obtain⟨f,V⟩:∃f,f=Pl.PF.mk .call nm d v (x0::ks) ns:=⟨_,rfl⟩
 rw [<- V] at S ⊢;clear h K l Q R r s n o A B j I q V;go_enter func194,ntmps194;rcases c with _ | c
 all_goals
  go_wp2_with (first
   | (go_at_call 190;refine(Calls.mono (S _ zM8) ?_);rintro e b ⟨p,rfl,d0,dl,d1,dg,z⟩;have HR:=(show Hid _ from z);clear z)
   | (go_at_call 180;refine(Calls.mono (HR _ r_) ?_);rintro e U ⟨E,G,rfl,X⟩;have HH:=(show Hid _ from X);clear X)
   | (go_at_call 216;refine(Calls.mono HH ?_);rintro e w6 ⟨Y,k6,c6,rfl⟩;have J:=(show Hid _ from Y);clear Y))
  go_ret;exact J
theorem aJ9(h:FW L M O w F N W)(hP:∀k,P k->Cr M w F k)(B:us.length=ks.length)(hx:∀(i:Nat)(u:Value)(x:PF),us[i]?=some u->ks[i]?=some x->CP M w F.s u x)(ih:∀(i:Nat)(x:PF),ks[i]?=some x->CmpOk L O W x){sc:List (List AE)}(C:ScR M w F.s av sc)(h5:ks.length+1<=2000)(nm:AE)(d:Pl.A9)(v:PV)(ns:List AE)(l:Pl.A9)(v':PV)(a:List PF)(b:List AE)(Q:Sl M w D8 1 (.slice (some ⟨g,off,none⟩) m (c+1)) (us.length+1) (.iface 196 (.agg #[.string ⟨nm'.toArray⟩,Q1 k])::us))(R:F.s.ns[k]?=some nm')(D:CmpOk L O W (.mk .name nm' l v' a b))(V:sc.length+IU (.mk .call nm d v (.mk .name nm' l v' a b::ks) ns)<=1100)(S:N+IU (.mk .call nm d v (.mk .name nm' l v' a b::ks) ns)<=9000000000000000000) :Q2 194 #[Q0 L.sb,.agg #[.slice (some ⟨g,off,none⟩) m (c+1)],av] w (CmpQ L M O P w F W (.mk .call nm d v (.mk .name nm' l v' a b::ks) ns) sc (N+IU (.mk .call nm d v (.mk .name nm' l v' a b::ks) ns))):=by
 have r:sc.length+OT ks<=1100/\N+OT ks<=9000000000000000000:=by rw [OL,ZL] at V S;omega
 have HC:Hid (∀n,(n=.slice (some ⟨g,off+1,none⟩) (m-1) c\/(c=0/\∃X Y,n=.slice X (m-1) Y))->Q2 190 #[Q0 L.sb,n,av] (w.alloc (.cells #[.slice (some ⟨g,off,none⟩) m (c+1)] TCal)) fun e j=>∃t,e=.returned (.slice (some ⟨t,0,none⟩) ks.length ks.length)/\j.cell? ⟨w.heap.size,0,none⟩=some (.slice (some ⟨g,off,none⟩) m (c+1))/\w.heap.size<j.heap.size/\j.cell? ⟨g,off,none⟩=some (.iface 196 (.agg #[.string ⟨nm'.toArray⟩,Q1 k]))/\g<j.heap.size/\((∀o,Q3 j o->Q2 180 #[Q0 L.sb,.iface 196 (.agg #[.string ⟨nm'.toArray⟩,Q1 k]),av] o fun e w5=>∃Z cu,e=.returned (.func (.func Z) #[] cu)/\Q2 216 #[.func (.func Z) #[] cu,.slice (some ⟨t,0,none⟩) ks.length ks.length] w5 (CmpR L M O P w F W (.mk .call nm d v (.mk .name nm' l v' a b::ks) ns) sc (N+IU (.mk .call nm d v (.mk .name nm' l v' a b::ks) ns))))/\(scF sc nm'=none->∀o,Q3 j o->Q2 215 #[Q0 L.sb,.agg #[.string ⟨nm'.toArray⟩,Q1 k],.slice (some ⟨t,0,none⟩) ks.length ks.length] o (CmpR L M O P w F W (.mk .call nm d v (.mk .name nm' l v' a b::ks) ns) sc (N+IU (.mk .call nm d v (.mk .name nm' l v' a b::ks) ns))))/\Q2 199 #[av,.agg #[.string ⟨nm'.toArray⟩,Q1 k]] (j.alloc (.cells #[.string ⟨nm'.toArray⟩,Q1 k] B6)) fun e y=>(Q3 j y/\y.heap[j.heap.size]?=some (.cells #[.string ⟨nm'.toArray⟩,Q1 k] B6 (0,0)))/\FndQ sc nm' e)):=fun n aa=>(aIQ h hP Q B hx ih C r.1 r.2 x8 n (by
  obtain⟨hm,E,_⟩:=Q.tailC;rcases aa with rfl | ⟨e,X,Y,rfl⟩
  ·left;rw [hm];simp
  ·right;exact⟨List.length_eq_zero_iff.1 x8,X,Y,zP7⟩)).mono (fun e j hq=>by
  obtain⟨t,rfl,q1,q2,q3,q4,z⟩:=hq;refine⟨t,rfl,q1,q2,q3,q4,?_⟩;refine⟨fun o A=>ca_any z (.name k nm' l v' a b R) D C nm d v ns V S h5 o A,fun T o A=>ca_glob z R T nm d v ns l v' a b S h5 o A,?_⟩;obtain⟨M2,G,_,U,_⟩:=z;have A:Q3 j (j.alloc (.cells #[.string ⟨nm'.toArray⟩,Q1 k] B6)):=b_
  exact(aK6 M2 _ G.s _ sc nm' k U.fw.nd ((C.go U.AQ U.le.s).go (Stp.AA A) (Sg.Le.refl _)) (bS U.le.s.ns R) x8).mono (fun e y ⟨j1,j2⟩=>⟨⟨A.trans (j1.mono w9),(j1.block _ w9).trans (heap_alloc_new j _)⟩,j2⟩))
 obtain⟨hm,E,_,ac,_,_,_⟩:=Q.tailC;have ad:(0:Int)<(m:Int):=by omega
 have ae:(1:Int)<=(m:Int):=by omega
 obtain⟨oa,rfl⟩:=C.ptr;obtain⟨f,T⟩:∃f,f=Pl.PF.mk .call nm d v (.mk .name nm' l v' a b::ks) ns:=⟨_,rfl⟩
 rw [<- T] at HC ⊢;have fy:=aJ5;have fl:=aH3;clear h hP B hx ih C Q R D V S r hm E T;go_enter func194,ntmps194;rcases c with _ | c
 all_goals
  go_wp2_with (first
   | (go_at_call 190;refine(Calls.mono (HC _ zM8) ?_);rintro e j ⟨t,rfl,d0,dl,d1,dg,z⟩;have HR:=(show Hid _ from z);clear z)
   | (go_at_call 199;refine(Calls.mono HR.2.2 ?_);rintro e y ⟨⟨q,s⟩,ab⟩;have H:=(show Hid _ from q);have e0:=(q.cell (p:=⟨w.heap.size,0,none⟩) dl).trans d0;have e1:=(q.cell (p:=⟨g,off,none⟩) dg).trans d1;have x0:y.cell? ⟨j.heap.size,0,none⟩=some (.string ⟨nm'.toArray⟩):=aA s 0;have x1:y.cell? ⟨j.heap.size,1,none⟩=some (Q1 k):=aA s 1;clear q s;rcases ab with⟨dp,ix,I,_,_,rfl⟩ | ⟨I,rfl⟩)
   | (go_at_call 180;refine(Calls.mono (HR.1 _ H) ?_);rintro e w5 ⟨Z,cu,rfl,hh⟩;have HH:=(show Hid _ from hh);clear hh)
   | (go_at_call 215;refine(Calls.mono (HR.2.1 I _ H) ?_);rintro e w6 ⟨J,k6,c6,rfl⟩;have K:=(show Hid _ from J);clear J)
   | (go_at_call 216;refine(Calls.mono HH ?_);rintro e w6 ⟨J,k6,c6,rfl⟩;have K:=(show Hid _ from J);clear J))
  all_goals
   go_ret;exact K
theorem aKA(h:FW L M O w F N W)(hP:∀k,P k->Cr M w F k)(B:us.length=ks.length)(hx:∀(i:Nat)(u:Value)(x:PF),us[i]?=some u->ks[i]?=some x->CP M w F.s u x)(ih:∀(i:Nat)(x:PF),ks[i]?=some x->CmpOk L O W x){sc:List (List AE)}(K:ScR M w F.s av sc)(h5:ks.length+1<=2000)(nm:AE)(d:Pl.A9)(v:PV)(ns:List AE){sl0 a0:Value}(o:Pl.A9)(v':PV){ns':List AE}(Q:Sl M w D8 1 (.slice (some ⟨g,off,none⟩) m (c+1)) (us.length+1) (.iface 269 (.agg #[sl0,a0])::us))(r:EI M w F.s sl0 ns')(s:CP M w F.s a0 x)(C:CmpOk L O W x)(U:sc.length+IU (.mk .call nm d v (.mk .lambda nm' o v' [x] ns'::ks) ns)<=1100)(V:N+IU (.mk .call nm d v (.mk .lambda nm' o v' [x] ns'::ks) ns)<=9000000000000000000) :Q2 194 #[Q0 L.sb,.agg #[.slice (some ⟨g,off,none⟩) m (c+1)],av] w (CmpQ L M O P w F W (.mk .call nm d v (.mk .lambda nm' o v' [x] ns'::ks) ns) sc (N+IU (.mk .call nm d v (.mk .lambda nm' o v' [x] ns'::ks) ns))):=by
 have t:sc.length+OT ks<=1100/\N+OT ks<=9000000000000000000:=by rw [OL,ZL] at U V;omega
 have HC:Hid (∀l,(l=.slice (some ⟨g,off+1,none⟩) (m-1) c\/(c=0/\∃y X,l=.slice y (m-1) X))->Q2 190 #[Q0 L.sb,l,av] (w.alloc (.cells #[.slice (some ⟨g,off,none⟩) m (c+1)] TCal)) fun e a=>∃D,e=.returned (.slice (some ⟨D,0,none⟩) ks.length ks.length)/\a.cell? ⟨w.heap.size,0,none⟩=some (.slice (some ⟨g,off,none⟩) m (c+1))/\w.heap.size<a.heap.size/\a.cell? ⟨g,off,none⟩=some (.iface 269 (.agg #[sl0,a0]))/\g<a.heap.size/\∀p,Q3 a p->Q2 212 #[Q0 L.sb,.agg #[sl0,a0],av] p fun e R=>∃Y Z,e=.returned (.func (.func Y) #[] Z)/\(∀b,a.heap.size<=b->b<p.heap.size->R.heap[b]?=p.heap[b]?)/\Q2 214 #[Q1 ns'.length,.func (.func Y) #[] Z,.slice (some ⟨D,0,none⟩) ks.length ks.length] R (fun e S=>CmpR L M O P w F W (.mk .call nm d v (.mk .lambda nm' o v' [x] ns'::ks) ns) sc (N+IU (.mk .call nm d v (.mk .lambda nm' o v' [x] ns'::ks) ns)) e S/\∀b,a.heap.size<=b->b<p.heap.size->S.heap[b]?=p.heap[b]?)):=fun l aa=>(aIQ h hP Q B hx ih K t.1 t.2 x8 l (by
  obtain⟨hm,E,_⟩:=Q.tailC;rcases aa with rfl | ⟨e,y,X,rfl⟩
  ·left;rw [hm];simp
  ·right;exact⟨List.length_eq_zero_iff.1 x8,y,X,zP7⟩)).mono (fun e a hq=>by
  obtain⟨D,rfl,q1,q2,q3,q4,T⟩:=hq;refine⟨D,rfl,q1,q2,q3,q4,?_⟩
  exact fun p hB=>ca_lam T r s C K nm d v ns nm' o v' U V h5 p hB)
 obtain⟨hm,E,_,ae,_,_,_⟩:=Q.tailC;have af:(0:Int)<(m:Int):=by omega
 have ag:(1:Int)<=(m:Int):=by omega
 obtain⟨oa,rfl⟩:=K.ptr;obtain⟨f,hf⟩:∃f,f=Pl.PF.mk .call nm d v (.mk .lambda nm' o v' [x] ns'::ks) ns:=⟨_,rfl⟩
 rw [<- hf] at HC ⊢;have fy:=aIE;obtain⟨n,j,rfl⟩:∃y z,sl0=.slice y ns'.length z:=by obtain⟨⟨_,_,h2⟩,_,_⟩:=r;obtain⟨y,z,e,_⟩:=h2.shape;exact⟨y,z,e⟩
 obtain⟨G,H,rfl⟩:=s.iface;clear h hP B hx ih K Q r s C U V t hm E hf;go_enter func194,ntmps194;rcases c with _ | c
 all_goals
  go_upto_region 5 with(go_at_call 190;refine(Calls.mono (HC _ zM8) ?_);rintro e a ⟨D,rfl,d0,dl,d1,dg,T⟩;have HR:=(show Hid _ from T);clear T)
  have HS:Hid (∀A:World,A.heap[a.heap.size]?=some (.cells #[.slice n ns'.length j,.iface G H] TLam (0,0))->A.cell? ⟨a.heap.size,0,none⟩=some (.slice n ns'.length j)/\A.cell? ⟨a.heap.size,1,none⟩=some (.iface G H)):=fun A q=>⟨aA q 0,aA q 1⟩
  go_region_held3 (fun A=>A.cell? ⟨a.heap.size,0,none⟩=some (.slice n ns'.length j)/\A.cell? ⟨a.heap.size,1,none⟩=some (.iface G H))
   ((refine HS.out _ ?_;first | exact ab.out | exact ac.out | exact aF6 (aF7 rfl) | exact aF7 rfl))
   ((first
    | (go_at_call 212;refine(Calls.mono (HR _ n8) ?_);rintro e R ⟨Y,Z,rfl,I,hh⟩;have J:R.heap[a.heap.size]?=some (.cells #[.slice n ns'.length j,.iface G H] TLam (0,0)):=(I _ n_ w9).trans (aF6 (aF7 rfl));have ac:=(show Hid _ from J);have HH:=(show Hid _ from hh);clear J I hh)
    | (go_at_call 214;refine(Calls.mono HH ?_);rintro e S ⟨⟨hp,k6,c6,rfl⟩,I⟩;have J:S.heap[a.heap.size]?=some (.cells #[.slice n ns'.length j,.iface G H] TLam (0,0)):=(I _ n_ w9).trans (aF6 (aF7 rfl));have ab:=(show Hid _ from J);have ad:=(show Hid _ from hp);clear hp I J)))
  all_goals
   go_wp2_with fail
   go_ret;exact ad
theorem aH8(L:Lo)(w:World)(d:Option Addr)(T:TypeId)(y:Value)(q:Bool)(Q:Ending->World->Prop)(f:Hid (Q2 186 #[.iface T y] (w.alloc (.cells #[.iface T y,.bool q] 205)) fun e g=>Q e g/\∃k c,e=.returned (fnV k c))) :Q2 180 #[Q0 L.sb,.iface 205 (.agg #[.iface T y,.bool q]),.pointer d] w Q:=by have h:=aI6;go_enter func180,ntmps180;go_wp2_with (go_at_call 186;refine(Calls.mono f ?_);rintro e i ⟨b,j,l,rfl⟩;have a:=(show Hid _ from b);clear b);exact a
theorem aJ7(L:Lo)(w:World)(b:Option Addr)(nm:AE)(k:Nat)(Q:Ending->World->Prop)(f:Hid (Q2 187 #[Q0 L.sb,.agg #[.string ⟨nm.toArray⟩,Q1 k],.pointer b] (w.alloc (.cells #[.string ⟨nm.toArray⟩,Q1 k] 196)) fun e g=>Q e g/\∃k c,e=.returned (fnV k c))) :Q2 180 #[Q0 L.sb,.iface 196 (.agg #[.string ⟨nm.toArray⟩,Q1 k]),.pointer b] w Q:=by have i:=aJ5;have h:=aHA;go_enter func180,ntmps180;go_wp2_with (go_at_call 187;refine(Calls.mono f ?_);rintro e j ⟨d,l,m,rfl⟩;have a:=(show Hid _ from d);clear d);exact a
theorem aKT(L:Lo)(w:World)(b:Option Addr)(nm:AE)(k:Nat)(T:TypeId)(y:Value)(Q:Ending->World->Prop)(f:Hid (Q2 191 #[Q0 L.sb,.agg #[.string ⟨nm.toArray⟩,Q1 k,.iface T y],.pointer b] (w.alloc (.cells #[.string ⟨nm.toArray⟩,Q1 k,.iface T y] 264)) fun e g=>Q e g/\∃k c,e=.returned (fnV k c))) :Q2 180 #[Q0 L.sb,.iface 264 (.agg #[.string ⟨nm.toArray⟩,Q1 k,.iface T y]),.pointer b] w Q:=by have m:=ffy_Set;have h:=aHN;have i:=aHI;have j:=aKL;have l:=aIM;go_enter func180,ntmps180;go_wp2_with (go_at_call 191;refine(Calls.mono f ?_);rintro e n ⟨d,o,p,rfl⟩;have a:=(show Hid _ from d);clear d);exact a
theorem aIV(L:Lo)(w:World)(b:Option Addr)(nm:AE)(k:Nat)(T:TypeId)(y:Value)(Q:Ending->World->Prop)(f:Hid (Q2 192 #[Q0 L.sb,.agg #[.string ⟨nm.toArray⟩,Q1 k,.iface T y],.pointer b] (w.alloc (.cells #[.string ⟨nm.toArray⟩,Q1 k,.iface T y] 200)) fun e g=>Q e g/\∃k c,e=.returned (fnV k c))) :Q2 180 #[Q0 L.sb,.iface 200 (.agg #[.string ⟨nm.toArray⟩,Q1 k,.iface T y]),.pointer b] w Q:=by have n:=aKK;have h:=aG1;have i:=aGT;have j:=aIP;have l:=aHP;have m:=aIC;go_enter func180,ntmps180;go_wp2_with (go_at_call 192;refine(Calls.mono f ?_);rintro e o ⟨d,p,q,rfl⟩;have a:=(show Hid _ from d);clear d);exact a
theorem aIU(L:Lo)(w:World)(f:Option Addr)(b:Option Addr)(n a:Nat)(T:TypeId)(y:Value)(Q:Ending->World->Prop)(h:Hid (Q2 193 #[Q0 L.sb,.agg #[.slice b n a,.iface T y],.pointer f] (w.alloc (.cells #[.slice b n a,.iface T y] 269)) fun e i=>Q e i/\∃k c,e=.returned (fnV k c))) :Q2 180 #[Q0 L.sb,.iface 269 (.agg #[.slice b n a,.iface T y]),.pointer f] w Q:=by have r:=aIE;have j:=aG0;have l:=aH4;have m:=aIN;have o:=aHO;have p:=aIB;have q:=aHB;go_enter func180,ntmps180;go_wp2_with (go_at_call 193;refine(Calls.mono h ?_);rintro e s ⟨g,t,u,rfl⟩;have d:=(show Hid _ from g);clear g);exact d
theorem aJ8(L:Lo)(w:World)(f:Option Addr)(b:Option Addr)(n a:Nat)(Q:Ending->World->Prop)(h:Hid (Q2 194 #[Q0 L.sb,.agg #[.slice b n a],.pointer f] (w.alloc (.cells #[.slice b n a] 270)) fun e i=>Q e i/\∃k c,e=.returned (fnV k c))) :Q2 180 #[Q0 L.sb,.iface 270 (.agg #[.slice b n a]),.pointer f] w Q:=by have s:=aM4;have j:=aHE;have l:=aG5;have m:=aJK;have o:=aID;have p:=aI7;have q:=aH7;have r:=aGU;go_enter func180,ntmps180;go_wp2_with (go_at_call 194;refine(Calls.mono h ?_);rintro e t ⟨g,u,v,rfl⟩;have d:=(show Hid _ from g);clear g);exact d
theorem aJA(L:Lo)(w:World)(h c:Option Addr)(n a:Nat)(Q:Ending->World->Prop)(k:Hid (Q2 190 #[Q0 L.sb,.slice c n a,.pointer h] (w.alloc (.cells #[.slice c n a] 263)) fun e i=>∃b d f,e=.returned (.slice b d f)/\Q (.returned (fnV 206 #[pt i.heap.size])) (i.alloc (.cells #[.slice b d f] TCds)))) :Q2 180 #[Q0 L.sb,.iface 263 (.agg #[.slice c n a]),.pointer h] w Q:=by
 have p:=aLV;have l:=aG6;have m:=aGX;have o:=aI8;go_enter func180,ntmps180
 go_wp2_with (first
  | (go_at_call 190;refine(Calls.mono k ?_);rintro e q ⟨b,d,f,rfl,j⟩;have g:=(show Hid _ from j);clear j)
  | (go_at_call 189;refine(Calls.mono (p_rowMk _ _ _ _) ?_);rintro e r ⟨rfl,rfl⟩))
 exact g
def IfS(L:Lo)(M O P:Q5)(w:World)(F:Fg)(W:PW)(N:Nat)(sc:List (List AE))(a b c:Value)(A:Nat)(l:List (Value×PF))(wx:World):Prop:=∃M' G,Cmp L M O P w F W M' wx G (N+A)/\Bk M' wx w.heap.size #[a,b,c] 261/\∀p∈l,RC M' wx G p.1 p.2 sc
theorem aJH{sc:List (List AE)}{c:Value}(o:ScR M w F.s av sc){u:Value}(q:CP M w F.s u x)(r:CmpOk L O W x)(s:sc.length+IU x<=1100)(A:Nat)(l:List (Value×PF))(j:World)(t:N+A+IU x<=9000000000000000000)(h:IfS L M O P w F W N sc a b c A l j) :Q2 180 #[Q0 L.sb,u,av] j fun e m=>∃f g,e=.returned (fnV f g)/\IfS L M O P w F W N sc a b c (A+IU x) ((fnV f g,x)::l) m:=by
 obtain⟨y,G,d,z,B⟩:=h;refine(r y P j G _ u av sc d.fw d.cr (q.go d.AQ d.le.s) (o.go d.AQ d.le.s) s t).mono (fun e m C=>?_);obtain⟨v,D,E,rfl,i,n⟩:=C;obtain⟨f,g,rfl⟩:=n.func;refine⟨f,g,rfl,D,E,(d.trans i).up x8,z.go i.AQ,fun p k=>?_⟩;rcases List.mem_cons.1 k with rfl | k
 ·exact n
 ·exact(B p k).go i.AQ i.le
theorem if_end{sc:List (List AE)}{c:Value}{A:Nat}{l:List (Value×PF)}{wx:World}(h:IfS L M O P w F W N sc a b c A l wx){u1 u2 u3:Value}{y z:PF}(k:(u1,x)∈l)(m:(u2,y)∈l)(n:(u3,z)∈l)(nm:AE)(d:Pl.A9)(v:PV)(ns:List AE)(o:N+A<=N+IU (.mk .iff nm d v [x,y,z] ns)) :Q2 188 #[u1,u2,u3] wx fun e f=>CmpR L M O P w F W (.mk .iff nm d v [x,y,z] ns) sc (N+IU (.mk .iff nm d v [x,y,z] ns)) e f/\f.heap[w.heap.size]?=some (.cells #[a,b,c] 261 (0,0)):=by obtain⟨r,G,g,p,i⟩:=h;refine(aMV g.fw g.cr (i _ k) (i _ m) (i _ n) nm d v ns).mono (fun e f j=>⟨j.after g o,?_⟩);obtain⟨_,_,_,_,q,_⟩:=j;exact(p.go q.AQ).2
theorem aL5(h:FW L M O w F N W)(hP:∀k,P k->Cr M w F k){c:Value}{y z:PF}(I:CP M w F.s a x)(J:CP M w F.s b y)(K:CP M w F.s c z)(i1:CmpOk L O W x)(i2:CmpOk L O W y)(i3:CmpOk L O W z){sc:List (List AE)}(n:ScR M w F.s av sc)(nm:AE)(d:Pl.A9)(v:PV)(ns:List AE)(hl:sc.length+IU (.mk .iff nm d v [x,y,z] ns)<=1100)(hN:N+IU (.mk .iff nm d v [x,y,z] ns)<=9000000000000000000) :Q2 180 #[Q0 L.sb,.iface 261 (.agg #[a,b,c]),av] w (CmpQ L M O P w F W (.mk .iff nm d v [x,y,z] ns) sc (N+IU (.mk .iff nm d v [x,y,z] ns))):=by
 have j:IU (.mk .iff nm d v [x,y,z] ns)=1+(IU x+(IU y+IU z)):=by rw [OL,ZL,ZL,ZL,aA5];omega
 obtain⟨f,Q⟩:∃f,f=Pl.PF.mk .iff nm d v [x,y,z] ns:=⟨_,rfl⟩
 rw [<- Q] at hl hN j ⊢
 have HU:Hid (∀A l g u m,((u=a/\m=x)\/(u=b/\m=y)\/(u=c/\m=z))->A+IU m<=IU x+IU y+IU z->IfS L M O P w F W N sc a b c A l g->Q2 180 #[Q0 L.sb,u,av] g fun e E=>∃R S,e=.returned (fnV R S)/\IfS L M O P w F W N sc a b c (A+IU m) ((fnV R S,m)::l) E):=fun A l g u m G hA q=>by
  rcases G with⟨rfl,rfl⟩ | ⟨rfl,rfl⟩ | ⟨rfl,rfl⟩
  ·exact aJH n I i1 x8 A l g x8 q
  ·exact aJH n J i2 x8 A l g x8 q
  ·exact aJH n K i3 x8 A l g x8 q
 have HZ:Hid (∀A l g T U V,A<=IU x+IU y+IU z->(T,x)∈l->(U,y)∈l->(V,z)∈l->IfS L M O P w F W N sc a b c A l g->Q2 188 #[T,U,V] g fun e E=>CmpR L M O P w F W f sc (N+IU f) e E/\E.heap[w.heap.size]?=some (.cells #[a,b,c] 261 (0,0))):=fun A l g T U V hA q1 q2 q3 q=>by subst Q;exact if_end q q1 q2 q3 nm d v ns x8
 have i:Hid (IfS L M O P w F W N sc a b c 0 [] (w.alloc (.cells #[a,b,c] 261)).drew):=by have hB:Q3 w (w.alloc (.cells #[a,b,c] 261)).drew:=b_.drew;exact⟨M,F,(Cmp.refl h hP).below hB,⟨fun q=>Nat.lt_irrefl _ (h.mlt _ q),aF6 (aF7 rfl)⟩,fun p H=>by cases H⟩
 obtain⟨o,r,rfl⟩:=I.iface;obtain⟨s,t,rfl⟩:=J.iface;obtain⟨B,C,rfl⟩:=K.iface;obtain⟨oa,rfl⟩:=n.ptr;have HS:Hid (∀g:World,g.heap[w.heap.size]?=some (.cells #[.iface o r,.iface s t,.iface B C] 261 (0,0))->g.cell? ⟨w.heap.size,0,none⟩=some (.iface o r)/\g.cell? ⟨w.heap.size,1,none⟩=some (.iface s t)/\g.cell? ⟨w.heap.size,2,none⟩=some (.iface B C)):=fun g q=>⟨aA q 0,aA q 1,aA q 2⟩
 have X:Hid (∀A l g,IfS L M O P w F W N sc (.iface o r) (.iface s t) (.iface B C) A l g->g.heap[w.heap.size]?=some (.cells #[.iface o r,.iface s t,.iface B C] 261 (0,0))):=fun A l g ⟨_,_,_,q,_⟩=>q.2;clear h hP I J K i1 i2 i3 n hl hN j Q;have fy:=ffy_If;have aa:=aH6;have ab:=aH5;go_enter func180,ntmps180
 go_upto_region 10 with fail
 go_region_held3 (fun g=>g.cell? ⟨w.heap.size,0,none⟩=some (.iface o r)/\g.cell? ⟨w.heap.size,1,none⟩=some (.iface s t)/\g.cell? ⟨w.heap.size,2,none⟩=some (.iface B C))
  ((refine HS.out _ ?_;first | exact Y.out | exact X.out _ _ _ i.out | exact aF7 rfl))
  ((first
   | (go_at_call 180;refine(Calls.mono (HU _ _ _ _ _ (by first | exact .inl ⟨rfl,rfl⟩ | exact .inr (.inl ⟨rfl,rfl⟩) | exact .inr (.inr ⟨rfl,rfl⟩)) x8 i) ?_);rintro e w4 ⟨R,S,rfl,D⟩;have i:=(show Hid _ from D);clear D)
   | (go_at_call 188;refine(Calls.mono (HZ _ _ _ _ _ _ x8 w9 w9 w9 i) ?_);rintro e w6 ⟨⟨H,k6,c6,rfl⟩,G⟩;have Y:=(show Hid _ from G);have Z:=(show Hid _ from H);clear H G)))
 all_goals
  go_wp2_with fail
  go_ret;exact Z
theorem aLW{α:Type}{l:List α}(h:1<=l.length):∃x r,l=x::r:=by
 cases l with
 | nil=>simp at h
 | cons x r=>exact⟨x,r,rfl⟩
theorem p_cmp(L:Lo)(O:Q5)(W:PW):∀(n:Nat)(f:PF),IU f<=n->CmpOk L O W f:=by
 intro n
 induction n with
 | zero=>intro f hf;have:=aGO f;omega
 | succ n ad =>
  intro f am M P w F N v av sc h hP hv H Z hN;have Y:∀y,IU y<IU f->CmpOk L O W y:=fun y hy=>ad y x8;have l:=Sg.Le.refl F.s
  cases hv with
  | const x q m d v o p B I =>obtain⟨J,rfl⟩:=H.ptr;obtain⟨T,y,rfl⟩:=B.iface;have K:Q3 w (w.alloc (.cells #[.iface T y,.bool q] 205)):=b_;have j:=(Cmp.refl h hP).below K;exact aH8 L w J T y q _ ((aKE j.fw j.cr B m d o p sc).mono (fun e w' I=>I.after j x8))
  | name k m d v o p hn =>obtain⟨J,rfl⟩:=H.ptr;have K:Q3 w (w.alloc (.cells #[.string ⟨m.toArray⟩,Q1 k] 196)):=b_;have j:=(Cmp.refl h hP).below K;have hp:=aGO (.mk .name m d v o p);exact aJ7 L w J m k _ ((aJX j.fw j.cr hn (H.go j.AQ l) x8 x8 d v o p).mono (fun e w' I=>I.after j x8))
  | iff a b c x y z m d v p ha hb hc =>
   have e:IU (.mk .iff m d v [x,y,z] p)=1+(IU x+(IU y+IU z)):=by rw [OL,ZL,ZL,ZL,aA5];omega
   exact aL5 h hP ha hb hc (Y x x8) (Y y x8) (Y z x8) H m d v p Z hN
  | begin sl V m d v o p h1 h2 h3 h4 S =>
   obtain⟨J,rfl⟩:=H.ptr;obtain⟨U,r,rfl,_⟩:=h1.shape;have e:IU (.mk .begin m d v o p)=1+OT o:=OL ..;have K:Q3 w (w.alloc (.cells #[.slice U o.length r] 263)):=b_;have j:=(Cmp.refl h hP).below K;have t:Sl M w D8 1 (.slice U o.length r) V.length V:=by rw [h2];exact h1
   refine aJA L w J U o.length r _ ((aLA j.fw j.cr (t.AQ j.AQ) h2 (fun i u x q1 q2=>(h3 i u x q1 q2).go j.AQ l) (fun i x q=>Y x (by have:=aDP (q_ q);omega)) (H.go j.AQ l) x8 x8 S).mono (fun e' w2 I=>?_));obtain⟨rb,M2,G,ae,rfl,c2,an,af,ag,ah⟩:=I;have ab:Q3 w2 (w2.alloc (.cells #[.slice (some ⟨rb,0,none⟩) o.length o.length] TCds)):=b_;have s2:=Stp.AA (M:=M2) ab;exact⟨_,_,_,rfl,_,M2,G,rfl,((j.trans c2).below ab).up x8,.begin _ _ ae m d v o p sc (aGH c2.mlt (aF7 rfl)) (af.AQ s2) ag (fun i u x q1 q2=>(ah i u x q1 q2).go s2 (Fg.Le.refl _)) h4 S⟩
  | call sl V m d v o p h1 h2 h3 h4 S =>
   obtain⟨J,rfl⟩:=H.ptr;obtain⟨x0,o,rfl⟩:=aLW h4;obtain⟨u0,V,rfl⟩:=aLW (l:=V) x8;simp only [c_] at h1 h2 h4 S;obtain⟨U,r,rfl,ak⟩:=h1.shape;obtain⟨c,rfl⟩:∃c,r=c+1:=⟨r-1,x8⟩
   have C:V.length=o.length:=by omega
   obtain⟨g,A,rfl⟩:∃g A,U=some ⟨g,A,none⟩:=by
    obtain⟨_,ap,al,e,_,h6⟩:=h1;simp only [Value.slice.injEq] at e;obtain⟨rfl,_,_⟩:=e;rcases h6 with h6 | ⟨g,A,_,e,_⟩
    ·omega
    ·exact⟨g,A,e⟩
   have e:IU (.mk .call m d v (x0::o) p)=1+(IU x0+OT o):=by rw [OL,ZL]
   have K:Q3 w (w.alloc (.cells #[.slice (some ⟨g,A,none⟩) (o.length+1) (c+1)] 270)):=b_;have j:=(Cmp.refl h hP).below K;have s:=j.AQ;have t:Sl M (w.alloc (.cells #[.slice (some ⟨g,A,none⟩) (o.length+1) (c+1)] 270)) D8 1 (.slice (some ⟨g,A,none⟩) (o.length+1) (c+1)) (V.length+1) (u0::V):=by rw [C];exact h1.AQ s
   have B:∀(i:Nat)(u:Value)(x:PF),V[i]?=some u->o[i]?=some x->CP M (w.alloc (.cells #[.slice (some ⟨g,A,none⟩) (o.length+1) (c+1)] 270)) F.s u x:=fun i u x q1 q2=>(h3 (i+1) u x (by simpa using q1) (by simpa using q2)).go s l;have D:∀(i:Nat)(x:PF),o[i]?=some x->CmpOk L O W x:=fun i x q=>Y x (by have:=aDP (q_ q);omega);have h0:=h3 0 u0 x0 rfl rfl;have Q:=h0.go s l;have i0:=Y x0 x8;have E:=H.go s l;refine aJ8 L w J (some ⟨g,A,none⟩) (o.length+1) (c+1) _ (Calls.mono (R:=CmpQ L M O P (w.alloc (.cells #[.slice (some ⟨g,A,none⟩) (o.length+1) (c+1)] 270)) F W (.mk .call m d v (x0::o) p) sc (N+IU (.mk .call m d v (x0::o) p))) ?_ (fun e w' I=>I.after j n_))
   cases h0 with
   | const _ _ _ _ _ _ _ _ _=>exact aGI j.fw j.cr C B D E S _ _ _ _ t Q i0 Z hN _ _ (aG2 _) (aHD _)
   | name k ai d' v' aj ac hn=>exact aJ9 j.fw j.cr C B D E S _ _ _ _ d' v' aj ac t hn i0 Z hN
   | iff a b c x y z m d v p ha hb hc=>exact aGI j.fw j.cr C B D E S _ _ _ _ t Q i0 Z hN _ _ (aIO _) (aH5 _)
   | begin sl V m d v o p h1 h2 h3 h4 S=>exact aGI j.fw j.cr C B D E x8 _ _ _ _ t Q i0 Z hN _ _ (aHQ _) (aGX _)
   | call sl V m d v o p h1 h2 h3 h4 S=>exact aGI j.fw j.cr C B D E x8 _ _ _ _ t Q i0 Z hN _ _ (aGU _) (aG5 _)
   | set k a x m d v p hn aa=>exact aGI j.fw j.cr C B D E S _ _ _ _ t Q i0 Z hN _ _ (aIA _) (aHI _)
   | define k a x m d v p hn aa=>exact aGI j.fw j.cr C B D E S _ _ _ _ t Q i0 Z hN _ _ (aHC _) (aGT _)
   | lambda aq a0 x ai d' v' ac X aa=>exact aKA j.fw j.cr C B D E S _ _ _ _ d' v' t (X.go s l) (aa.go s l) (Y x (by rw [aH2] at e;omega)) Z hN
  | set k a x m d v p hn B =>obtain⟨J,rfl⟩:=H.ptr;obtain⟨T,y,rfl⟩:=B.iface;have e:=aH2 .set m d v x p;have K:Q3 w (w.alloc (.cells #[.string ⟨m.toArray⟩,Q1 k,.iface T y] 264)):=b_;have j:=(Cmp.refl h hP).below K;exact aKT L w J m k T y _ ((p_setMk j.fw j.cr hn (B.go j.AQ l) (Y x x8) (H.go j.AQ l) x8 x8 d v p).mono (fun e' w' I=>I.after j x8))
  | define k a x m d v p hn B =>obtain⟨J,rfl⟩:=H.ptr;obtain⟨T,y,rfl⟩:=B.iface;have e:=aH2 .define m d v x p;have K:Q3 w (w.alloc (.cells #[.string ⟨m.toArray⟩,Q1 k,.iface T y] 200)):=b_;have j:=(Cmp.refl h hP).below K;exact aIV L w J m k T y _ ((p_defMk j.fw j.cr hn (B.go j.AQ l) (Y x x8) (H.go j.AQ l) x8 x8 d v p).mono (fun e' w' I=>I.after j x8))
  | lambda sl a x m d v p X B =>
   obtain⟨J,rfl⟩:=H.ptr;obtain⟨T,y,rfl⟩:=B.iface;obtain⟨U,r,rfl⟩:∃U r,sl=.slice U p.length r:=by obtain⟨⟨_,_,h2⟩,_,_⟩:=X;obtain⟨U,r,e,_⟩:=h2.shape;exact⟨U,r,e⟩
   have e:=aH2 .lambda m d v x p;have K:Q3 w (w.alloc (.cells #[.slice U p.length r,.iface T y] 269)):=b_;have j:=(Cmp.refl h hP).below K;exact aIU L w J U p.length r T y _ ((aKD j.fw j.cr (X.go j.AQ l) X.nodup (B.go j.AQ l) (Y x x8) (H.go j.AQ l) x8 x8 m d v).mono (fun e' w' I=>I.after j x8))
end
end Go.Proofs.YtbgghmjmcapmlaaGreatDoor
