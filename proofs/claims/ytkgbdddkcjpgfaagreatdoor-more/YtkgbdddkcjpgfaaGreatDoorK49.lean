import Derived.Test.YtkgbdddkcjpgfaaGreatDoorK48
import Derived.Test.YtkgbdddkcjpgfaaGreatDoorK35
import Derived.Test.YtkgbdddkcjpgfaaGreatDoorK33
import Derived.Test.YtkgbdddkcjpgfaaGreatDoorK37
namespace Go.Proofs.YtkgbdddkcjpgfaaGreatDoor
set_option maxHeartbeats 4000000
set_option maxRecDepth 100000
open Go.Proofs.Tryz
open Pl (PW PF SR Byt goOn)
section
open Go.RowKit Go.Lib Go.Maps
variable {w:World}
def cQ(sb:Nat)(fv:Value):Array Value:=#[.pointer (some ⟨sb,0,none⟩),fv,.pointer none,.nilIface,.pointer none,.slice none 0 0]
theorem p_start(w:World)(sb:Nat)(fv:Value)(hf:∃T x,fv=.iface T x):Calls prog 79 #[.pointer (some ⟨sb,0,none⟩),fv] w fun e w'=>e=.returned (.pointer (some ⟨w.heap.size,0,none⟩))/\w'=w.alloc (.cells (cQ sb fv) TRun):=by obtain⟨T,x,rfl⟩:=hf;go_enter func79,ntmps79;go_wp2_with fail;go_ret;exact⟨rfl,rfl⟩
def RunQ(M:Nat->Prop)(w:World)(s:Sg)(tb mb sb gb:Nat)(r:SR)(e:Ending)(w':World):Prop :=
 ∃(M':Nat->Prop)(s':Sg)(tx:Byt)(ev:Value),Stp M w M' w'/\(Sg.Le s s'/\s'.ns=s.ns)/\Wd M' w' s' tb mb sb gb r.W/\e=.returned (.tuple #[.string ⟨r.W.out.toArray⟩,.string ⟨tx.toArray⟩,ev]) /\
  ((r.e=0/\ev=.nilIface/\tx=Pl.cut (Pl.text r.W.pairs r.S.val))\/(r.e≠0/\tx=[]/\∃es,ev=aY es (r.e:Nat)))
theorem Wd.out0{M:Nat->Prop}{s:Sg}{tb mb sb gb:Nat}{W:PW}(h:Wd M w s tb mb sb gb W)(o:Byt):Wd M w s tb mb sb gb {W with out:=o}:=h.more (Sg.Le.refl _) rfl rfl rfl rfl rfl rfl h.procs h.conts
theorem p_run(M:Nat->Prop)(w:World)(s:Sg)(tb mb sb gb n:Nat)(W:PW)(f:PF)(fv:Value)(hW:Wd M w s tb mb sb gb W)(ho:W.out=[])(hf:RFm M w s fv f)(hI:InvZ n W ⟨some f,[],.nothing,[]⟩)(hn:n<=1000000)(hP:WfQ (goOn n W ⟨some f,[],.nothing,[]⟩).W)(hv:(goOn n W ⟨some f,[],.nothing,[]⟩).e=0->(goOn n W ⟨some f,[],.nothing,[]⟩).S.form=none/\WfV (goOn n W ⟨some f,[],.nothing,[]⟩).W (goOn n W ⟨some f,[],.nothing,[]⟩).S.val) :Calls prog 256 #[.pointer (some ⟨sb,0,none⟩),fv,.int .i64 (n:Int)] w fun e w'=>RunQ M w s tb mb sb gb (goOn n W ⟨some f,[],.nothing,[]⟩) e w':=by
 have hB1:Below w.heap.size w (w.alloc (.cells (cQ sb fv) TRun)):=(Below.refl _ _).alloc (Nat.le_refl _) _;have hmv:Mv M w (Mn M (fun k=>k=w.heap.size)) (w.alloc (.cells (cQ sb fv) TRun)):=Mv.wide _ (fun k hk=>by rw [hk];exact Nat.le_refl _) hB1 (fun k hk=>by rw [hk];simp);have hblk:(w.alloc (.cells (cQ sb fv) TRun)).heap[w.heap.size]?=some (.cells (cQ sb fv) TRun (0,0)):=heap_alloc_new w _;have hsta:Sta (Mn M (fun k=>k=w.heap.size)) (w.alloc (.cells (cQ sb fv) TRun)) s sb w.heap.size ⟨some f,[],.nothing,[]⟩ W.out:=by rw [ho];exact⟨fv,.pointer none,.nilIface,.pointer none,.slice none 0 0,⟨hblk,.inr rfl⟩,⟨hf.go hmv.stp (Sg.Le.refl _),.nil⟩,rfl,⟨World.ownsRow_nil _ _ _ _,fun g hg=>by cases hg⟩⟩
 have HS:Hid (Calls prog 79 #[.pointer (some ⟨sb,0,none⟩),fv] w fun e w'=>e=.returned (.pointer (some ⟨w.heap.size,0,none⟩))/\w'=w.alloc (.cells (cQ sb fv) TRun)):=p_start w sb fv hf.iface;have HF:Hid (Calls prog 257 #[.pointer (some ⟨w.heap.size,0,none⟩),.int .i64 (n:Int)] (w.alloc (.cells (cQ sb fv) TRun)) fun e w'=>∃v,e=.returned v/\WentV (Mn M (fun k=>k=w.heap.size)) (w.alloc (.cells (cQ sb fv) TRun)) s tb mb sb gb w.heap.size (goOn n W ⟨some f,[],.nothing,[]⟩) v w'):=yV _ _ s tb mb sb gb w.heap.size n W _ (hW.mv hmv) hsta hI rfl hn;have HM:Hid (Stp M w (Mn M (fun k=>k=w.heap.size)) (w.alloc (.cells (cQ sb fv) TRun))):=hmv.stp;have HP:Hid (WfQ (goOn n W ⟨some f,[],.nothing,[]⟩).W/\((goOn n W ⟨some f,[],.nothing,[]⟩).e=0->(goOn n W ⟨some f,[],.nothing,[]⟩).S.form=none/\WfV (goOn n W ⟨some f,[],.nothing,[]⟩).W (goOn n W ⟨some f,[],.nothing,[]⟩).S.val)):=⟨hP,hv⟩
 obtain⟨T,x,rfl⟩:=hf.iface;clear hW ho hf hI hP hv hB1 hmv hblk hsta;generalize goOn n W ⟨some f,[],.nothing,[]⟩=r at *;go_enter func256,ntmps256
 go_upto_region 3 with(first
  | (go_at_call 79;refine Calls.mono HS.out ?_;rintro e w1 ⟨rfl,rfl⟩)
  | (go_at_call 257;refine Calls.mono HF.out ?_;rintro e w2 ⟨v,rfl,HQ⟩))
 obtain⟨M2,s2,k1,k2,k3,⟨k4,k5,k6⟩ | ⟨es,k4,k5,k6⟩⟩:=HQ
 ·simp only [Ending.returned.injEq] at k5;subst k5;obtain⟨k7,k8⟩:=HP.out.2 k4;obtain⟨fv2,ev2,gv2,kv2,ov2,hr2,hfo2,hfr2,ho2⟩:=k6.ex;unfold FormO at hfo2;rw [k7] at hfo2;have e3:w2.cell? ⟨w.heap.size,3,none⟩=some gv2:=aA hr2.blk 3;have hrl:=aB hr2.blk;have HStr:Hid (∀w1,Below w2.heap.size w2 w1->Calls prog 258 #[.pointer (some ⟨w.heap.size,5,none⟩)] w1 fun e w'=>e=.returned (.string ⟨r.W.out.toArray⟩)/\w1=w'):=fun w1 hB=>qN w1 w.heap.size _ ov2 r.W.out ((hB.block _ hrl).trans hr2.blk) rfl (gA ho2.1 (fun g hg=>hB.block g (ho2.1.lt g hg).2));have HOf:Hid (∀w1,Below w2.heap.size w2 w1->Calls prog 126 #[gv2] w1 fun e w'=>e=.returned (.string ⟨(Pl.cut (Pl.text r.W.pairs r.S.val)).toArray⟩)/\Hid (Below w2.heap.size w2 w')):=fun w1 hB=>(hH r.W HP.out.1 s2 w1 gv2 r.S.val (k3.lie hB) hfo2.2 k8).mono (fun e w' ⟨j1,j2⟩=>⟨j1,hB.trans (j2.mono hB.size)⟩);have HX:Hid (∀w3,Below w2.heap.size w2 w3->RunQ M w s tb mb sb gb r (.returned (.tuple #[.string ⟨r.W.out.toArray⟩,.string ⟨(Pl.cut (Pl.text r.W.pairs r.S.val)).toArray⟩,.nilIface])) w3):=fun w3 hB=>⟨M2,s2,_,_,(HM.out.trans k1).trans (Stp.of_below hB),k2,k3.mv (Mv.below hB),rfl,.inl ⟨k4,rfl,rfl⟩⟩
  obtain⟨Tg,xg,rfl⟩:=hfo2.2.iface;clear k1 k2 k3 k4 k6 k7 k8 hr2 hfo2 hfr2 ho2;generalize Pl.cut (Pl.text r.W.pairs r.S.val)=tx at *;generalize r.W.out=ot at *;go_wp2_with fail
  go_region_with (first
   | (go_at_call 126;refine(HOf.out _ (by exact(Below.refl _ _).drew)).mono ?_;rintro e w3 ⟨rfl,HB3⟩)
   | (go_at_call 258;refine(HStr.out _ (by first | exact(Below.refl _ _).drew | exact HB3.out)).mono ?_;rintro e w4 ⟨rfl,rfl⟩))
  all_goals
   go_wp2_with fail
   go_ret3
   exact HX.out _ HB3.out
 ·simp only [Ending.returned.injEq] at k5;subst k5;obtain⟨fv2,ev2,gv2,kv2,ov2,hr2,ho2⟩:=k6;have hrl:=aB hr2.blk;have HStr:Hid (Calls prog 258 #[.pointer (some ⟨w.heap.size,5,none⟩)] w2 fun e w'=>e=.returned (.string ⟨r.W.out.toArray⟩)/\w2=w'):=qN w2 w.heap.size _ ov2 r.W.out hr2.blk rfl ho2.1;have HX:Hid (RunQ M w s tb mb sb gb r (.returned (.tuple #[.string ⟨r.W.out.toArray⟩,.string ⟨#[]⟩,aY es (r.e:Nat)])) w2):=⟨M2,s2,[],_,HM.out.trans k1,k2,k3,rfl,.inr ⟨k4,rfl,es,rfl⟩⟩
  clear k1 k2 k3 k4 hr2 ho2;generalize r.W.out=ot at *;generalize hre:r.e=re at *;unfold aY at HX ⊢;go_wp2_with (go_at_call 258;refine Calls.mono HStr.out ?_;rintro e w4 ⟨rfl,rfl⟩)
  go_ret3
  exact HX.out
theorem Sto.grown{w':World}{R:Nat}{c:Array Value}{fz:Nat×Nat}(g:w.grownBy w' (some R))(hb:w.heap[R]?=some (.cells c TOc fz))(hR:8<=R):Sto w w' :=
 ⟨g.size,fun k x hk hx=>(g.block k (aB hk) (fun e=>by
   have:=Option.some.inj e;subst this;rw [hb] at hk
   exact hx c fz (Option.some.inj hk).symm)).trans hk,fun k hk=>g.block k (by have:=aB hb;omega) (fun e=>by have:=Option.some.inj e;omega)⟩
theorem pV{M M':Nat->Prop}{w3 w4:World}{s:Sg}{tb mb sb gb R:Nat}{W:PW}{cs:Array Value}(h:Wd M' w3 s tb mb sb gb W)(hs:Stp M w M' w3)(hb:w3.heap[R]?=some (.cells cs TOc (0,0)))(hR:w.heap.size<=R)(hg:8<=w.heap.size)(hB:Below w3.heap.size w3 w4)(c:Int)(o t:ByteArray):Wd M' (ansZ w4 R c o t) s tb mb sb gb W/\Stp M w M' (ansZ w4 R c o t):=by have b4:=(hB.block R (aB hb)).trans hb;have g:w4.grownBy (ansZ w4 R c o t) (some R):=aC (aC (aE w4 R 0 _) (aE _ R 1 _)) (aE _ R 2 _);have hs4:=hs.trans (Stp.of_below hB);refine⟨(h.mv (Mv.below hB)).sto (Sto.grown g b4 (by omega)),⟨g.os.trans hs4.os,g.tape.trans hs4.tape,g.output.trans hs4.output,Nat.le_trans hs4.size g.size,fun k hk hn=>?_⟩⟩;obtain⟨h1,h2⟩:=hs4.block k hk hn;exact⟨(g.block k (Nat.lt_of_lt_of_le hk hs4.size) (fun e=>by have:=Option.some.inj e;omega)).trans h1,h2⟩
theorem zJ(M:Nat->Prop)(w:World)(s:Sg)(tb mb sb gb t m:Nat)(W:PW)(b:ByteArray)(n:Int)(hW:Wd M w s tb mb sb gb W)(hww:WW W t)(hsm:WSm W m)(ht:m+1001000<=6500000000000000000)(hz:s.ns.length+300<=NsMax) :Calls prog 74 #[.iface 73 (.pointer (some ⟨sb,0,none⟩)),.agg #[.string b,.int .i64 n],.pointer (some ⟨tb,0,none⟩)] w fun e w'=>AnsP M w s tb mb sb gb (Pl.answer W (b.data.toList,n)) e w':=by
 obtain⟨a1,a2,a3,a4⟩:=ansA_at w b n;have hWA:Wd M (oE w b n) s tb mb sb gb W:=hW.mv (Mv.below a4);have hMR:∀j,w.heap.size<=j->¬M j:=fun j hj hm=>by have:=hW.rdr.mlt j hm;omega
 have hsA:Stp M w M (oE w b n):=Stp.of_below a4;have hrd:=yJ b n M (oE w b n) s tb mb W.pairs hWA.rdr hWA.ge hz;have hgl:=hW.gs.size
 cases hov:Pl.over n with
 | true =>
  have hE:Pl.answer W (b.data.toList,n)=(W,⟨6,[],[]⟩):=by unfold Pl.answer;rw [if_pos hov]
  rw [hE];refine(gS w _ _ b n 6 (fun w'=>Below (oE w b n).heap.size (oE w b n) w') ⟨_,_,rfl⟩ ⟨_,rfl⟩ (hrd.mono (fun e w' hh=>?_)) (fun w' hB=>?_)).mono (fun e w' hh=>?_)
  ·obtain⟨v,ev,rfl,⟨_,⟨es,rfl⟩,h3⟩ | ⟨h1,_⟩⟩:=hh
   ·exact⟨v,es,rfl,h3⟩
   ·rw [hov] at h1;cases h1
  ·exact⟨(hWA.mv (Mv.below hB)).gt,(hB.block _ (by omega)).trans a2⟩
  ·obtain⟨w3,w4,rfl,hB,hB4,rfl⟩:=hh;obtain⟨z1,z2⟩:=pV (hWA.mv (Mv.below hB)) (hsA.trans (Stp.of_below hB)) ((hB.block _ (by omega)).trans a2) (by omega) hgl hB4 (6:Nat) ⟨#[]⟩ ⟨#[]⟩;exact⟨rfl,M,s,z2,Sg.Le.refl _,by omega,z1⟩
 | false =>
  by_cases hc:Pl.check b.data.toList=0
  ·cases hf:Pl.readF b.data.toList with
   | none =>
    refine(gS w _ _ b n 5 (fun _=>False) ⟨_,_,rfl⟩ ⟨_,rfl⟩ (hrd.mono (fun e w' hh=>?_)) (fun w' hB=>hB.elim)).mono (fun e w' hh=>?_)
    ·obtain⟨v,ev,rfl,⟨h1,_⟩ | ⟨_,_,u,_,_,⟨c,es,h1,h2,_⟩ | ⟨f,_,h2,_⟩⟩⟩:=hh
     ·rw [hov] at h1;cases h1
     ·omega
     ·rw [hf] at h2;cases h2
    ·obtain⟨w3,w4,_,hB,_⟩:=hh;exact hB.elim
   | some f =>
    obtain⟨hI,hP,hV⟩:=invZ_of (i:=(b.data.toList,n)) hww hsm ht f hov hc hf;have hE:Pl.answer W (b.data.toList,n)=((goOn n.toNat (Pl.beganW W f) (Pl.beganS W f)).W,Pl.told (goOn n.toNat (Pl.beganW W f) (Pl.beganS W f))):=by unfold Pl.answer;dsimp only;rw [if_neg (by simp [hov]),if_neg (by simp [hc]),hf]
    have hnn:0<=n/\n<=1000000:=by unfold Pl.over at hov;simp at hov;omega
    rw [hE];dsimp only at hI hP hV;obtain⟨k,rfl⟩:∃k:Nat,n=(k:Int):=⟨n.toNat,by omega⟩
    simp only [Int.toNat_natCast] at hI hP hV ⊢;have hRun:∀fv w2 u,Wd M w2 u tb mb sb gb (Pl.beganW W f)->RFm M w2 u fv (Pl.settle f W.pairs.length).1->Calls prog 256 #[.pointer (some ⟨sb,0,none⟩),fv,.int .i64 (k:Int)] w2 fun e w'=>RunQ M w2 u tb mb sb gb (goOn k (Pl.beganW W f) (Pl.beganS W f)) e w':=fun fv w2 u h4 h5=>p_run M w2 u tb mb sb gb k (Pl.beganW W f) _ fv h4 rfl h5 hI (by omega) hP hV;clear hI hP hV hE;generalize goOn k (Pl.beganW W f) (Pl.beganS W f)=r at *
    refine(sP w sb _ b (k:Int) ⟨r.W.out.toArray⟩ ⟨(Pl.told r).val.toArray⟩ r.e
     (fun fv w2=>∃u,Sg.Le s u/\u.ns.length<=s.ns.length+300/\Stp M (oE w b (k:Int)) M w2/\Wd M w2 u tb mb sb gb (Pl.beganW W f)/\RFm M w2 u fv (Pl.settle f W.pairs.length).1)
     (fun w3=>∃M' u,Stp M (oE w b (k:Int)) M' w3/\Sg.Le s u/\u.ns.length<=s.ns.length+300/\Wd M' w3 u tb mb sb gb r.W) ⟨_,rfl⟩ (hrd.mono (fun e w' hh=>?_)) (fun fv w' hh=>?_) (fun fv w2 hh=>?_) (fun w' hh=>?_)).mono (fun e w' hh=>?_)
    ·obtain⟨v,ev,rfl,⟨h1,_⟩ | ⟨_,hg,u,hu,hl,⟨c,es,h1,h2,_⟩ | ⟨f1,_,h2,rfl,h4,h5⟩⟩⟩:=hh
     ·rw [hov] at h1;cases h1
     ·omega
     ·obtain rfl:f=f1:=by rw [hf] at h2;exact Option.some.inj h2
      exact⟨v,rfl,u,hu.le,hl,eL hg hWA.rdr.mmb,(hWA.read hg hu h4).out0 [],h5⟩
    ·obtain⟨u,_,_,h3,_,h5⟩:=hh;exact⟨h5.iface,(h3.block _ (by omega) (hMR _ (Nat.le_refl _))).1.trans a1⟩
    ·obtain⟨u,h1,h2,h3,h4,h5⟩:=hh;refine(hRun fv w2 u h4 h5).mono (fun e w' hq=>?_);obtain⟨M',u',tx,ev,q1,⟨q2,q3⟩,q4,rfl,q5⟩:=hq;have hQ2:∃M' u,Stp M (oE w b (k:Int)) M' w'/\Sg.Le s u/\u.ns.length<=s.ns.length+300/\Wd M' w' u tb mb sb gb r.W:=⟨M',u',h3.trans q1,h1.trans q2,by rw [q3];exact h2,q4⟩
     rcases q5 with⟨e0,rfl,rfl⟩ | ⟨e0,rfl,es,rfl⟩
     ·refine⟨.nilIface,?_,?_,hQ2⟩
      ·unfold Pl.told;rw [if_pos e0]
      ·have:=sL w';rw [e0];exact this
     ·refine⟨aY es (r.e:Nat),?_,p_code es _ w' q4.gt,hQ2⟩;unfold Pl.told;rw [if_neg e0]
    ·obtain⟨M',u,h1,_,_,_⟩:=hh;exact(h1.block _ (by omega) (hMR _ (Nat.le_succ _))).1.trans a2
    ·obtain⟨w3,w4,rfl,⟨M',u,h1,h2,h3,h4⟩,hB4,rfl⟩:=hh;obtain⟨z1,z2⟩:=pV h4 (hsA.trans h1) ((h1.block _ (by omega) (hMR _ (Nat.le_succ _))).1.trans a2) (by omega) hgl hB4 (r.e:Nat) ⟨r.W.out.toArray⟩ ⟨(Pl.told r).val.toArray⟩;exact⟨rfl,M',u,z2,h2,h3,z1⟩
  ·have hE:Pl.answer W (b.data.toList,n)=(W,⟨Pl.check b.data.toList,[],[]⟩):=by unfold Pl.answer;dsimp only;rw [if_neg (by simp [hov]),if_pos hc]
   rw [hE];refine(gS w _ _ b n (Pl.check b.data.toList) (fun w'=>∃u,SgR s u/\u.ns.length<=s.ns.length+300/\(oE w b n).grownBy w' (some mb)/\Rdr M w' u tb mb W.pairs) ⟨_,_,rfl⟩ ⟨_,rfl⟩ (hrd.mono (fun e w' hh=>?_)) (fun w' hh=>?_)).mono (fun e w' hh=>?_)
   ·obtain⟨v,ev,rfl,⟨h1,_⟩ | ⟨_,hg,u,hu,hl,⟨c,es,h1,h2,_,rfl,_,h6⟩ | ⟨f1,h1,_⟩⟩⟩:=hh
    ·rw [hov] at h1;cases h1
    ·exact⟨v,es,by rw [h1],u,hu,hl,hg,h6⟩
    ·exact absurd h1 hc
   ·obtain⟨u,hu,hl,hg,hR⟩:=hh;exact⟨(hWA.read hg hu hR).gt,((eL hg hWA.rdr.mmb).block _ (by omega) (hMR _ (Nat.le_succ _))).1.trans a2⟩
   ·obtain⟨w3,w4,rfl,⟨u,hu,hl,hg,hR⟩,hB4,rfl⟩:=hh;have hs3:Stp M (oE w b n) M w3:=eL hg hWA.rdr.mmb;obtain⟨z1,z2⟩:=pV (hWA.read hg hu hR) (hsA.trans hs3) ((hs3.block _ (by omega) (hMR _ (Nat.le_succ _))).1.trans a2) (by omega) hgl hB4 (Pl.check b.data.toList:Nat) ⟨#[]⟩ ⟨#[]⟩;exact⟨rfl,M,u,z2,hu.le,hl,z1⟩
end
end Go.Proofs.YtkgbdddkcjpgfaaGreatDoor
