import Derived.Test.YtkgbdddkcjpgfaaGreatDoorC39
import Derived.Test.YtkgbdddkcjpgfaaGreatDoorC31
import Derived.Test.YtkgbdddkcjpgfaaGreatDoorC29
import Derived.Test.YtkgbdddkcjpgfaaGreatDoorC27
namespace Go.Proofs.YtkgbdddkcjpgfaaGreatDoor
set_option maxHeartbeats 4000000
set_option maxRecDepth 100000
open Go.Proofs.Tryz
open Pl (PW PS PF SR Byt goOn)
section
open Go.RowKit Go.Lib Go.Maps
variable {w:World} {M:Nat->Prop} {sb tb mb gb:Nat}
theorem Sta.out_{s:Sg}{rb:Nat}{S:PS}{out:Byt}(h:Sta M w s sb rb S out):OutB M w sb rb out:=by obtain⟨fv,ev,gv,kv,ov,h1,_,_,h4⟩:=h.ex;exact⟨fv,ev,gv,kv,ov,h1,h4⟩
theorem r7(M:Nat->Prop)(w:World)(s:Sg)(tb mb sb gb rb t:Nat)(W:PW)(S:PS)(hW:Wd M w s tb mb sb gb W)(hN:NsOk s)(hSt:Sta M w s sb rb S W.out)(hS:SW W S t)(hFl:S.frames.length<=6500000000000000000)(f:PF)(hf:S.form=some f) :Calls prog 128 #[.pointer (some ⟨rb,0,none⟩)] w fun e w'=>Went M w s tb mb sb gb rb (Pl.step W S) e w':=by
 obtain⟨fv,ev,gv,kv,ov,hr,hfo,hfr,ho⟩:=hSt.ex;have hwf:=hS.form f hf;have hnl:=hwf.lnm;unfold FormO at hfo;rw [hf] at hfo;obtain⟨hrf,he⟩:=hfo
 cases hrf with
 | const x q nm d v ks ns h hq =>
  have e:Pl.step W S=⟨0,W,S.give v⟩:=by unfold Pl.step;rw [hf];rfl
  rw [e];exact uM M w s tb mb sb gb rb W S hW hr he.ptr hfr ho h
 | name k nm d v ks ns h =>
  have e:Pl.step W S=gD W S nm:=by unfold Pl.step gD;rw [hf];rfl
  rw [e];exact yC M w s tb mb sb gb rb W S hW hN nm k hr he hfr ho h (by have:nm.length<=300:=hnl;omega)
 | iff a b c x y z nm d v ns h1 h2 h3 =>
  have e:Pl.step W S=⟨0,W,(S.push ⟨.mk .iff nm d v [x,y,z] ns,[],1,S.env⟩).work (some x) S.env⟩:=by unfold Pl.step;rw [hf];rfl
  rw [e];exact p_wfIf M w s tb mb sb gb rb W S hW hFl y z _ x hr he hfr ho h1 rfl rfl h2 h3 _ rfl
 | set k a x nm d v ns h h1 =>
  have e:Pl.step W S=⟨0,W,(S.push ⟨.mk .set nm d v [x] ns,[],1,S.env⟩).work (some x) S.env⟩:=by unfold Pl.step;rw [hf];rfl
  rw [e];exact p_wfSet M w s tb mb sb gb rb W S hW hFl nm k _ x hr he hfr ho h1 rfl rfl h _ rfl
 | define k a x nm d v ns h h1 =>
  have e:Pl.step W S=⟨0,W,(S.push ⟨.mk .define nm d v [x] ns,[],1,S.env⟩).work (some x) S.env⟩:=by unfold Pl.step;rw [hf];rfl
  rw [e];exact r9 M w s tb mb sb gb rb W S hW hFl nm k _ x hr he hfr ho h1 rfl rfl h _ rfl
 | lambda sl a x nm d v ns h1 h2 =>
  have e:Pl.step W S=⟨0,{W with procs:=W.procs++[(.mk .lambda nm d v [x] ns,S.env)]},S.give (.proc W.procs.length)⟩:=by unfold Pl.step;rw [hf];rfl
  rw [e];exact r8 M w s tb mb sb gb rb W S hW _ x hr he hfr ho rfl h1 h2
 | begin sl us nm d v ks ns h1 h2 h3 h4 h5 =>
  obtain⟨f0,rest,hks⟩:∃f0 rest,ks=f0::rest:=by
   cases ks with
   | nil=>simp at h4
   | cons a l=>exact⟨a,l,rfl⟩
  have e:Pl.step W S=⟨0,W,(if 0<rest.length then S.push ⟨.mk .begin nm d v ks ns,[],1,S.env⟩ else S).work (some f0) S.env⟩:=by unfold Pl.step;rw [hf];show(⟨0,W,(if 1<ks.length then S.push ⟨.mk .begin nm d v ks ns,[],1,S.env⟩ else S).work ks[0]? S.env⟩:SR)=_;rw [hks];simp
  rw [e];exact uN M w s tb mb sb gb rb W S hW hFl (.mk .begin nm d v ks ns) hr he hfr ho rfl f0 rest hks ⟨us,by rw [h2];exact h1,⟨h2,h3⟩⟩ (by rw [hks] at h5;simp at h5;omega) _ rfl _ rfl
 | call sl us nm d v ks ns h1 h2 h3 h4 h5 =>
  obtain⟨f0,rest,hks⟩:∃f0 rest,ks=f0::rest:=by
   cases ks with
   | nil=>simp at h4
   | cons a l=>exact⟨a,l,rfl⟩
  have e:Pl.step W S=⟨0,W,(S.push ⟨.mk .call nm d v ks ns,[],1,S.env⟩).work (some f0) S.env⟩:=by unfold Pl.step;rw [hf];show(⟨0,W,(S.push ⟨.mk .call nm d v ks ns,[],1,S.env⟩).work ks[0]? S.env⟩:SR)=_;rw [hks];rfl
  rw [e];exact yD M w s tb mb sb gb rb W S hW hFl (.mk .call nm d v ks ns) hr he hfr ho rfl f0 rest hks ⟨us,by rw [h2];exact h1,⟨h2,h3⟩⟩ _ rfl
theorem Tryz.tm_iff(a b c d:Value)(w:World):(Go.method 638 338 (.agg #[a,b,c,d]) "stepper/slow.take").run prog w=.ok (380,(.agg #[a,b,c,d])) w:=by kernel_rfl
theorem Tryz.tn_iff(a b c d:Value)(w:World):(Go.nilAhead 638 338 (.agg #[a,b,c,d]) "stepper/slow.take").run prog w=.ok (some false) w:=by kernel_rfl
theorem Tryz.te_iff:Enters 380:=enters_of func380 (by kernel_rfl) rfl
theorem Tryz.tm_set(a b c:Value)(w:World):(Go.method 638 342 (.agg #[a,b,c]) "stepper/slow.take").run prog w=.ok (383,(.agg #[a,b,c])) w:=by kernel_rfl
theorem Tryz.tn_set(a b c:Value)(w:World):(Go.nilAhead 638 342 (.agg #[a,b,c]) "stepper/slow.take").run prog w=.ok (some false) w:=by kernel_rfl
theorem Tryz.te_set:Enters 383:=enters_of func383 (by kernel_rfl) rfl
theorem Tryz.tm_define(a b:Value)(w:World):(Go.method 638 344 (.agg #[a,b]) "stepper/slow.take").run prog w=.ok (385,(.agg #[a,b])) w:=by kernel_rfl
theorem Tryz.tn_define(a b:Value)(w:World):(Go.nilAhead 638 344 (.agg #[a,b]) "stepper/slow.take").run prog w=.ok (some false) w:=by kernel_rfl
theorem Tryz.te_define:Enters 385:=enters_of func385 (by kernel_rfl) rfl
theorem Tryz.tm_begin(a b:Value)(w:World):(Go.method 638 375 (.agg #[a,b]) "stepper/slow.take").run prog w=.ok (401,(.agg #[a,b])) w:=by kernel_rfl
theorem Tryz.tn_begin(a b:Value)(w:World):(Go.nilAhead 638 375 (.agg #[a,b]) "stepper/slow.take").run prog w=.ok (some false) w:=by kernel_rfl
theorem Tryz.te_begin:Enters 401:=enters_of func401 (by kernel_rfl) rfl
theorem Tryz.tm_call(a b c:Value)(w:World):(Go.method 638 352 (.agg #[a,b,c]) "stepper/slow.take").run prog w=.ok (390,(.agg #[a,b,c])) w:=by kernel_rfl
theorem Tryz.tn_call(a b c:Value)(w:World):(Go.nilAhead 638 352 (.agg #[a,b,c]) "stepper/slow.take").run prog w=.ok (some false) w:=by kernel_rfl
theorem Tryz.te_call:Enters 390:=enters_of func390 (by kernel_rfl) rfl
theorem dQ(w:World)(rb b sb n:Nat)(ev gv ov up:Value)(T:TypeId)(x:Value)(fn:FuncId)(Q:Value->World->Prop)(hb:w.heap[rb]?=some (.cells #[.pointer (some ⟨sb,0,none⟩),.nilIface,ev,gv,.pointer (some ⟨b,0,none⟩),ov] TRun (0,0)))(hp:w.heap[b]?=some (.cells #[.iface T x,up,.int .i64 (n:Int)] TPile (0,0)))(hbr:b≠rb)(hg:∃T x,gv=.iface T x)(hu:∃o,up=.pointer o)
  (hm:∀w,(Go.method 638 T x "stepper/slow.take").run prog w=.ok (fn,x) w) (hnl:∀w,(Go.nilAhead 638 T x "stepper/slow.take").run prog w=.ok (some false) w) (hen:Enters fn)
  (hc:∀w1,w1=w.setCell ⟨rb,4,none⟩ up\/w1=(w.setCell ⟨rb,4,none⟩ up).drew->Calls prog fn #[x,.pointer (some ⟨rb,0,none⟩),gv] w1 fun e w'=>∃v,e=.returned v/\Q v w') :
  Calls prog 82 #[.pointer (some ⟨rb,0,none⟩)] w fun e w'=>∃v,e=.returned v/\Q v w':=by
 have hrl:=aB hb;have hbl:=aB hp;have _:=hbr;have e1:w.cell? ⟨rb,1,none⟩=some .nilIface:=aA hb 1;have e3:w.cell? ⟨rb,3,none⟩=some gv:=aA hb 3;have e4:w.cell? ⟨rb,4,none⟩=some (.pointer (some ⟨b,0,none⟩)):=aA hb 4;have f4:w.frozen? ⟨rb,4,none⟩=false:=aF hb 4;have p0:w.cell? ⟨b,0,none⟩=some (.iface T x):=aA hp 0;have p1:w.cell? ⟨b,1,none⟩=some up:=aA hp 1;have hch:=RunCh.set hb 4 up rfl;have g3:(w.setCell ⟨rb,4,none⟩ up).cell? ⟨rb,3,none⟩=some gv:=aA hch.blk 3;have HC:Hid (∀w1,w1=w.setCell ⟨rb,4,none⟩ up\/w1=(w.setCell ⟨rb,4,none⟩ up).drew->Calls prog fn #[x,.pointer (some ⟨rb,0,none⟩),gv] w1 fun e w'=>∃v,e=.returned v/\Hid (Q v w')):=hc;obtain⟨Tg,xg,rfl⟩:=hg;obtain⟨ou,rfl⟩:=hu;unfold Enters at hen;clear hc hb hp hch;go_enter func82,ntmps82;go_wp2_with fail;go_region_with (refine(HC.out _ (by first | exact .inl rfl | exact .inr rfl)).mono ?_;rintro e w3 ⟨v,rfl,HQ⟩)
 all_goals
  go_wp2_with fail
  go_ret;exact⟨v,rfl,HQ.out⟩
theorem sB(w:World)(rb:Nat)(c0 fv ev gv kv ov:Value)(hb:w.heap[rb]?=some (.cells #[c0,fv,ev,gv,kv,ov] TRun (0,0)))(hf:∃T x,fv=.iface T x)(Q:Value->World->Prop)(hc:Calls prog 128 #[.pointer (some ⟨rb,0,none⟩)] w fun e w'=>∃v,e=.returned v/\Q v w') :Calls prog 82 #[.pointer (some ⟨rb,0,none⟩)] w fun e w'=>∃v,e=.returned v/\Q v w':=by have e1:w.cell? ⟨rb,1,none⟩=some fv:=aA hb 1;have HC:Hid (Calls prog 128 #[.pointer (some ⟨rb,0,none⟩)] w fun e w'=>∃v,e=.returned v/\Q v w'):=hc;obtain⟨T,x,rfl⟩:=hf;clear hc hb;go_enter func82,ntmps82;go_wp2_with (go_at_call 128;refine Calls.mono HC.out ?_;rintro e w2 ⟨v,rfl,HQ⟩);go_ret;exact⟨v,rfl,HQ⟩
def WentV(M:Nat->Prop)(w:World)(s:Sg)(tb mb sb gb rb:Nat)(r:SR)(v:Value)(w':World):Prop:=Went M w s tb mb sb gb rb r (.returned v) w'
theorem dW{w0:World}{s:Sg}{rb:Nat}{r:SR}{f:FuncId}{args:Array Value}(h:Calls prog f args w fun e w'=>Went M w0 s tb mb sb gb rb r e w'):Calls prog f args w fun e w'=>∃v,e=.returned v/\WentV M w0 s tb mb sb gb rb r v w' :=h.mono (fun e w' hh=>by obtain⟨v,rfl⟩:=hh.one;exact⟨v,rfl,hh⟩)
theorem aDA(M:Nat->Prop)(w:World)(s:Sg)(tb mb sb gb rb t m:Nat)(W:PW)(S:PS)(hW:Wd M w s tb mb sb gb W)(hN:NsOk s)(hSt:Sta M w s sb rb S W.out)(hww:WW W t)(hsw:SW W S t)(hm:Sm W S m)(ht:m<=6500000000000000000)(hout:W.out.length<=1000)(hne:S.ended=false) :Calls prog 82 #[.pointer (some ⟨rb,0,none⟩)] w fun e w'=>∃v,e=.returned v/\WentV M w s tb mb sb gb rb (Pl.step W S) v w':=by
 cases hf:S.form with
 | some f =>have hC:=dW (r7 M w s tb mb sb gb rb t W S hW hN hSt hsw (Nat.le_trans hm.frames ht) f hf);obtain⟨fv,ev,gv,kv,ov,hr,hfo,_,_⟩:=hSt.ex;unfold FormO at hfo;rw [hf] at hfo;exact sB w rb _ fv ev gv kv ov hr.blk hfo.1.iface _ hC
 | none =>
  obtain⟨fv,ev,gv,kv,ov,hr,hfo,hfr,ho⟩:=hSt.ex;unfold FormO at hfo;rw [hf] at hfo;obtain⟨rfl,hgv⟩:=hfo;have hstep:Pl.step W S=Pl.taken W S:=by unfold Pl.step;rw [hf]
  have hwfv:=hsw.val hf
  cases hfs:S.frames with
  | nil =>exfalso;unfold Pl.PS.ended at hne;rw [hf,hfs] at hne;simp at hne
  | cons fr rest =>
   rw [hfs] at hfr;obtain⟨b,top,up,rfl,hmb,hbl,htop,hup⟩:=hfr;have hbr:b≠rb:=fun e=>hmb (by rw [e];exact hr.mrb);have hfw:=hsw.frames.1 fr (by rw [hfs];simp);have hrl:rest.length<=6500000000000000000:=by have:=hm.frames;rw [hfs] at this;simp at this;omega
   have hch:=RunCh.set hr.blk 4 up rfl
   have prep:∀w1,(w1=w.setCell ⟨rb,4,none⟩ up\/w1=(w.setCell ⟨rb,4,none⟩ up).drew)->Stp M w M w1/\Wd M w1 s tb mb sb gb W/\RunAt M w1 sb rb .nilIface ev gv up ov/\FrR M w1 s up rest/\OutR M w1 ov W.out:=fun w1 h1=>by
    have hc1:RunCh w rb #[.pointer (some ⟨sb,0,none⟩),.nilIface,ev,gv,up,ov] w1:=by
     rcases h1 with rfl | rfl
     ·exact hch
     ·exact hch.drew
    have hm:=hc1.mv hr.blk hr.mrb;exact⟨hm.stp,hW.mv hm,⟨hc1.blk,hr.mrb⟩,hup.go hm.stp (Sg.Le.refl _),ho.ch hc1 hr.blk⟩
   have hgl:W.globals.length<=6500000000000000000:=Nat.le_trans hm.w.globals ht;have hnm:=hfw.form.lnm;rw [hstep];have htop0:=htop;obtain⟨T0,x0,hx0⟩:=htop.iface
   cases htop with
   | iff a b' c ev' _ x y z hk hks ha h2 h3 he =>
    refine dQ w rb b sb _ ev gv ov up _ _ _ _ hr.blk hbl hbr hgv.iface hup.ptr (Tryz.tm_iff _ _ _ _) (Tryz.tn_iff _ _ _ _) Tryz.te_iff (fun w1 h1=>?_);obtain⟨k1,k2,k3,k4,k5⟩:=prep w1 h1;have e:Pl.taken W S=⟨0,W,{S with frames:=rest}.work (if S.val=Pl.PV.truth false then some z else some y) fr.env⟩:=by unfold Pl.taken;rw [hfs];dsimp only;rw [hk];dsimp only;rw [hks];rfl
    rw [e];exact(dW (yF M w1 s tb mb sb gb rb W {S with frames:=rest} fr.env k2 k3 k4 k5 (he.go k1 (Sg.Le.refl _)) y z ha (h2.go k1 (Sg.Le.refl _)) (h3.go k1 (Sg.Le.refl _)) gv S.val hgv _ rfl)).mono (fun e w' ⟨v,hv,hq⟩=>⟨v,hv,Went.after hq k1⟩)
   | set k ev' _ hk hn he =>
    refine dQ w rb b sb _ ev gv ov up _ _ _ _ hr.blk hbl hbr hgv.iface hup.ptr (Tryz.tm_set _ _ _) (Tryz.tn_set _ _ _) Tryz.te_set (fun w1 h1=>?_);obtain⟨k1,k2,k3,k4,k5⟩:=prep w1 h1
    have e:Pl.taken W S=(match Pl.seek W fr.env fr.form.nm with | some i=>⟨0,{W with places:=W.places.set i S.val},{S with frames:=rest}.give .nothing⟩ | none=>⟨8,W,{S with frames:=rest}⟩):=by
     unfold Pl.taken;rw [hfs];dsimp only;rw [hk];dsimp only
     cases Pl.seek W fr.env fr.form.nm<;>rfl
    exact(dW (uO M w1 s tb mb sb gb rb W {S with frames:=rest} fr.env k2 hN hgl k3 k4 k5 (he.go k1 (Sg.Le.refl _)) fr.form.nm k hn (by omega) gv S.val hgv _ e)).mono (fun e w' ⟨v,hv,hq⟩=>⟨v,hv,Went.after hq k1⟩)
   | define k _ hk hn =>
    refine dQ w rb b sb _ ev gv ov up _ _ _ _ hr.blk hbl hbr hgv.iface hup.ptr (Tryz.tm_define _ _) (Tryz.tn_define _ _) Tryz.te_define (fun w1 h1=>?_);obtain⟨k1,k2,k3,k4,k5⟩:=prep w1 h1;have e:Pl.taken W S=⟨0,Pl.bind W fr.form.nm S.val,{S with frames:=rest}.give .nothing⟩:=by unfold Pl.taken;rw [hfs];dsimp only;rw [hk]
    rw [e];exact(dW (m7 M w1 s tb mb sb gb rb W {S with frames:=rest} k2 hN hww.globals hgl k3 k4 k5 fr.form.nm k hn gv S.val hgv)).mono (fun e w' ⟨v,hv,hq⟩=>⟨v,hv,Went.after hq k1⟩)
   | begin rv ev' _ hk hrv he =>
    refine dQ w rb b sb _ ev gv ov up _ _ _ _ hr.blk hbl hbr hgv.iface hup.ptr (Tryz.tm_begin _ _) (Tryz.tn_begin _ _) Tryz.te_begin (fun w1 h1=>?_);obtain⟨k1,k2,k3,k4,k5⟩:=prep w1 h1;have hpl:=hfw.begin_ hk;obtain⟨f0,hf0⟩:∃f0,fr.form.ks[fr.pos]?=some f0:=⟨_,List.getElem?_eq_getElem hpl⟩
    have hdl:(fr.form.ks.drop (fr.pos+1)).length=fr.form.ks.length-(fr.pos+1):=by simp
    have hkl:=hfw.form.lks
    have e:Pl.taken W S=⟨0,W,(if 0<(fr.form.ks.drop (fr.pos+1)).length then {S with frames:=rest}.push {fr with got:=[],pos:=fr.pos+1} else {S with frames:=rest}).work fr.form.ks[fr.pos]? fr.env⟩:=by
     unfold Pl.taken;rw [hfs];dsimp only;rw [hk];dsimp only;by_cases hp:fr.pos+1<fr.form.ks.length
     ·rw [if_pos hp,if_pos (by omega)]
     ·rw [if_neg hp,if_neg (by omega)]
    rw [e];exact(dW (oT M w1 s tb mb sb gb rb W {S with frames:=rest} k2 hrl k3 k4 k5 fr (he.go k1 (Sg.Le.refl _)) hk f0 _ (mD hf0) (hrv.go k1 (Sg.Le.refl _)) (by omega) gv hgv.iface _ rfl _ hf0)).mono (fun e w' ⟨v,hv,hq⟩=>⟨v,hv,Went.after hq k1⟩)
   | call vv rv ev' _ hk hvv hrv he =>
    refine dQ w rb b sb _ ev gv ov up _ _ _ _ hr.blk hbl hbr hgv.iface hup.ptr (Tryz.tm_call _ _ _) (Tryz.tn_call _ _ _) Tryz.te_call (fun w1 h1=>?_);obtain⟨k1,k2,k3,k4,k5⟩:=prep w1 h1;obtain⟨c1,c2,c3⟩:=hfw.call hk;have hkl:=hfw.form.lks
    have e:Pl.taken W S=gZ W {S with frames:=rest} fr S.val:=by
     unfold Pl.taken gZ;rw [hfs];dsimp only;rw [hk];dsimp only;by_cases hp:fr.pos=fr.form.ks.length
     ·rw [if_pos hp,if_pos hp]
      cases fr.got++[S.val]<;>rfl
     ·rw [if_neg hp,if_neg hp]
    rw [e];exact(dW (sA M w1 s tb mb sb gb rb W ⟨aC2 hww,hout⟩ {S with frames:=rest} k2 hrl k3 k4 k5 fr (he.go k1 (Sg.Le.refl _)) hk c2 (hvv.go k1 (Sg.Le.refl _)) (hrv.go k1 (Sg.Le.refl _)) (by omega) c3 gv S.val hgv hwfv)).mono (fun e w' ⟨v,hv,hq⟩=>⟨v,hv,Went.after hq k1⟩)
theorem aB2(M:Nat->Prop)(w:World)(s:Sg)(sb rb:Nat)(S:PS)(out:Byt)(h:Sta M w s sb rb S out):Calls prog 81 #[.pointer (some ⟨rb,1,none⟩)] w fun e w'=>e=.returned (.bool S.ended)/\w=w':=by
 obtain⟨fv,ev,gv,kv,ov,hr,hfo,hfr,_⟩:=h.ex;have e1:w.cell? ⟨rb,1,none⟩=some fv:=aA hr.blk 1;have e4:w.cell? ⟨rb,4,none⟩=some kv:=aA hr.blk 4;unfold FormO at hfo
 cases hf:S.form with
 | some f =>
  rw [hf] at hfo;obtain⟨T,x,rfl⟩:=hfo.1.iface;have HE:Hid (S.ended=false):=show S.ended=false from by unfold Pl.PS.ended;rw [hf];rfl
  clear hfo hfr hr h;go_enter func81,ntmps81;go_wp2_with fail;go_ret;exact⟨by rw [HE.out];rfl,rfl⟩
 | none =>
  rw [hf] at hfo;obtain⟨rfl,_⟩:=hfo
  cases hk:S.frames with
  | nil =>
   rw [hk] at hfr;obtain rfl:kv=.pointer none:=hfr;have HE:Hid (S.ended=true):=show S.ended=true from by unfold Pl.PS.ended;rw [hf,hk];rfl
   clear hr h;go_enter func81,ntmps81;go_wp2_with fail;go_ret;exact⟨by rw [HE.out];rfl,rfl⟩
  | cons fr rest =>
   rw [hk] at hfr;obtain⟨b,top,up,rfl,_⟩:=hfr;have HE:Hid (S.ended=false):=show S.ended=false from by unfold Pl.PS.ended;rw [hf,hk];rfl
   clear hr h;go_enter func81,ntmps81;go_wp2_with fail;go_ret;exact⟨by rw [HE.out];rfl,rfl⟩
theorem nY{n:Nat}{W:PW}{S:PS}(h:S.ended=false):goOn (n+1) W S=if(Pl.step W S).e=0 then goOn n (Pl.step W S).W (Pl.step W S).S else Pl.step W S:=by show(if S.ended then _ else _)=_;rw [h];rfl
theorem aAE{n:Nat}{W:PW}{S:PS}(h:S.ended=true):goOn n W S=⟨0,W,S⟩:=by
 cases n with
 | zero=>show(if S.ended then _ else _)=_;rw [h];rfl
 | succ n=>show(if S.ended then _ else _)=_;rw [h];rfl
theorem wK{W:PW}{S:PS}(h:S.ended=false):goOn 0 W S=⟨7,W,S⟩:=by show(if S.ended then _ else _)=_;rw [h];rfl
structure FinI(M:Nat->Prop)(w:World)(s:Sg)(tb mb sb gb rb:Nat)(r:SR)(m:Nat)(wr:World)(Mk:Nat->Prop)(sk:Sg)(Wk:PW)(Sk:PS):Prop where
 stp:Stp M w Mk wr
 le:Sg.Le s sk/\NsPb w s sk
 wd:Wd Mk wr sk tb mb sb gb Wk
 sta:Sta Mk wr sk sb rb Sk Wk.out
 inv:InvZ m Wk Sk
 ne:Sk.ended=false
 eq:r=goOn m Wk Sk
theorem yV(M:Nat->Prop)(w:World)(s:Sg)(tb mb sb gb rb n:Nat)(W:PW)(S:PS)(hW:Wd M w s tb mb sb gb W)(hSt:Sta M w s sb rb S W.out)(hI:InvZ n W S)(hne:S.ended=false)(hn:n<=1000000) :Calls prog 257 #[.pointer (some ⟨rb,0,none⟩),.int .i64 (n:Int)] w fun e w'=>∃v,e=.returned v/\WentV M w s tb mb sb gb rb (goOn n W S) v w':=by
 have HI:Hid (FinI M w s tb mb sb gb rb (goOn n W S) n w M s W S):=⟨Stp.refl _ _,⟨Sg.Le.refl _,NsPb.refl _ _⟩,hW,hSt,hI,hne,rfl⟩
 clear hW hSt hI hne;generalize goOn n W S=r at *;go_enter func257,ntmps257;go_wp2_with fail
 go_loopw [7] (fun iv wr=>∃(i:Nat)(Mk:Nat->Prop)(sk:Sg)(Wk:PW)(Sk:PS),iv=.int .i64 (i:Int)/\i<=n/\Hid (FinI M w s tb mb sb gb rb r (n-i) wr Mk sk Wk Sk)) (fun iv _=>n-(RowKit.intOf iv).toNat)
 case atStart=>exact⟨0,M,s,W,S,rfl,Nat.zero_le _,HI⟩
 case round =>
  obtain⟨i,Mk,sk,Wk,Sk,rfl,hi,HF⟩:=hrel;by_cases hil:i<n
  ·obtain⟨m,hm⟩:∃m,n-i=m+1:=⟨n-i-1,by omega⟩
   have hF:=HF.out;rw [hm] at hF;obtain⟨hz1,hz2,hz3⟩:=wF hF.inv;obtain⟨ho,t,hww,hsw,m2,hm2,ht⟩:=hF.inv;have HS:Hid (Calls prog 82 #[.pointer (some ⟨rb,0,none⟩)] wr fun e w'=>∃v,e=.returned v/\WentV Mk wr sk tb mb sb gb rb (Pl.step Wk Sk) v w'):=aDA Mk wr sk tb mb sb gb rb t m2 Wk Sk hF.wd hF.wd.rdr.tab.nsok hF.sta hww hsw hm2 (Nat.le_trans (Nat.le_add_right _ _) ht) ho hF.ne;have hil2:(i:Int)<(n:Int):=by omega
   have HZ:Hid (((Pl.step Wk Sk).e=0->(Pl.step Wk Sk).S.ended=true\/InvZ m (Pl.step Wk Sk).W (Pl.step Wk Sk).S)/\n-(i+1)=m):=⟨hz3,by omega⟩
   have HF2:Hid (FinI M w s tb mb sb gb rb r (m+1) wr Mk sk Wk Sk):=hF;clear hz1 hz2 hz3 hF ho hww hsw ht hm2 hm HF
   go_upto_region 4 with(go_at_call 82;refine Calls.mono HS.out ?_;rintro e w2 ⟨v,rfl,HQ⟩)
   obtain⟨M2,s2,k1,k2,k3,⟨k4,k5,k6⟩ | ⟨es,k4,k5,k6⟩⟩:=HQ
   ·simp only [Ending.returned.injEq] at k5;subst k5;have hg:=nY (n:=m) (W:=Wk) (S:=Sk) HF2.out.ne;rw [if_pos k4] at hg;have HE:Hid (Calls prog 81 #[.pointer (some ⟨rb,1,none⟩)] w2 fun e w'=>e=.returned (.bool (Pl.step Wk Sk).S.ended)/\w2=w'):=aB2 M2 w2 s2 sb rb _ _ k6
    cases hen:(Pl.step Wk Sk).S.ended with
    | true =>
     rw [hen] at HE
     have HX:Hid (WentV M w s tb mb sb gb rb r .nilIface w2):=by
      have hr:r=⟨0,(Pl.step Wk Sk).W,(Pl.step Wk Sk).S⟩:=by rw [HF2.out.eq,hg,aAE hen]
      rw [hr];exact⟨M2,s2,HF2.out.stp.trans k1,⟨HF2.out.le.1.trans k2.1,HF2.out.le.2.trans k2.2 HF2.out.stp.size⟩,k3,.inl ⟨rfl,rfl,k6⟩⟩
     clear k1 k2 k3 k4 k6 hg hen;go_wp2_with (go_at_call 81;refine Calls.mono HE.out ?_;rintro e w3 ⟨rfl,rfl⟩);go_ret;exact⟨_,rfl,HX.out⟩
    | false =>
     rw [hen] at HE
     have HN:Hid (FinI M w s tb mb sb gb rb r m w2 M2 s2 (Pl.step Wk Sk).W (Pl.step Wk Sk).S):=by
      refine⟨HF2.out.stp.trans k1,⟨HF2.out.le.1.trans k2.1,HF2.out.le.2.trans k2.2 HF2.out.stp.size⟩,k3,k6,?_,hen,by rw [HF2.out.eq,hg]⟩;rcases HZ.out.1 k4 with h | h
      ·rw [hen] at h;cases h
      ·exact h
     clear k1 k2 k3 k4 k6 hg hen;go_wp2_with (go_at_call 81;refine Calls.mono HE.out ?_;rintro e w3 ⟨rfl,rfl⟩)
     go_roundw
     case rel=>exact⟨i+1,M2,s2,_,_,by go_num,by omega,by rw [HZ.out.2];exact HN⟩
     case measure=>simp only [RowKit.intOf];omega
   ·simp only [Ending.returned.injEq] at k5;subst k5;have hg:=nY (n:=m) (W:=Wk) (S:=Sk) HF2.out.ne;rw [if_neg k4] at hg;have HX:Hid (WentV M w s tb mb sb gb rb r (aY es ((Pl.step Wk Sk).e:Nat)) w2):=by rw [HF2.out.eq,hg];exact⟨M2,s2,HF2.out.stp.trans k1,⟨HF2.out.le.1.trans k2.1,HF2.out.le.2.trans k2.2 HF2.out.stp.size⟩,k3,.inr ⟨es,k4,rfl,k6⟩⟩
    clear k1 k2 k3 k4 k6 hg;generalize (Pl.step Wk Sk).e=ec at *;unfold aY at HX ⊢;go_wp2_with fail;go_ret;exact⟨_,rfl,HX.out⟩
  ·obtain rfl:i=n:=by omega
   have hF:=HF.out;rw [Nat.sub_self] at hF;have HX:Hid (∀es,WentV M w s tb mb sb gb rb r (aY es 7) wr):=fun es=>by rw [hF.eq,wK hF.ne];exact⟨Mk,sk,hF.stp,hF.le,hF.wd,.inr ⟨es,by simp,rfl,hF.sta.out_⟩⟩
   clear hF HF;go_wp2_with (go_at_call 78;refine(bJ _ _ _).mono ?_;rintro e w3 ⟨rfl,rfl⟩);go_ret;exact⟨_,rfl,HX.out _⟩
theorem qN(w:World)(rb:Nat)(cs:Array Value)(ov:Value)(out:Byt)(hb:w.heap[rb]?=some (.cells cs TRun (0,0)))(hc:cs[5]?=some ov)(hown:w.ownsRow 0 TBy 1 ov out.length (cC out)):Calls prog 258 #[.pointer (some ⟨rb,5,none⟩)] w fun e w'=>e=.returned (.string ⟨out.toArray⟩)/\w=w':=by
 have c0:w.cell? ⟨rb,5,none⟩=some ov:=(aA hb 5).trans hc;obtain⟨ao,cap,rfl,hcap,hnil⟩:=cJ hown
 have hcv:(convert 165 9 (.slice ao out.length cap)).run prog w=.ok (.string ⟨out.toArray⟩) w:=by
  rcases hown.2 with⟨h1,h0⟩ | ⟨g,c,cur,h1,_⟩
  ·simp only [Value.slice.injEq] at h1;obtain⟨rfl,_,rfl⟩:=h1;obtain rfl:=List.eq_nil_of_length_eq_zero h0;exact qY w _ _
  ·simp only [Value.slice.injEq] at h1;obtain⟨rfl,_,rfl⟩:=h1;have:=lY hown out.length (Nat.le_refl _) cap;rw [List.take_length] at this;exact this
 clear hown hnil hb hc;go_enter func258,ntmps258;go_wp2_with fail;go_ret;exact⟨rfl,rfl⟩
def cQ(sb:Nat)(fv:Value):Array Value:=#[.pointer (some ⟨sb,0,none⟩),fv,.pointer none,.nilIface,.pointer none,.slice none 0 0]
theorem aDB(w:World)(sb:Nat)(fv:Value)(hf:∃T x,fv=.iface T x):Calls prog 79 #[.pointer (some ⟨sb,0,none⟩),fv] w fun e w'=>e=.returned (.pointer (some ⟨w.heap.size,0,none⟩))/\w'=w.alloc (.cells (cQ sb fv) TRun):=by obtain⟨T,x,rfl⟩:=hf;go_enter func79,ntmps79;go_wp2_with fail;go_ret;exact⟨rfl,rfl⟩
def RunQ(M:Nat->Prop)(w:World)(s:Sg)(tb mb sb gb:Nat)(r:SR)(e:Ending)(w':World):Prop :=
 ∃(M':Nat->Prop)(s':Sg)(tx:Byt)(ev:Value),Stp M w M' w'/\(Sg.Le s s'/\NsPb w s s')/\Wd M' w' s' tb mb sb gb r.W/\e=.returned (.tuple #[.string ⟨r.W.out.toArray⟩,.string ⟨tx.toArray⟩,ev]) /\
  ((r.e=0/\ev=.nilIface/\tx=Pl.cut (Pl.text r.W.pairs r.S.val))\/(r.e≠0/\tx=[]/\∃es,ev=aY es (r.e:Nat)))
theorem Wd.out0{s:Sg}{W:PW}(h:Wd M w s tb mb sb gb W)(o:Byt):Wd M w s tb mb sb gb {W with out:=o}:=h.more (Sg.Le.refl _) rfl rfl rfl rfl rfl rfl h.procs h.conts
theorem p_run(M:Nat->Prop)(w:World)(s:Sg)(tb mb sb gb n:Nat)(W:PW)(f:PF)(fv:Value)(hW:Wd M w s tb mb sb gb W)(ho:W.out=[])(hf:RFm M w s fv f)(hI:InvZ n W ⟨some f,[],.nothing,[]⟩)(hn:n<=1000000)(hP:WfQ (goOn n W ⟨some f,[],.nothing,[]⟩).W)(hv:(goOn n W ⟨some f,[],.nothing,[]⟩).e=0->(goOn n W ⟨some f,[],.nothing,[]⟩).S.form=none/\WfV (goOn n W ⟨some f,[],.nothing,[]⟩).W (goOn n W ⟨some f,[],.nothing,[]⟩).S.val) :Calls prog 256 #[.pointer (some ⟨sb,0,none⟩),fv,.int .i64 (n:Int)] w fun e w'=>RunQ M w s tb mb sb gb (goOn n W ⟨some f,[],.nothing,[]⟩) e w':=by
 have hB1:Below w.heap.size w (w.alloc (.cells (cQ sb fv) TRun)):=(Below.refl _ _).alloc (Nat.le_refl _) _;have hmv:Mv M w (Mn M (fun k=>k=w.heap.size)) (w.alloc (.cells (cQ sb fv) TRun)):=Mv.wide _ (fun k hk=>by rw [hk];exact Nat.le_refl _) hB1 (fun k hk=>by rw [hk];simp);have hblk:(w.alloc (.cells (cQ sb fv) TRun)).heap[w.heap.size]?=some (.cells (cQ sb fv) TRun (0,0)):=heap_alloc_new w _;have hsta:Sta (Mn M (fun k=>k=w.heap.size)) (w.alloc (.cells (cQ sb fv) TRun)) s sb w.heap.size ⟨some f,[],.nothing,[]⟩ W.out:=by rw [ho];exact⟨fv,.pointer none,.nilIface,.pointer none,.slice none 0 0,⟨hblk,.inr rfl⟩,⟨hf.go hmv.stp (Sg.Le.refl _),.nil⟩,rfl,⟨World.ownsRow_nil _ _ _ _,fun g hg=>by cases hg⟩⟩
 have HS:Hid (Calls prog 79 #[.pointer (some ⟨sb,0,none⟩),fv] w fun e w'=>e=.returned (.pointer (some ⟨w.heap.size,0,none⟩))/\w'=w.alloc (.cells (cQ sb fv) TRun)):=aDB w sb fv hf.iface;have HF:Hid (Calls prog 257 #[.pointer (some ⟨w.heap.size,0,none⟩),.int .i64 (n:Int)] (w.alloc (.cells (cQ sb fv) TRun)) fun e w'=>∃v,e=.returned v/\WentV (Mn M (fun k=>k=w.heap.size)) (w.alloc (.cells (cQ sb fv) TRun)) s tb mb sb gb w.heap.size (goOn n W ⟨some f,[],.nothing,[]⟩) v w'):=yV _ _ s tb mb sb gb w.heap.size n W _ (hW.mv hmv) hsta hI rfl hn;have HM:Hid (Stp M w (Mn M (fun k=>k=w.heap.size)) (w.alloc (.cells (cQ sb fv) TRun))):=hmv.stp;have HP:Hid (WfQ (goOn n W ⟨some f,[],.nothing,[]⟩).W/\((goOn n W ⟨some f,[],.nothing,[]⟩).e=0->(goOn n W ⟨some f,[],.nothing,[]⟩).S.form=none/\WfV (goOn n W ⟨some f,[],.nothing,[]⟩).W (goOn n W ⟨some f,[],.nothing,[]⟩).S.val)):=⟨hP,hv⟩
 obtain⟨T,x,rfl⟩:=hf.iface;clear hW ho hf hI hP hv hB1 hmv hblk hsta;generalize goOn n W ⟨some f,[],.nothing,[]⟩=r at *;go_enter func256,ntmps256
 go_upto_region 3 with(first
  | (go_at_call 79;refine Calls.mono HS.out ?_;rintro e w1 ⟨rfl,rfl⟩)
  | (go_at_call 257;refine Calls.mono HF.out ?_;rintro e w2 ⟨v,rfl,HQ⟩))
 obtain⟨M2,s2,k1,k2,k3,⟨k4,k5,k6⟩ | ⟨es,k4,k5,k6⟩⟩:=HQ
 ·simp only [Ending.returned.injEq] at k5;subst k5;obtain⟨k7,k8⟩:=HP.out.2 k4;obtain⟨fv2,ev2,gv2,kv2,ov2,hr2,hfo2,hfr2,ho2⟩:=k6.ex;unfold FormO at hfo2;rw [k7] at hfo2;have e3:w2.cell? ⟨w.heap.size,3,none⟩=some gv2:=aA hr2.blk 3;have hrl:=aB hr2.blk;have HStr:Hid (∀w1,Below w2.heap.size w2 w1->Calls prog 258 #[.pointer (some ⟨w.heap.size,5,none⟩)] w1 fun e w'=>e=.returned (.string ⟨r.W.out.toArray⟩)/\w1=w'):=fun w1 hB=>qN w1 w.heap.size _ ov2 r.W.out ((hB.block _ hrl).trans hr2.blk) rfl (gA ho2.1 (fun g hg=>hB.block g (ho2.1.lt g hg).2));have HOf:Hid (∀w1,Below w2.heap.size w2 w1->Calls prog 126 #[gv2] w1 fun e w'=>e=.returned (.string ⟨(Pl.cut (Pl.text r.W.pairs r.S.val)).toArray⟩)/\Hid (Below w2.heap.size w2 w')):=fun w1 hB=>(hH r.W HP.out.1 s2 w1 gv2 r.S.val (k3.lie hB) hfo2.2 k8).mono (fun e w' ⟨j1,j2⟩=>⟨j1,hB.trans (j2.mono hB.size)⟩);have HX:Hid (∀w3,Below w2.heap.size w2 w3->RunQ M w s tb mb sb gb r (.returned (.tuple #[.string ⟨r.W.out.toArray⟩,.string ⟨(Pl.cut (Pl.text r.W.pairs r.S.val)).toArray⟩,.nilIface])) w3):=fun w3 hB=>⟨M2,s2,_,_,(HM.out.trans k1).trans (Stp.of_below hB),⟨k2.1,k2.2.back HM.out.size⟩,k3.mv (Mv.below hB),rfl,.inl ⟨k4,rfl,rfl⟩⟩
  obtain⟨Tg,xg,rfl⟩:=hfo2.2.iface;clear k1 k2 k3 k4 k6 k7 k8 hr2 hfo2 hfr2 ho2;generalize Pl.cut (Pl.text r.W.pairs r.S.val)=tx at *;generalize r.W.out=ot at *;go_wp2_with fail
  go_region_with (first
   | (go_at_call 126;refine(HOf.out _ (by exact(Below.refl _ _).drew)).mono ?_;rintro e w3 ⟨rfl,HB3⟩)
   | (go_at_call 258;refine(HStr.out _ (by first | exact(Below.refl _ _).drew | exact HB3.out)).mono ?_;rintro e w4 ⟨rfl,rfl⟩))
  all_goals
   go_wp2_with fail
   go_ret3
   exact HX.out _ HB3.out
 ·simp only [Ending.returned.injEq] at k5;subst k5;obtain⟨fv2,ev2,gv2,kv2,ov2,hr2,ho2⟩:=k6;have hrl:=aB hr2.blk;have HStr:Hid (Calls prog 258 #[.pointer (some ⟨w.heap.size,5,none⟩)] w2 fun e w'=>e=.returned (.string ⟨r.W.out.toArray⟩)/\w2=w'):=qN w2 w.heap.size _ ov2 r.W.out hr2.blk rfl ho2.1;have HX:Hid (RunQ M w s tb mb sb gb r (.returned (.tuple #[.string ⟨r.W.out.toArray⟩,.string ⟨#[]⟩,aY es (r.e:Nat)])) w2):=⟨M2,s2,[],_,HM.out.trans k1,⟨k2.1,k2.2.back HM.out.size⟩,k3,rfl,.inr ⟨k4,rfl,es,rfl⟩⟩
  clear k1 k2 k3 k4 hr2 ho2;generalize r.W.out=ot at *;generalize hre:r.e=re at *;unfold aY at HX ⊢;go_wp2_with (go_at_call 258;refine Calls.mono HStr.out ?_;rintro e w4 ⟨rfl,rfl⟩)
  go_ret3
  exact HX.out
theorem Sto.grown{w':World}{R:Nat}{c:Array Value}{fz:Nat×Nat}(g:w.grownBy w' (some R))(hb:w.heap[R]?=some (.cells c TOc fz))(hR:8<=R):Sto w w' :=
 ⟨g.size,fun k x hk hx=>(g.block k (aB hk) (fun e=>by
   have:=Option.some.inj e;subst this;rw [hb] at hk
   exact hx c TOc fz (.inl rfl) (Option.some.inj hk).symm)).trans hk,fun k hk=>g.block k (by have:=aB hb;omega) (fun e=>by have:=Option.some.inj e;omega)⟩
theorem pV{M':Nat->Prop}{w3 w4:World}{s:Sg}{R:Nat}{W:PW}{cs:Array Value}(h:Wd M' w3 s tb mb sb gb W)(hs:Stp M w M' w3)(hb:w3.heap[R]?=some (.cells cs TOc (0,0)))(hR:w.heap.size<=R)(hg:8<=w.heap.size)(hB:Below w3.heap.size w3 w4)(c:Int)(o t:ByteArray):Wd M' (ansZ w4 R c o t) s tb mb sb gb W/\Stp M w M' (ansZ w4 R c o t):=by have b4:=(hB.block R (aB hb)).trans hb;have g:w4.grownBy (ansZ w4 R c o t) (some R):=aC (aC (aE w4 R 0 _) (aE _ R 1 _)) (aE _ R 2 _);have hs4:=hs.trans (Stp.of_below hB);refine⟨(h.mv (Mv.below hB)).sto (Sto.grown g b4 (by omega)),⟨g.os.trans hs4.os,g.tape.trans hs4.tape,g.output.trans hs4.output,Nat.le_trans hs4.size g.size,fun k hk hn=>?_⟩⟩;obtain⟨h1,h2⟩:=hs4.block k hk hn;exact⟨(g.block k (Nat.lt_of_lt_of_le hk hs4.size) (fun e=>by have:=Option.some.inj e;omega)).trans h1,h2⟩
theorem zJ(M:Nat->Prop)(w:World)(s:Sg)(tb mb sb gb t m:Nat)(W:PW)(b:ByteArray)(n:Int)(hW:Wd M w s tb mb sb gb W)(hww:WW W t)(hsm:WSm W m)(ht:m+1001000<=6500000000000000000)(hz:s.ns.length+300<=NsMax) :Calls prog 74 #[.iface 73 (.pointer (some ⟨sb,0,none⟩)),.agg #[.string b,.int .i64 n],.pointer (some ⟨tb,0,none⟩)] w fun e w'=>AnsP M w s tb mb sb gb (Pl.answer W (b.data.toList,n)) e w':=by
 obtain⟨a1,a2,a3,a4⟩:=ansA_at w b n;have hWA:Wd M (oE w b n) s tb mb sb gb W:=hW.mv (Mv.below a4);have hMR:∀j,w.heap.size<=j->¬M j:=fun j hj hm=>by have:=hW.rdr.mlt j hm;omega
 have hsA:Stp M w M (oE w b n):=Stp.of_below a4;have hrd:=aB0 b n M (oE w b n) s tb mb W.pairs hWA.rdr hWA.ge hz;have hgl:=hW.gs.size
 cases hov:Pl.over n with
 | true =>
  have hE:Pl.answer W (b.data.toList,n)=(W,⟨6,[],[]⟩):=by unfold Pl.answer;rw [if_pos hov]
  rw [hE];refine(gS w _ _ b n 6 (fun w'=>Below (oE w b n).heap.size (oE w b n) w') ⟨_,_,rfl⟩ ⟨_,rfl⟩ (hrd.mono (fun e w' hh=>?_)) (fun w' hB=>?_)).mono (fun e w' hh=>?_)
  ·obtain⟨v,ev,rfl,⟨_,⟨es,rfl⟩,h3⟩ | ⟨h1,_⟩⟩:=hh
   ·exact⟨v,es,rfl,h3⟩
   ·rw [hov] at h1;cases h1
  ·exact⟨(hWA.mv (Mv.below hB)).gt,(hB.block _ (by omega)).trans a2⟩
  ·obtain⟨w3,w4,rfl,hB,hB4,rfl⟩:=hh;obtain⟨z1,z2⟩:=pV (hWA.mv (Mv.below hB)) (hsA.trans (Stp.of_below hB)) ((hB.block _ (by omega)).trans a2) (by omega) hgl hB4 (6:Nat) ⟨#[]⟩ ⟨#[]⟩;exact⟨rfl,M,s,z2,⟨Sg.Le.refl _,PbN.refl _ _⟩,by omega,z1⟩
 | false =>
  by_cases hc:Pl.check b.data.toList=0
  ·cases hf:Pl.readF b.data.toList with
   | none =>
    refine(gS w _ _ b n 5 (fun _=>False) ⟨_,_,rfl⟩ ⟨_,rfl⟩ (hrd.mono (fun e w' hh=>?_)) (fun w' hB=>hB.elim)).mono (fun e w' hh=>?_)
    ·obtain⟨v,ev,rfl,⟨h1,_⟩ | ⟨_,_,u,_,_,⟨c,es,h1,h2,_⟩ | ⟨f,_,h2,_⟩⟩⟩:=hh
     ·rw [hov] at h1;cases h1
     ·omega
     ·rw [hf] at h2;cases h2
    ·obtain⟨w3,w4,_,hB,_⟩:=hh;exact hB.elim
   | some f =>
    obtain⟨hI,hP,hV⟩:=aDN (i:=(b.data.toList,n)) hww hsm ht f hov hc hf;have hE:Pl.answer W (b.data.toList,n)=((goOn n.toNat (Pl.beganW W f) (Pl.beganS W f)).W,Pl.told (goOn n.toNat (Pl.beganW W f) (Pl.beganS W f))):=by unfold Pl.answer;dsimp only;rw [if_neg (by simp [hov]),if_neg (by simp [hc]),hf]
    have hnn:0<=n/\n<=1000000:=by unfold Pl.over at hov;simp at hov;omega
    rw [hE];dsimp only at hI hP hV;obtain⟨k,rfl⟩:∃k:Nat,n=(k:Int):=⟨n.toNat,by omega⟩
    simp only [Int.toNat_natCast] at hI hP hV ⊢;have hRun:∀fv w2 u,Wd M w2 u tb mb sb gb (Pl.beganW W f)->RFm M w2 u fv (Pl.settle f W.pairs.length).1->Calls prog 256 #[.pointer (some ⟨sb,0,none⟩),fv,.int .i64 (k:Int)] w2 fun e w'=>RunQ M w2 u tb mb sb gb (goOn k (Pl.beganW W f) (Pl.beganS W f)) e w':=fun fv w2 u h4 h5=>p_run M w2 u tb mb sb gb k (Pl.beganW W f) _ fv h4 rfl h5 hI (by omega) hP hV;clear hI hP hV hE;generalize goOn k (Pl.beganW W f) (Pl.beganS W f)=r at *
    refine(sP w sb _ b (k:Int) ⟨r.W.out.toArray⟩ ⟨(Pl.told r).val.toArray⟩ r.e
     (fun fv w2=>∃u,(Sg.Le s u/\PbN w s u)/\u.ns.length<=s.ns.length+300/\Stp M (oE w b (k:Int)) M w2/\Wd M w2 u tb mb sb gb (Pl.beganW W f)/\RFm M w2 u fv (Pl.settle f W.pairs.length).1)
     (fun w3=>∃M' u,Stp M (oE w b (k:Int)) M' w3/\(Sg.Le s u/\PbN w s u)/\u.ns.length<=s.ns.length+300/\Wd M' w3 u tb mb sb gb r.W) ⟨_,rfl⟩ (hrd.mono (fun e w' hh=>?_)) (fun fv w' hh=>?_) (fun fv w2 hh=>?_) (fun w' hh=>?_)).mono (fun e w' hh=>?_)
    ·obtain⟨v,ev,rfl,⟨h1,_⟩ | ⟨_,hg,u,hu,hl,⟨c,es,h1,h2,_⟩ | ⟨f1,_,h2,rfl,h4,h5⟩⟩⟩:=hh
     ·rw [hov] at h1;cases h1
     ·omega
     ·obtain rfl:f=f1:=by rw [hf] at h2;exact Option.some.inj h2
      exact⟨v,rfl,u,⟨hu.1.le,(PbN.refl w s).trans hu.2 a4.size⟩,hl,eL hg hWA.rdr.mmb,(hWA.read hg hu.1 h4).out0 [],h5⟩
    ·obtain⟨u,_,_,h3,_,h5⟩:=hh;exact⟨h5.iface,(h3.block _ (by omega) (hMR _ (Nat.le_refl _))).1.trans a1⟩
    ·obtain⟨u,h1,h2,h3,h4,h5⟩:=hh;refine(hRun fv w2 u h4 h5).mono (fun e w' hq=>?_);obtain⟨M',u',tx,ev,q1,⟨q2,q3⟩,q4,rfl,q5⟩:=hq;have hQ2:∃M' u,Stp M (oE w b (k:Int)) M' w'/\(Sg.Le s u/\PbN w s u)/\u.ns.length<=s.ns.length+300/\Wd M' w' u tb mb sb gb r.W:=⟨M',u',h3.trans q1,⟨h1.1.trans q2,h1.2.trans q3.2 (Nat.le_trans a4.size h3.size)⟩,by rw [q3.1];exact h2,q4⟩
     rcases q5 with⟨e0,rfl,rfl⟩ | ⟨e0,rfl,es,rfl⟩
     ·refine⟨.nilIface,?_,?_,hQ2⟩
      ·unfold Pl.told;rw [if_pos e0]
      ·have:=sL w';rw [e0];exact this
     ·refine⟨aY es (r.e:Nat),?_,aCA es _ w' q4.gt,hQ2⟩;unfold Pl.told;rw [if_neg e0]
    ·obtain⟨M',u,h1,_,_,_⟩:=hh;exact(h1.block _ (by omega) (hMR _ (Nat.le_succ _))).1.trans a2
    ·obtain⟨w3,w4,rfl,⟨M',u,h1,h2,h3,h4⟩,hB4,rfl⟩:=hh;obtain⟨z1,z2⟩:=pV h4 (hsA.trans h1) ((h1.block _ (by omega) (hMR _ (Nat.le_succ _))).1.trans a2) (by omega) hgl hB4 (r.e:Nat) ⟨r.W.out.toArray⟩ ⟨(Pl.told r).val.toArray⟩;exact⟨rfl,M',u,z2,h2,h3,z1⟩
  ·have hE:Pl.answer W (b.data.toList,n)=(W,⟨Pl.check b.data.toList,[],[]⟩):=by unfold Pl.answer;dsimp only;rw [if_neg (by simp [hov]),if_pos hc]
   rw [hE];refine(gS w _ _ b n (Pl.check b.data.toList) (fun w'=>∃u,(SgR s u/\PbN (oE w b n) s u)/\u.ns.length<=s.ns.length+300/\(oE w b n).grownBy w' (some mb)/\Rdr M w' u tb mb W.pairs) ⟨_,_,rfl⟩ ⟨_,rfl⟩ (hrd.mono (fun e w' hh=>?_)) (fun w' hh=>?_)).mono (fun e w' hh=>?_)
   ·obtain⟨v,ev,rfl,⟨h1,_⟩ | ⟨_,hg,u,hu,hl,⟨c,es,h1,h2,_,rfl,_,h6⟩ | ⟨f1,h1,_⟩⟩⟩:=hh
    ·rw [hov] at h1;cases h1
    ·exact⟨v,es,by rw [h1],u,hu,hl,hg,h6⟩
    ·exact absurd h1 hc
   ·obtain⟨u,hu,hl,hg,hR⟩:=hh;exact⟨(hWA.read hg hu.1 hR).gt,((eL hg hWA.rdr.mmb).block _ (by omega) (hMR _ (Nat.le_succ _))).1.trans a2⟩
   ·obtain⟨w3,w4,rfl,⟨u,hu,hl,hg,hR⟩,hB4,rfl⟩:=hh;have hs3:Stp M (oE w b n) M w3:=eL hg hWA.rdr.mmb;obtain⟨z1,z2⟩:=pV (hWA.read hg hu.1 hR) (hsA.trans hs3) ((hs3.block _ (by omega) (hMR _ (Nat.le_succ _))).1.trans a2) (by omega) hgl hB4 (Pl.check b.data.toList:Nat) ⟨#[]⟩ ⟨#[]⟩;exact⟨rfl,M,u,z2,⟨hu.1.le,(PbN.refl w s).trans hu.2 a4.size⟩,hl,z1⟩
end
end Go.Proofs.YtkgbdddkcjpgfaaGreatDoor
