import Derived.Deep.QuietTactic
import Derived.Test.YtkgbdddkcjpgfaaGreatDoorC27
namespace Go.Proofs.YtkgbdddkcjpgfaaGreatDoor
set_option maxHeartbeats 4000000
set_option maxRecDepth 100000
open Go.Proofs.Tryz
open Pl (PV PW PS PF PFr SR Byt Env)
section
open Go.RowKit Go.Lib Go.Maps
variable {kv gv ov ev fv ev0 v:Value} {M:Nat->Prop} {w w2 w1:World} {rb tb mb sb gb:Nat}
def gD(W:PW)(S:PS)(nm:Byt):SR:=match Pl.seek W S.env nm with
 | some i=>⟨0,W,S.give (W.places[i]?.getD .nothing)⟩
 | none=>⟨8,W,S⟩
theorem iU{s:Sg}{W:PW}(h:Wd M w s tb mb sb gb W):gb<w.heap.size/\sb<w.heap.size:=by obtain⟨es,c,hb⟩:=h.glob.mapAt;exact⟨aB hb,aB h.ses⟩
theorem eX{s:Sg}{S:PS}{q:PV}(hv:RV s v q):FormO M w2 s .nilIface (.pointer none) v (S.give q):=⟨rfl,hv⟩
theorem iG{s:Sg}{W:PW}{S':PS}{es:ByteArray}{c:Nat}(hW:Wd M w s tb mb sb gb W)(h1:RunAt M w sb rb fv ev gv kv ov)(h4:OutR M w ov W.out)(hB:Below w.heap.size w w2)(hc:c≠0):Went M w s tb mb sb gb rb ⟨c,W,S'⟩ (.returned (aY es c)) w2:=by have hm:Mv M w M w2:=Mv.below hB;exact⟨M,s,hm.stp,⟨Sg.Le.refl _,NsPb.refl _ _⟩,hW.mv hm,.inr ⟨es,hc,rfl,⟨fv,ev,gv,kv,ov,⟨(hB.block rb (aB h1.blk)).trans h1.blk,h1.mrb⟩,h4.below hB⟩⟩⟩
theorem yS(M:Nat->Prop)(w:World)(s:Sg)(tb mb sb gb rb:Nat)(W:PW)(S:PS)(hW:Wd M w s tb mb sb gb W)(hN:NsOk s)(hr:RunAt M w sb rb fv ev gv kv ov)(he:EnvR M w s ev S.env)(hf:FrR M w s kv S.frames)(ho:OutR M w ov W.out)(nm:Byt)(k:Nat)(hk:s.ns[k]?=some nm)(hl:nm.length<=1000) :Calls prog 170 #[.pointer (some ⟨rb,0,none⟩),.agg #[.string ⟨nm.toArray⟩,.int .i64 (k:Int)]] w fun e w'=>Went M w s tb mb sb gb rb (gD W S nm) e w':=by
 have hB1:Below w.heap.size w (w.alloc (.cells #[.string ⟨nm.toArray⟩,.int .i64 (k:Int)] TNam)).drew:=((Below.refl _ _).alloc (Nat.le_refl _) _).drew;have hrl:=aB hr.blk;have e0:w.cell? ⟨rb,0,none⟩=some (.pointer (some ⟨sb,0,none⟩)):=aA hr.blk 0;have e2:w.cell? ⟨rb,2,none⟩=some ev:=aA hr.blk 2
 have HP:Hid (Calls prog 194 #[ev,.agg #[.string ⟨nm.toArray⟩,.int .i64 (k:Int)]] (w.alloc (.cells #[.string ⟨nm.toArray⟩,.int .i64 (k:Int)] TNam)).drew fun e w2=>∃v,e=.returned (.pointer v)/\Hid (Below w.heap.size w w2/\w2.heap[w.heap.size]?=some (.cells #[.string ⟨nm.toArray⟩,.int .i64 (k:Int)] TNam (0,0))/\PlcQ s S.env nm (.returned (.pointer v)))) :=
  show Calls _ _ _ _ _ from(uW M _ s ev S.env nm k hW.nodup (he.go (Stp.of_below hB1) (Sg.Le.refl _)) hk).mono (fun e w2 h=>by
   have hbx:w2.heap[w.heap.size]?=some (.cells #[.string ⟨nm.toArray⟩,.int .i64 (k:Int)] TNam (0,0)):=(h.1.block w.heap.size (by simp)).trans (heap_alloc_new w _);rcases h.2 with⟨h1,rfl⟩ | ⟨i,g,o,h1,h2,rfl⟩
   ·exact⟨_,rfl,hB1.trans (h.1.mono (by simp)),hbx,.inl ⟨h1,rfl⟩⟩
   ·exact⟨_,rfl,hB1.trans (h.1.mono (by simp)),hbx,.inr ⟨i,g,o,h1,h2,rfl⟩⟩)
 have HW:Hid (Wd M w s tb mb sb gb W):=hW;have HR:Hid (RunAt M w sb rb fv ev gv kv ov):=hr;have HF:Hid (FrR M w s kv S.frames):=hf;have HO:Hid (OutR M w ov W.out):=ho;have HK:Hid (s.ns[k]?=some nm/\NsOk s):=⟨hk,hN⟩
 obtain⟨oe,rfl⟩:=he.ptr;clear hW hN hr he hf ho hk hB1;go_enter func170,ntmps170
 go_upto_region 1 with fail
 go_cut [5] (fun x wx=>∃v,x=.pointer v/\Hid (Below w.heap.size w wx/\wx.heap[w.heap.size]?=some (.cells #[.string ⟨nm.toArray⟩,.int .i64 (k:Int)] TNam (0,0))/\PlcQ s S.env nm (.returned (.pointer v))))
 case first =>
  go_region_with (go_at_call 194;refine Calls.mono HP.out ?_;rintro e w2 ⟨v,rfl,HQ⟩)
  all_goals
   go_wp2_with fail
   go_meet
   exact⟨v,rfl,HQ⟩
 case rest =>
  obtain⟨v,rfl,HQ⟩:=hcut;obtain⟨hB2,hbx,hPl⟩:=HQ.out;have hb2:=(hB2.block rb hrl).trans HR.out.blk;have HB2:Hid (Below w.heap.size w wc):=hB2;have HG:Hid (∀w1:World,w1.heap[rb]?=wc.heap[rb]? -> ∀v,(∃T x,v=.iface T x)->Calls prog 169 #[.pointer (some ⟨rb,1,none⟩),v] w1 fun e w'=>e=.returned (.tuple #[])/\RunCh w1 rb #[.pointer (some ⟨sb,0,none⟩),.nilIface,.pointer none,v,kv,ov] w'):=fun w1 h1 v hv=>jF w1 rb _ _ _ _ _ _ v (h1.trans hb2) hv;have HF2:Hid (∀q v,RV s v q->gD W S nm=⟨0,W,S.give q⟩->∀w3,RunCh wc rb #[.pointer (some ⟨sb,0,none⟩),.nilIface,.pointer none,v,kv,ov] w3->Went M w s tb mb sb gb rb (gD W S nm) (.returned .nilIface) w3):=fun q v hv hq w3 hc=>by rw [hq];refine(eH (HW.out.mv (Mv.below hB2)) hb2 HR.out.mrb hc (fun _=>eX hv) (fun hs=>?_) (HO.out.below hB2)).after (Stp.of_below hB2);exact(HF.out.go (Stp.of_below hB2) (Sg.Le.refl _)).go hs (Sg.Le.refl _)
  rcases hPl with⟨hno,hv⟩ | ⟨i,g,o,hi,hlp,hv⟩
  ·simp only [Ending.returned.injEq,Value.pointer.injEq] at hv;subst hv;have hsb:=(iU HW.out).2;have hgb:=(iU HW.out).1;have d0:wc.cell? ⟨rb,0,none⟩=some (.pointer (some ⟨sb,0,none⟩)):=aA hb2 0;have d1:wc.cell? ⟨sb,0,none⟩=some (.map (some gb)):=aA ((hB2.block sb hsb).trans HW.out.ses) 0;have d2:wc.cell? ⟨w.heap.size,0,none⟩=some (.string ⟨nm.toArray⟩):=aA hbx 0;have d3:wc.cell? ⟨w.heap.size,1,none⟩=some (.int .i64 (k:Int)):=aA hbx 1
   cases hfg:Pl.find W.globals nm with
   | some i =>
    obtain⟨v,p,hp,hv,hlk⟩:=rE HW.out.glob HK.out.2 HK.out.1 hfg;have HX:Hid (∀w3,RunCh wc rb #[.pointer (some ⟨sb,0,none⟩),.nilIface,.pointer none,v,kv,ov] w3->Went M w s tb mb sb gb rb (gD W S nm) (.returned .nilIface) w3):=HF2.out p v hv (by unfold gD Pl.seek;rw [hno];dsimp only;rw [hfg];dsimp only;rw [hp];rfl);have l1:=hlk wc (hB2.block gb hgb);have l2:=hlk wc.drew (hB2.block gb hgb);obtain⟨T,x,rfl⟩:=hv.iface;clear hlk hv hp hfg hno hB2 hbx hb2 HQ;go_wp2_with fail
    go_region
    all_goals
     go_wp2_with (go_at_call 169;refine(HG.out _ (by rfl) _ ⟨_,_,rfl⟩).mono ?_;rintro e w3 ⟨rfl,hc3⟩)
     go_ret;exact HX.out _ (hc3.after ((Below.refl _ _).drew))
   | none =>
    have l1:=pS HW.out.glob HK.out.2 HK.out.1 hfg wc (hB2.block gb hgb);have l2:=pS HW.out.glob HK.out.2 HK.out.1 hfg wc.drew (hB2.block gb hgb);have HX:Hid (gD W S nm=⟨8,W,S⟩):=show gD W S nm=_ from by unfold gD Pl.seek;rw [hno];dsimp only;rw [hfg]
    clear hfg hno hB2 hbx hb2 HQ;go_wp2_with fail
    go_region
    all_goals
     go_wp2_with (go_at_call 78;refine(bJ _ _ _).mono ?_;rintro e w3 ⟨rfl,rfl⟩)
     go_ret;rw [HX.out];exact iG HW.out HR.out HO.out HB2.out.drew (by decide)
  ·simp only [Ending.returned.injEq,Value.pointer.injEq] at hv;subst hv;have hil:=(List.getElem?_eq_some_iff.1 hlp).1;obtain⟨p,hp⟩:∃p,W.places[i]?=some p:=⟨_,List.getElem?_eq_getElem (by rw [<- HW.out.places.len];exact hil)⟩
   obtain⟨_,cur,v,hg,hcv,hv⟩:=HW.out.places.at_ i g o p hlp hp;have cg:wc.cell? ⟨g,o,none⟩=some v:=(aA ((hB2.block g (aB hg)).trans hg) o).trans hcv;have HX:Hid (∀w3,RunCh wc rb #[.pointer (some ⟨sb,0,none⟩),.nilIface,.pointer none,v,kv,ov] w3->Went M w s tb mb sb gb rb (gD W S nm) (.returned .nilIface) w3):=HF2.out p v hv (by unfold gD Pl.seek;rw [hi];dsimp only;rw [hp];rfl);obtain⟨T,x,rfl⟩:=hv.iface;clear hv hp hi hlp hB2 hbx hb2 HQ hg hcv;go_wp2_with fail;go_region_with (go_at_call 169;refine(HG.out _ (by rfl) _ ⟨_,_,rfl⟩).mono ?_;rintro e w3 ⟨rfl,hc3⟩)
   all_goals
    go_wp2_with fail
    go_ret;exact HX.out _ (hc3.after ((Below.refl _ _).drew))
theorem iP{s:Sg}{W:PW}{S:PS}{f:PF}{env:Env}{fv' ev':Value}(hW:Wd M w s tb mb sb gb W)(hr:RunAt M w sb rb fv ev gv kv ov)(hf:FrR M w s kv S.frames)(ho:OutR M w ov W.out)(h1:RFm M w s fv' f)(h2:EnvR M w s ev' env)(hc:RunCh w rb #[.pointer (some ⟨sb,0,none⟩),fv',ev',.nilIface,kv,ov] w2){o:Option PF}(hfo:o=some f):Went M w s tb mb sb gb rb ⟨0,W,S.work o env⟩ (.returned .nilIface) w2:=by subst hfo;exact eH hW hr.blk hr.mrb hc (fun hs=>⟨h1.go hs (Sg.Le.refl _),h2.go hs (Sg.Le.refl _)⟩) (fun hs=>hf.go hs (Sg.Le.refl _)) ho
theorem fr_push{s:Sg}{p:Nat}{cs cs0:Array Value}{fs:List PFr}{top:Value}{fr:PFr}(hl:∀k,M k->k<w.heap.size)(hb:w.heap[rb]?=some (.cells cs0 TRun (0,0)))(hM:M rb)(hc:RunCh w rb cs w2)(hf:FrR M w s kv fs)(ht:TopR M w s top fr)(hp:w.heap.size<=p)(hpc:w2.heap[p]?=some (.cells #[top,kv,.int .i64 ((fs.length+1:Nat):Int)] TPile (0,0))):FrR M w2 s (.pointer (some ⟨p,0,none⟩)) (fr::fs):=by have hs:=(hc.mv hb hM).stp;exact⟨p,top,kv,rfl,fun hm=>by have:=hl p hm;omega,hpc,ht.go hs (Sg.Le.refl _),hf.go hs (Sg.Le.refl _)⟩
theorem dL{s:Sg}{p:Nat}{W:PW}{S:PS}{f:PF}{fr:PFr}{env:Env}{fv' ev' top:Value}{cs:Array Value}(hW:Wd M w s tb mb sb gb W)(hr:RunAt M w sb rb fv ev gv kv ov)(hf:FrR M w s kv S.frames)(ho:OutR M w ov W.out)(h1:RFm M w s fv' f)(h2:EnvR M w s ev' env)(ht:TopR M w s top fr)(hc1:RunCh w rb cs w1)(hp:w.heap.size<=p)(hpc:w1.heap[p]?=some (.cells #[top,kv,.int .i64 ((S.frames.length+1:Nat):Int)] TPile (0,0)))
  (hc2:RunCh w1 rb #[.pointer (some ⟨sb,0,none⟩),fv',ev',.nilIface,.pointer (some ⟨p,0,none⟩),ov] w2) {o:Option PF} (hfo:o=some f):Went M w s tb mb sb gb rb ⟨0,W,(S.push fr).work o env⟩ (.returned .nilIface) w2:=by
 subst hfo;have hrl:=aB hr.blk;have hpc2:=(hc2.other p (aB hpc) (by omega)).trans hpc;exact eH hW hr.blk hr.mrb (hc1.trans hc2) (fun hs=>⟨h1.go hs (Sg.Le.refl _),h2.go hs (Sg.Le.refl _)⟩) (fun _=>fr_push hW.rdr.mlt hr.blk hr.mrb (hc1.trans hc2) hf ht hp hpc2) ho
theorem yF(M:Nat->Prop)(w:World)(s:Sg)(tb mb sb gb rb:Nat)(W:PW)(S:PS)(env:Env)(hW:Wd M w s tb mb sb gb W){a b c:Value}(hr:RunAt M w sb rb fv ev0 gv kv ov)(hf:FrR M w s kv S.frames)(ho:OutR M w ov W.out)(he:EnvR M w s ev env)(y z:PF)(ha:∃T x,a=.iface T x)(hb:RFm M w s b y)(hc:RFm M w s c z)(v:Value)(q:PV)(hv:RV s v q)(o:Option PF)(hoo:o=if q=.truth false then some z else some y) :Calls prog 380 #[.agg #[a,b,c,ev],.pointer (some ⟨rb,0,none⟩),v] w fun e w'=>Went M w s tb mb sb gb rb ⟨0,W,S.work o env⟩ e w':=by
 have hrl:=aB hr.blk;have hq:=fun w'=>hv.eqFalse hW.eng w';have HB:Hid (∀ob,Below w.heap.size w (w.alloc ob)):=fun ob=>(Below.refl _ _).alloc (Nat.le_refl _) _;have HX:Hid (∀ob w2 fv' f,RFm M w s fv' f->o=some f->RunCh (w.alloc ob) rb #[.pointer (some ⟨sb,0,none⟩),fv',ev,.nilIface,kv,ov] w2->Went M w s tb mb sb gb rb ⟨0,W,S.work o env⟩ (.returned .nilIface) w2):=fun ob w2 fv' f h1 h2 h3=>iP hW hr hf ho h1 he (h3.after (HB.out ob)) h2;have HG:Hid (∀w1:World,w1.heap[rb]?=w.heap[rb]? -> ∀fv',(∃T x,fv'=.iface T x)->Calls prog 172 #[.pointer (some ⟨rb,1,none⟩),fv',ev] w1 fun e w'=>e=.returned (.tuple #[])/\RunCh w1 rb #[.pointer (some ⟨sb,0,none⟩),fv',ev,.nilIface,kv,ov] w'):=fun w1 h1 fv' hv=>cU w1 rb _ _ _ _ _ _ fv' ev (h1.trans hr.blk) hv he.ptr;have HK:Hid (∀ob,(w.alloc ob).drew.heap[rb]?=w.heap[rb]?):=fun ob=>(HB.out ob).block rb hrl;have HZ:Hid (RFm M w s b y/\RFm M w s c z):=⟨hb,hc⟩
 obtain⟨oe,rfl⟩:=he.ptr;obtain⟨T,x,rfl⟩:=hv.iface;obtain⟨Ta,xa,rfl⟩:=ha;obtain⟨Tb,xb,rfl⟩:=hb.iface;obtain⟨Tc,xc,rfl⟩:=hc.iface;by_cases hqf:q=.truth false
 ·have hd:decide (q=.truth false)=true:=by simpa using hqf
  rw [hd] at hq;rw [if_pos hqf] at hoo;have HO2:Hid (o=some z):=hoo;clear hW hr hf ho he hb hc hv hqf hd hoo;go_enter func380,ntmps380;go_wp2_with fail;go_region_with (go_at_call 172;refine(HG.out _ (HK.out _) _ ⟨_,_,rfl⟩).mono ?_;rintro e w3 ⟨rfl,hc3⟩)
  all_goals
   go_wp2_with fail
   go_ret;exact HX.out _ _ _ z HZ.out.2 HO2.out (hc3.after ((Below.refl _ _).drew))
 ·have hd:decide (q=.truth false)=false:=by simpa using hqf
  rw [hd] at hq;rw [if_neg hqf] at hoo;have HO2:Hid (o=some y):=hoo;clear hW hr hf ho he hb hc hv hqf hd hoo;go_enter func380,ntmps380;go_wp2_with fail;go_region_with (go_at_call 172;refine(HG.out _ (HK.out _) _ ⟨_,_,rfl⟩).mono ?_;rintro e w3 ⟨rfl,hc3⟩)
  all_goals
   go_wp2_with fail
   go_ret;exact HX.out _ _ _ y HZ.out.1 HO2.out (hc3.after ((Below.refl _ _).drew))
def RowQ(w:World)(sb rb:Nat)(us:List Value)(u0:Value)(sl ev kv ov:Value)(n:Nat)(w':World):Prop :=
 (us.length=0/\RunCh w rb #[.pointer (some ⟨sb,0,none⟩),u0,ev,.nilIface,kv,ov] w') \/
 (us.length≠0/\∃p g off ao c cs w1,w.heap.size<=p/\sl=.slice (some ⟨g,off,none⟩) (us.length+1) c/\ao=some ⟨g,off+1,none⟩/\(∃c',us.length<=c'/\w1.heap[p]?=some (.cells #[.iface 375 (.agg #[.slice ao us.length c',ev]),kv,.int .i64 ((n+1:Nat):Int)] TPile (0,0)))/\RunCh w rb cs w1/\RunCh w1 rb #[.pointer (some ⟨sb,0,none⟩),u0,ev,.nilIface,.pointer (some ⟨p,0,none⟩),ov] w')
theorem m6(w:World)(sb rb:Nat)(fv ev0 gv kv ov sl ev u0:Value)(us:List Value)(n:Nat)(hb:w.heap[rb]?=some (.cells #[.pointer (some ⟨sb,0,none⟩),fv,ev0,gv,kv,ov] TRun (0,0)))(hS:SlOf w sl (u0::us))(hne:∀a n c,sl=.slice (some a) n c->a.block≠rb)(hl:us.length<=2000)(hi:∃T x,u0=.iface T x)(hp:∃o,ev=.pointer o)(hk:∃o,kv=.pointer o)(hn:PileN w kv n)(hn2:n<=6500000000000000000) :Calls prog 173 #[.pointer (some ⟨rb,0,none⟩),sl,ev] w fun e w'=>e=.returned (.tuple #[])/\RowQ w sb rb us u0 sl ev kv ov n w':=by
 have hrl:=aB hb;obtain⟨g,off,cap,rfl,hcap,hg,c0,_⟩:=hS.cell0;have hgr:g≠rb:=hne ⟨g,off,none⟩ _ _ rfl;obtain⟨T,x,rfl⟩:=hi;obtain⟨oe,rfl⟩:=hp;obtain⟨ok,rfl⟩:=hk;have HW:Hid (∀(w1:World)(k1:Value) cs,w1.heap[rb]?=some (.cells cs TRun (0,0))->(∃a b c,cs=#[.pointer (some ⟨sb,0,none⟩),a,b,c,k1,ov])->Calls prog 172 #[.pointer (some ⟨rb,1,none⟩),.iface T x,.pointer oe] w1 fun e w'=>e=.returned (.tuple #[])/\RunCh w1 rb #[.pointer (some ⟨sb,0,none⟩),.iface T x,.pointer oe,.nilIface,k1,ov] w'):=fun w1 k1 cs h1 ⟨a,b,c,h2⟩=>by subst h2;exact cU w1 rb _ _ _ _ _ _ _ _ h1 ⟨_,_,rfl⟩ ⟨_,rfl⟩
 have HP:Hid (∀(ao:Option Addr)(L c:Nat),L=us.length->us.length<=c->ao=some ⟨g,off+1,none⟩->Calls prog 171 #[.pointer (some ⟨rb,1,none⟩),.iface 375 (.agg #[.slice ao L c,.pointer oe])] w.drew fun e w'=>e=.returned (.tuple #[])/\Hid (∃p c',us.length<=c'/\w.heap.size<=p/\w'.heap[p]?=some (.cells #[.iface 375 (.agg #[.slice (some ⟨g,off+1,none⟩) us.length c',.pointer oe]),.pointer ok,.int .i64 ((n+1:Nat):Int)] TPile (0,0))/\RunCh w rb #[.pointer (some ⟨sb,0,none⟩),fv,ev0,gv,.pointer (some ⟨p,0,none⟩),ov] w')):=fun ao L c h1 h2 h3=>by subst h1 h3;exact(kS w.drew rb _ _ _ _ _ ov _ n hb ⟨_,_,rfl⟩ ⟨_,rfl⟩ (hn.below ((Below.refl _ _).drew)) hn2).mono (fun e w' ⟨h1,p,h2',h3,h4⟩=>⟨h1,p,c,h2,h2',h3,h4.after ((Below.refl _ _).drew)⟩)
 have HM:Hid (∃m,us.length+1=m):=⟨_,rfl⟩
 obtain⟨m,hm⟩:=HM.out;unfold RowQ;rw [hm] at hcap ⊢;by_cases h0:us.length=0
 ·have hgt:decide ((1:Int)<(m:Int))=false:=by simp;omega
  have HL:Hid (us.length=0):=h0;have hl1:(0:Int)<(m:Int):=by omega
  have HW1:Hid (∀w1:World,w1.heap[rb]?=w.heap[rb]? -> Calls prog 172 #[.pointer (some ⟨rb,1,none⟩),.iface T x,.pointer oe] w1 fun e w'=>e=.returned (.tuple #[])/\RunCh w1 rb #[.pointer (some ⟨sb,0,none⟩),.iface T x,.pointer oe,.nilIface,.pointer ok,ov] w'):=fun w1 h1=>HW.out w1 _ _ (h1.trans hb) ⟨_,_,_,rfl⟩;clear hS hn hb h0 HP HM HW;go_enter func173,ntmps173;go_wp2_with fail;go_region_with (go_at_call 172;refine(HW1.out _ (by rfl)).mono ?_;rintro e w3 ⟨rfl,hc3⟩)
  all_goals
   go_wp2_with fail
   go_end0
   exact⟨rfl,.inl ⟨HL.out,hc3.after ((Below.refl _ _).drew)⟩⟩
 ·have hgt:decide ((1:Int)<(m:Int))=true:=by simp;omega
  have HL:Hid (us.length≠0):=h0;have hl1:(0:Int)<(m:Int):=by omega
  have hl2:(1:Int)<=(m:Int):=by omega
  obtain⟨c,rfl⟩:∃c,cap=c+2:=⟨cap-2,by omega⟩
  have HC:Hid (m<=c+2):=hcap;clear hS hn hb h0 HM;go_enter func173,ntmps173
  go_upto_region 1 with fail
  go_cut [] (fun wx=>Hid (∃p c',us.length<=c'/\w.heap.size<=p/\wx.heap[p]?=some (.cells #[.iface 375 (.agg #[.slice (some ⟨g,off+1,none⟩) us.length c',.pointer oe]),.pointer ok,.int .i64 ((n+1:Nat):Int)] TPile (0,0))/\RunCh w rb #[.pointer (some ⟨sb,0,none⟩),fv,ev0,gv,.pointer (some ⟨p,0,none⟩),ov] wx))
  case first =>
   go_region_with (go_at_call 171;refine(HP.out _ _ _ (by omega) (by have:=HC.out;omega) rfl).mono ?_;rintro e w3 ⟨rfl,HQ⟩)
   all_goals
    go_wp2_with fail
    go_meet
    exact HQ
  case rest =>
   have HQ:=hcut;obtain⟨p,c',h1,h2,h3,h4⟩:=HQ.out;have c03:wc.cell? ⟨g,off,none⟩=some (.iface T x):=(World.cell?_of_block (w:=w) (h4.other g hg hgr)).trans c0;have HX:Hid (∀w',RunCh wc rb #[.pointer (some ⟨sb,0,none⟩),.iface T x,.pointer oe,.nilIface,.pointer (some ⟨p,0,none⟩),ov] w'->_):=fun w' hc=>(Or.inr ⟨HL.out,p,g,off,_,c+2,_,wc,h2,by rw [hm],rfl,⟨c',h1,h3⟩,h4,hc⟩:RowQ w sb rb us (.iface T x) (.slice (some ⟨g,off,none⟩) (us.length+1) (c+2)) (.pointer oe) (.pointer ok) ov n w')
   have HW1:Hid (∀w1:World,w1.heap[rb]?=wc.heap[rb]? -> Calls prog 172 #[.pointer (some ⟨rb,1,none⟩),.iface T x,.pointer oe] w1 fun e w'=>e=.returned (.tuple #[])/\RunCh w1 rb #[.pointer (some ⟨sb,0,none⟩),.iface T x,.pointer oe,.nilIface,.pointer (some ⟨p,0,none⟩),ov] w'):=fun w1 e1=>HW.out w1 _ _ (e1.trans h4.blk) ⟨_,_,_,rfl⟩;have hrw:rb<wc.heap.size:=aB h4.blk;clear h1 h2 h3 h4 HQ hcut;go_wp2_with fail;go_region_with (go_at_call 172;refine(HW1.out _ (by rfl)).mono ?_;rintro e w3 ⟨rfl,hc3⟩)
   all_goals
    go_wp2_with fail
    go_end0
    have:=HX.out _ (hc3.after ((Below.refl _ _).drew));unfold RowQ at this;rw [hm] at this;exact⟨rfl,this⟩
theorem Tryz.fyes_Constant(v:Value)(w:World):(Instr.typeAssert (.iface 223 v) 61 223 true).run prog w=.ok (.tuple #[v,.bool true]) w:=by kernel_rfl
theorem Tryz.fyes_Name(v:Value)(w:World):(Instr.typeAssert (.iface 214 v) 61 214 true).run prog w=.ok (.tuple #[v,.bool true]) w:=by kernel_rfl
theorem Tryz.fno_Name_Constant(v:Value)(w:World):(Instr.typeAssert (.iface 214 v) 61 223 true).run prog w=.ok (.tuple #[.agg #[.nilIface,.bool false],.bool false]) w:=by kernel_rfl
theorem Tryz.fyes_Lambda(v:Value)(w:World):(Instr.typeAssert (.iface 329 v) 61 329 true).run prog w=.ok (.tuple #[v,.bool true]) w:=by kernel_rfl
theorem Tryz.fno_Lambda_Constant(v:Value)(w:World):(Instr.typeAssert (.iface 329 v) 61 223 true).run prog w=.ok (.tuple #[.agg #[.nilIface,.bool false],.bool false]) w:=by kernel_rfl
theorem Tryz.fno_Lambda_Name(v:Value)(w:World):(Instr.typeAssert (.iface 329 v) 61 214 true).run prog w=.ok (.tuple #[.agg #[.string ⟨#[]⟩,.int .i64 0],.bool false]) w:=by kernel_rfl
theorem Tryz.fyes_If(v:Value)(w:World):(Instr.typeAssert (.iface 335 v) 61 335 true).run prog w=.ok (.tuple #[v,.bool true]) w:=by kernel_rfl
theorem Tryz.fno_If_Constant(v:Value)(w:World):(Instr.typeAssert (.iface 335 v) 61 223 true).run prog w=.ok (.tuple #[.agg #[.nilIface,.bool false],.bool false]) w:=by kernel_rfl
theorem Tryz.fno_If_Name(v:Value)(w:World):(Instr.typeAssert (.iface 335 v) 61 214 true).run prog w=.ok (.tuple #[.agg #[.string ⟨#[]⟩,.int .i64 0],.bool false]) w:=by kernel_rfl
theorem Tryz.fno_If_Lambda(v:Value)(w:World):(Instr.typeAssert (.iface 335 v) 61 329 true).run prog w=.ok (.tuple #[.agg #[.slice none 0 0,.nilIface],.bool false]) w:=by kernel_rfl
theorem Tryz.fyes_Set(v:Value)(w:World):(Instr.typeAssert (.iface 340 v) 61 340 true).run prog w=.ok (.tuple #[v,.bool true]) w:=by kernel_rfl
theorem Tryz.fno_Set_Constant(v:Value)(w:World):(Instr.typeAssert (.iface 340 v) 61 223 true).run prog w=.ok (.tuple #[.agg #[.nilIface,.bool false],.bool false]) w:=by kernel_rfl
theorem Tryz.fno_Set_Name(v:Value)(w:World):(Instr.typeAssert (.iface 340 v) 61 214 true).run prog w=.ok (.tuple #[.agg #[.string ⟨#[]⟩,.int .i64 0],.bool false]) w:=by kernel_rfl
theorem Tryz.fno_Set_Lambda(v:Value)(w:World):(Instr.typeAssert (.iface 340 v) 61 329 true).run prog w=.ok (.tuple #[.agg #[.slice none 0 0,.nilIface],.bool false]) w:=by kernel_rfl
theorem Tryz.fno_Set_If(v:Value)(w:World):(Instr.typeAssert (.iface 340 v) 61 335 true).run prog w=.ok (.tuple #[.agg #[.nilIface,.nilIface,.nilIface],.bool false]) w:=by kernel_rfl
theorem Tryz.fyes_Define(v:Value)(w:World):(Instr.typeAssert (.iface 218 v) 61 218 true).run prog w=.ok (.tuple #[v,.bool true]) w:=by kernel_rfl
theorem Tryz.fno_Define_Constant(v:Value)(w:World):(Instr.typeAssert (.iface 218 v) 61 223 true).run prog w=.ok (.tuple #[.agg #[.nilIface,.bool false],.bool false]) w:=by kernel_rfl
theorem Tryz.fno_Define_Name(v:Value)(w:World):(Instr.typeAssert (.iface 218 v) 61 214 true).run prog w=.ok (.tuple #[.agg #[.string ⟨#[]⟩,.int .i64 0],.bool false]) w:=by kernel_rfl
theorem Tryz.fno_Define_Lambda(v:Value)(w:World):(Instr.typeAssert (.iface 218 v) 61 329 true).run prog w=.ok (.tuple #[.agg #[.slice none 0 0,.nilIface],.bool false]) w:=by kernel_rfl
theorem Tryz.fno_Define_If(v:Value)(w:World):(Instr.typeAssert (.iface 218 v) 61 335 true).run prog w=.ok (.tuple #[.agg #[.nilIface,.nilIface,.nilIface],.bool false]) w:=by kernel_rfl
theorem Tryz.fno_Define_Set(v:Value)(w:World):(Instr.typeAssert (.iface 218 v) 61 340 true).run prog w=.ok (.tuple #[.agg #[.string ⟨#[]⟩,.int .i64 0,.nilIface],.bool false]) w:=by kernel_rfl
theorem Tryz.fyes_Begin(v:Value)(w:World):(Instr.typeAssert (.iface 347 v) 61 347 true).run prog w=.ok (.tuple #[v,.bool true]) w:=by kernel_rfl
theorem Tryz.fno_Begin_Constant(v:Value)(w:World):(Instr.typeAssert (.iface 347 v) 61 223 true).run prog w=.ok (.tuple #[.agg #[.nilIface,.bool false],.bool false]) w:=by kernel_rfl
theorem Tryz.fno_Begin_Name(v:Value)(w:World):(Instr.typeAssert (.iface 347 v) 61 214 true).run prog w=.ok (.tuple #[.agg #[.string ⟨#[]⟩,.int .i64 0],.bool false]) w:=by kernel_rfl
theorem Tryz.fno_Begin_Lambda(v:Value)(w:World):(Instr.typeAssert (.iface 347 v) 61 329 true).run prog w=.ok (.tuple #[.agg #[.slice none 0 0,.nilIface],.bool false]) w:=by kernel_rfl
theorem Tryz.fno_Begin_If(v:Value)(w:World):(Instr.typeAssert (.iface 347 v) 61 335 true).run prog w=.ok (.tuple #[.agg #[.nilIface,.nilIface,.nilIface],.bool false]) w:=by kernel_rfl
theorem Tryz.fno_Begin_Set(v:Value)(w:World):(Instr.typeAssert (.iface 347 v) 61 340 true).run prog w=.ok (.tuple #[.agg #[.string ⟨#[]⟩,.int .i64 0,.nilIface],.bool false]) w:=by kernel_rfl
theorem Tryz.fno_Begin_Define(v:Value)(w:World):(Instr.typeAssert (.iface 347 v) 61 218 true).run prog w=.ok (.tuple #[.agg #[.string ⟨#[]⟩,.int .i64 0,.nilIface],.bool false]) w:=by kernel_rfl
theorem Tryz.fyes_Call(v:Value)(w:World):(Instr.typeAssert (.iface 349 v) 61 349 true).run prog w=.ok (.tuple #[v,.bool true]) w:=by kernel_rfl
theorem Tryz.fno_Call_Constant(v:Value)(w:World):(Instr.typeAssert (.iface 349 v) 61 223 true).run prog w=.ok (.tuple #[.agg #[.nilIface,.bool false],.bool false]) w:=by kernel_rfl
theorem Tryz.fno_Call_Name(v:Value)(w:World):(Instr.typeAssert (.iface 349 v) 61 214 true).run prog w=.ok (.tuple #[.agg #[.string ⟨#[]⟩,.int .i64 0],.bool false]) w:=by kernel_rfl
theorem Tryz.fno_Call_Lambda(v:Value)(w:World):(Instr.typeAssert (.iface 349 v) 61 329 true).run prog w=.ok (.tuple #[.agg #[.slice none 0 0,.nilIface],.bool false]) w:=by kernel_rfl
theorem Tryz.fno_Call_If(v:Value)(w:World):(Instr.typeAssert (.iface 349 v) 61 335 true).run prog w=.ok (.tuple #[.agg #[.nilIface,.nilIface,.nilIface],.bool false]) w:=by kernel_rfl
theorem Tryz.fno_Call_Set(v:Value)(w:World):(Instr.typeAssert (.iface 349 v) 61 340 true).run prog w=.ok (.tuple #[.agg #[.string ⟨#[]⟩,.int .i64 0,.nilIface],.bool false]) w:=by kernel_rfl
theorem Tryz.fno_Call_Define(v:Value)(w:World):(Instr.typeAssert (.iface 349 v) 61 218 true).run prog w=.ok (.tuple #[.agg #[.string ⟨#[]⟩,.int .i64 0,.nilIface],.bool false]) w:=by kernel_rfl
theorem Tryz.fno_Call_Begin(v:Value)(w:World):(Instr.typeAssert (.iface 349 v) 61 347 true).run prog w=.ok (.tuple #[.agg #[.slice none 0 0],.bool false]) w:=by kernel_rfl
theorem uM(M:Nat->Prop)(w:World)(s:Sg)(tb mb sb gb rb:Nat)(W:PW)(S:PS)(hW:Wd M w s tb mb sb gb W){b:Bool}{q:PV}(hr:RunAt M w sb rb (.iface 223 (.agg #[v,.bool b])) ev gv kv ov)(he:∃o,ev=.pointer o)(hf:FrR M w s kv S.frames)(ho:OutR M w ov W.out)(hv:RV s v q) :Calls prog 128 #[.pointer (some ⟨rb,0,none⟩)] w fun e w'=>Went M w s tb mb sb gb rb ⟨0,W,S.give q⟩ e w':=by
 generalize hfv:Value.iface 223 (.agg #[v,.bool b])=fv0 at hr;have hrl:=aB hr.blk;have e1:w.cell? ⟨rb,1,none⟩=some fv0:=aA hr.blk 1;have e2:w.cell? ⟨rb,2,none⟩=some ev:=aA hr.blk 2;have HB:Hid (∀ob,Below w.heap.size w (w.alloc ob)):=fun ob=>(Below.refl _ _).alloc (Nat.le_refl _) _;have HK:Hid (∀ob,(w.alloc ob).drew.heap[rb]?=w.heap[rb]?):=fun ob=>(HB.out ob).block rb hrl;subst hfv;have fy:=Tryz.fyes_Constant;have HX:Hid (∀ob w2,RunCh (w.alloc ob) rb #[.pointer (some ⟨sb,0,none⟩),.nilIface,.pointer none,v,kv,ov] w2->Went M w s tb mb sb gb rb ⟨0,W,S.give q⟩ (.returned .nilIface) w2):=fun ob w2 hc=>eH hW hr.blk hr.mrb (hc.after (HB.out ob)) (fun _=>eX hv) (fun hs=>hf.go hs (Sg.Le.refl _)) ho;have HG:Hid (∀w1:World,w1.heap[rb]?=w.heap[rb]? -> Calls prog 169 #[.pointer (some ⟨rb,1,none⟩),v] w1 fun e w'=>e=.returned (.tuple #[])/\RunCh w1 rb #[.pointer (some ⟨sb,0,none⟩),.nilIface,.pointer none,v,kv,ov] w'):=fun w1 h1=>jF w1 rb _ _ _ _ _ _ v (h1.trans hr.blk) hv.iface;obtain⟨oe,rfl⟩:=he;obtain⟨T,x,rfl⟩:=hv.iface;clear hW hr hf ho hv;go_enter func128,ntmps128;go_wp2_with fail;go_region_with (go_at_call 169;refine(HG.out _ (HK.out _)).mono ?_;rintro e w3 ⟨rfl,hc3⟩)
 all_goals
  go_wp2_with fail
  go_ret;exact HX.out _ _ (hc3.after ((Below.refl _ _).drew))
theorem yC(M:Nat->Prop)(w:World)(s:Sg)(tb mb sb gb rb:Nat)(W:PW)(S:PS)(hW:Wd M w s tb mb sb gb W)(hN:NsOk s)(nm:Byt)(k:Nat)(hr:RunAt M w sb rb (.iface 214 (.agg #[.string ⟨nm.toArray⟩,.int .i64 (k:Int)])) ev gv kv ov)(he:EnvR M w s ev S.env)(hf:FrR M w s kv S.frames)(ho:OutR M w ov W.out)(hk:s.ns[k]?=some nm)(hl:nm.length<=1000) :Calls prog 128 #[.pointer (some ⟨rb,0,none⟩)] w fun e w'=>Went M w s tb mb sb gb rb (gD W S nm) e w':=by
 generalize hfv:Value.iface 214 (.agg #[.string ⟨nm.toArray⟩,.int .i64 (k:Int)])=fv0 at hr;have hrl:=aB hr.blk;have e1:w.cell? ⟨rb,1,none⟩=some fv0:=aA hr.blk 1;have e2:w.cell? ⟨rb,2,none⟩=some ev:=aA hr.blk 2;have HB:Hid (∀ob,Below w.heap.size w (w.alloc ob)):=fun ob=>(Below.refl _ _).alloc (Nat.le_refl _) _;have HK:Hid (∀ob,(w.alloc ob).drew.heap[rb]?=w.heap[rb]?):=fun ob=>(HB.out ob).block rb hrl;subst hfv;have fy:=Tryz.fyes_Name;have fn0:=Tryz.fno_Name_Constant
 have HC:Hid (∀ob,Calls prog 170 #[.pointer (some ⟨rb,0,none⟩),.agg #[.string ⟨nm.toArray⟩,.int .i64 (k:Int)]] (w.alloc ob) fun e w'=>∃x,e=.returned x/\Hid (Went M w s tb mb sb gb rb (gD W S nm) (.returned x) w')):=fun ob =>
  (yS M _ s tb mb sb gb rb W S (hW.mv (Mv.below (HB.out ob))) hN ⟨((HB.out ob).block rb hrl).trans hr.blk,hr.mrb⟩ (he.go (Stp.of_below (HB.out ob)) (Sg.Le.refl _)) (hf.go (Stp.of_below (HB.out ob)) (Sg.Le.refl _)) (ho.below (HB.out ob)) nm k hk hl).mono (fun e w' h=>by
   obtain⟨x,rfl⟩:=h.one
   exact⟨x,rfl,h.after (Stp.of_below (HB.out ob))⟩)
 obtain⟨oe,rfl⟩:=he.ptr;clear hW hr hf ho he hN hk;go_enter func128,ntmps128;go_wp2_with (go_at_call 170;refine(HC.out _).mono ?_;rintro e w3 ⟨x,rfl,HQ⟩);go_ret;exact HQ.out
theorem Kept.after{w':World}(h:Kept M w1 rb w')(hB:Below w.heap.size w w1)(hl:rb<w.heap.size):Kept M w rb w' :=⟨(Stp.of_below hB).trans h.stp,h.run.trans (hB.block rb hl),fun g cur fz hg=>(h.outs g cur fz ((hB.block g (aB hg)).trans hg)).trans (hB.block g (aB hg))⟩
theorem iF{s t:Sg}{W W':PW}{S S':PS}{q:PV}(hr:RunAt M w sb rb fv ev gv kv ov)(hf:FrR M w s kv S.frames)(ho:OutR M w ov W.out)(hk:Kept M w rb w1)(l:Sg.Le s t)(ln:NsPb w s t)(hW:Wd M w1 t tb mb sb gb W')(eo:W'.out=W.out)(hv:RV t v q)(hS:S'=S.give q)(hc:RunCh w1 rb #[.pointer (some ⟨sb,0,none⟩),.nilIface,.pointer none,v,kv,ov] w2):Went M w s tb mb sb gb rb ⟨0,W',S'⟩ (.returned .nilIface) w2:=by
 subst hS;refine(eH hW (hk.run.trans hr.blk) hr.mrb hc (fun _=>eX hv) (fun hs=>?_) ?_).after2 hk.stp l ln
 ·exact(hf.go hk.stp l).go hs (Sg.Le.refl _)
 ·rw [eo];exact ho.keep (fun g cur fz hm hg=>⟨hk.outs g cur fz hg,hm⟩)
def SetQ(M:Nat->Prop)(w:World)(s:Sg)(tb mb sb gb rb:Nat)(W:PW)(env:Env)(nm:Byt)(q:PV)(v:Value)(w':World):Prop :=(∃i,Pl.seek W env nm=some i/\v=.nilIface/\Wd M w' s tb mb sb gb {W with places:=W.places.set i q}/\Kept M w rb w')\/(Pl.seek W env nm=none/\(∃es,v=aY es 8)/\Below w.heap.size w w')
theorem p_setR(M:Nat->Prop)(w:World)(s:Sg)(tb mb sb gb rb:Nat)(W:PW)(env:Env)(hW:Wd M w s tb mb sb gb W)(hN:NsOk s)(hgl:W.globals.length<=6500000000000000000)(hr:RunAt M w sb rb fv ev0 gv kv ov)(he:EnvR M w s ev env)(nm:Byt)(k:Nat)(hk:s.ns[k]?=some nm)(hl:nm.length<=1000)(v:Value)(q:PV)(hv:RV s v q) :Calls prog 384 #[.pointer (some ⟨rb,0,none⟩),.agg #[.string ⟨nm.toArray⟩,.int .i64 (k:Int)],ev,v] w fun e w'=>∃x,e=.returned x/\SetQ M w s tb mb sb gb rb W env nm q x w':=by
 have hB1:Below w.heap.size w (w.alloc (.cells #[.string ⟨nm.toArray⟩,.int .i64 (k:Int)] TNam)):=(Below.refl _ _).alloc (Nat.le_refl _) _;have hrl:=aB hr.blk
 have HP:Hid (Calls prog 194 #[ev,.agg #[.string ⟨nm.toArray⟩,.int .i64 (k:Int)]] (w.alloc (.cells #[.string ⟨nm.toArray⟩,.int .i64 (k:Int)] TNam)) fun e w2=>∃v,e=.returned (.pointer v)/\Hid (Below w.heap.size w w2/\w2.heap[w.heap.size]?=some (.cells #[.string ⟨nm.toArray⟩,.int .i64 (k:Int)] TNam (0,0))/\PlcQ s env nm (.returned (.pointer v)))) :=
  show Calls _ _ _ _ _ from(uW M _ s ev env nm k hW.nodup (he.go (Stp.of_below hB1) (Sg.Le.refl _)) hk).mono (fun e w2 h=>by
   have hbx:w2.heap[w.heap.size]?=some (.cells #[.string ⟨nm.toArray⟩,.int .i64 (k:Int)] TNam (0,0)):=(h.1.block w.heap.size (by simp)).trans (heap_alloc_new w _);rcases h.2 with⟨h1,rfl⟩ | ⟨i,g,o,h1,h2,rfl⟩
   ·exact⟨_,rfl,hB1.trans (h.1.mono (by simp)),hbx,.inl ⟨h1,rfl⟩⟩
   ·exact⟨_,rfl,hB1.trans (h.1.mono (by simp)),hbx,.inr ⟨i,g,o,h1,h2,rfl⟩⟩)
 have HW:Hid (Wd M w s tb mb sb gb W):=hW;have HR:Hid (RunAt M w sb rb fv ev0 gv kv ov):=hr;have HK:Hid (s.ns[k]?=some nm/\NsOk s/\W.globals.length<=6500000000000000000):=⟨hk,hN,hgl⟩
 have HV:Hid (RV s v q):=hv;obtain⟨oe,rfl⟩:=he.ptr;obtain⟨T,x,rfl⟩:=hv.iface;clear hW hN hr he hk hB1 hgl hv;go_enter func384,ntmps384
 go_upto_region 2 with(go_at_call 194;refine Calls.mono HP.out ?_;rintro e wc ⟨v,rfl,HQ⟩)
 obtain⟨hB2,hbx,hPl⟩:=HQ.out;have hb2:=(hB2.block rb hrl).trans HR.out.blk;have HB2:Hid (Below w.heap.size w wc):=hB2;have hW2:=HW.out.mv (Mv.below hB2);rcases hPl with⟨hno,hv⟩ | ⟨i,g,o,hi,hlp,hv⟩
 ·simp only [Ending.returned.injEq,Value.pointer.injEq] at hv;subst hv;have hsb:=(iU HW.out).2;have hgb:=(iU HW.out).1;have d0:wc.cell? ⟨rb,0,none⟩=some (.pointer (some ⟨sb,0,none⟩)):=aA hb2 0;have d1:wc.cell? ⟨sb,0,none⟩=some (.map (some gb)):=aA ((hB2.block sb hsb).trans HW.out.ses) 0;have d2:wc.cell? ⟨w.heap.size,0,none⟩=some (.string ⟨nm.toArray⟩):=aA hbx 0;have d3:wc.cell? ⟨w.heap.size,1,none⟩=some (.int .i64 (k:Int)):=aA hbx 1
  cases hfg:Pl.find W.globals nm with
  | some i =>
   obtain⟨v,p,hp,hv,hlk⟩:=rE HW.out.glob HK.out.2.1 HK.out.1 hfg;have l2:=hlk wc.drew (hB2.block gb hgb);have hsk:Pl.seek W env nm=some i:=by unfold Pl.seek;rw [hno];exact hfg
   obtain⟨w3,hrun3,hW3,hK3⟩:=Wd.putG (w:=wc.drew.drew) (HW.out.mv (Mv.below HB2.out.drew.drew)) HK.out.2.1 HK.out.1 hfg HV.out HK.out.2.2 rb _ hb2;have HX:Hid (SetQ M w s tb mb sb gb rb W env nm q .nilIface w3):=.inl ⟨i,hsk,rfl,hW3,hK3.after HB2.out.drew.drew hrl⟩;obtain⟨T',x',rfl⟩:=hv.iface;clear hlk hv hp hfg hno hB2 hbx hb2 HQ hW2 hsk hW3 hK3;go_wp2_with fail
   go_region
   all_goals
    go_wp2_with fail
    go_region
    all_goals
     go_wp2_with fail
     go_ret;exact⟨_,rfl,HX.out⟩
  | none =>
   have l2:=pS HW.out.glob HK.out.2.1 HK.out.1 hfg wc.drew (hB2.block gb hgb);have HX:Hid (∀es,SetQ M w s tb mb sb gb rb W env nm q (aY es 8) wc.drew):=fun es=>.inr ⟨by unfold Pl.seek;rw [hno];exact hfg,⟨es,rfl⟩,HB2.out.drew⟩;clear hfg hno hB2 hbx hb2 HQ hW2;go_wp2_with fail
   go_region
   all_goals
    go_wp2_with (go_at_call 78;refine(bJ _ _ _).mono ?_;rintro e w3 ⟨rfl,rfl⟩)
    go_ret;exact⟨_,rfl,HX.out _⟩
 ·simp only [Ending.returned.injEq,Value.pointer.injEq] at hv;subst hv;have hsk:Pl.seek W env nm=some i:=by unfold Pl.seek;rw [hi]
  obtain⟨hW3,hK3,hfz,u,hcu⟩:=hW2.setPlace hlp HV.out rb _ hb2;have HX:Hid (SetQ M w s tb mb sb gb rb W env nm q .nilIface (wc.setCell ⟨g,o,none⟩ (.iface T x))):=.inl ⟨i,hsk,rfl,hW3,hK3.after HB2.out hrl⟩;clear hi hlp hB2 hbx hb2 HQ hW2 hsk hW3 hK3;go_wp2_with fail;go_ret;exact⟨_,rfl,HX.out⟩
theorem uO(M:Nat->Prop)(w:World)(s:Sg)(tb mb sb gb rb:Nat)(W:PW)(S:PS)(env:Env)(hW:Wd M w s tb mb sb gb W)(hN:NsOk s)(hgl:W.globals.length<=6500000000000000000)(hr:RunAt M w sb rb fv ev0 gv kv ov)(hf:FrR M w s kv S.frames)(ho:OutR M w ov W.out)(he:EnvR M w s ev env)(nm:Byt)(k:Nat)(hk:s.ns[k]?=some nm)(hl:nm.length<=1000)(v:Value)(q:PV)(hv:RV s v q)(r:SR)
  (hrr:r=match Pl.seek W env nm with | some i=>⟨0,{W with places:=W.places.set i q},S.give .nothing⟩ | none=>⟨8,W,S⟩) :
  Calls prog 383 #[.agg #[.string ⟨nm.toArray⟩,.int .i64 (k:Int),ev],.pointer (some ⟨rb,0,none⟩),v] w fun e w'=>Went M w s tb mb sb gb rb r e w':=by
 have hB1:Below w.heap.size w (w.alloc (.cells #[.string ⟨nm.toArray⟩,.int .i64 (k:Int),ev] 342)):=(Below.refl _ _).alloc (Nat.le_refl _) _;have hrl:=aB hr.blk;have hs1:Stp M w M (w.alloc (.cells #[.string ⟨nm.toArray⟩,.int .i64 (k:Int),ev] 342)):=Stp.of_below hB1;have HP:Hid (Calls prog 384 #[.pointer (some ⟨rb,0,none⟩),.agg #[.string ⟨nm.toArray⟩,.int .i64 (k:Int)],ev,v] (w.alloc (.cells #[.string ⟨nm.toArray⟩,.int .i64 (k:Int),ev] 342)) fun e w'=>∃x,e=.returned x/\SetQ M (w.alloc (.cells #[.string ⟨nm.toArray⟩,.int .i64 (k:Int),ev] 342)) s tb mb sb gb rb W env nm q x w') :=p_setR M _ s tb mb sb gb rb W env (hW.mv (Mv.below hB1)) hN hgl ⟨(hB1.block rb hrl).trans hr.blk,hr.mrb⟩ (he.go hs1 (Sg.Le.refl _)) nm k hk hl v q hv;have HB1:Hid (Below w.heap.size w (w.alloc (.cells #[.string ⟨nm.toArray⟩,.int .i64 (k:Int),ev] 342))):=hB1;have HW:Hid (Wd M w s tb mb sb gb W):=hW;have HR:Hid (RunAt M w sb rb fv ev0 gv kv ov):=hr;have HF:Hid (FrR M w s kv S.frames):=hf;have HO:Hid (OutR M w ov W.out):=ho;obtain⟨oe,rfl⟩:=he.ptr;obtain⟨T,x,rfl⟩:=hv.iface;clear hW hN hr he hf ho hk hB1 hs1 hgl hv
 cases hsk:Pl.seek W env nm with
 | some i =>
  rw [hsk] at hrr;have HRR:Hid (r=⟨0,{W with places:=W.places.set i q},S.give .nothing⟩):=hrr;clear hrr;go_enter func383,ntmps383
  go_upto_region 2 with(go_at_call 384;refine Calls.mono HP.out ?_;rintro e wc ⟨x1,rfl,HQ⟩)
  rcases HQ with⟨i',hi',rfl,hW2,hK2⟩ | ⟨hi',_⟩
  ·obtain rfl:i'=i:=Option.some.inj (hi'.symm.trans hsk);have hK:=hK2.after HB1.out hrl;have HX:Hid (∀w3,RunCh wc rb #[.pointer (some ⟨sb,0,none⟩),.nilIface,.pointer none,.iface 299 (.agg #[]),kv,ov] w3->Went M w s tb mb sb gb rb r (.returned .nilIface) w3):=fun w3 hc=>by rw [HRR.out];exact iF (W:=W) HR.out HF.out HO.out hK (Sg.Le.refl _) (NsPb.refl _ _) hW2 rfl .nothing rfl hc
   have HG:Hid (Calls prog 169 #[.pointer (some ⟨rb,1,none⟩),.iface 299 (.agg #[])] wc fun e w'=>e=.returned (.tuple #[])/\RunCh wc rb #[.pointer (some ⟨sb,0,none⟩),.nilIface,.pointer none,.iface 299 (.agg #[]),kv,ov] w'):=jF wc rb _ _ _ _ _ _ _ (hK.run.trans HR.out.blk) ⟨_,_,rfl⟩;clear hW2 hK2 hK;go_wp2_with (go_at_call 169;refine Calls.mono HG.out ?_;rintro e w3 ⟨rfl,hc3⟩);go_ret;exact HX.out _ hc3
  ·rw [hsk] at hi';cases hi'
 | none =>
  rw [hsk] at hrr;have HRR:Hid (r=⟨8,W,S⟩):=hrr;clear hrr;go_enter func383,ntmps383
  go_upto_region 2 with(go_at_call 384;refine Calls.mono HP.out ?_;rintro e wc ⟨x1,rfl,HQ⟩)
  rcases HQ with⟨i',hi',_⟩ | ⟨_,⟨es,rfl⟩,hB2⟩
  ·rw [hsk] at hi';cases hi'
  ·have HX:Hid (Went M w s tb mb sb gb rb r (.returned (aY es 8)) wc):=show Went _ _ _ _ _ _ _ _ _ _ _ from by
    rw [HRR.out];exact iG HW.out HR.out HO.out (HB1.out.trans (hB2.mono HB1.out.size)) (by decide)
   clear hB2;unfold aY at HX ⊢;go_wp2_with fail;go_ret;exact HX.out
theorem m7(M:Nat->Prop)(w:World)(s:Sg)(tb mb sb gb rb:Nat)(W:PW)(S:PS)(hW:Wd M w s tb mb sb gb W)(hN:NsOk s)(hwg:WfE W W.globals)(hgl:W.globals.length<=6500000000000000000)(hr:RunAt M w sb rb fv ev0 gv kv ov)(hf:FrR M w s kv S.frames)(ho:OutR M w ov W.out)(nm:Byt)(k:Nat)(hk:s.ns[k]?=some nm)(v:Value)(q:PV)(hv:RV s v q) :Calls prog 385 #[.agg #[.string ⟨nm.toArray⟩,.int .i64 (k:Int)],.pointer (some ⟨rb,0,none⟩),v] w fun e w'=>Went M w s tb mb sb gb rb ⟨0,Pl.bind W nm q,S.give .nothing⟩ e w':=by
 have hB1:Below w.heap.size w (w.alloc (.cells #[.string ⟨nm.toArray⟩,.int .i64 (k:Int)] 344)).drew:=((Below.refl _ _).alloc (Nat.le_refl _) _).drew;have hrl:=aB hr.blk;have hsb:=(iU hW).2;have e0:w.cell? ⟨rb,0,none⟩=some (.pointer (some ⟨sb,0,none⟩)):=aA hr.blk 0;have e1:w.cell? ⟨sb,0,none⟩=some (.map (some gb)):=aA hW.ses 0;have hb2:=(hB1.block rb hrl).trans hr.blk
 have hput:∃w3 t,(Instr.mapUpdate 145 (.map (some gb)) (.int .i64 (k:Int)) v).run prog (w.alloc (.cells #[.string ⟨nm.toArray⟩,.int .i64 (k:Int)] 344)).drew=.ok () w3/\(Sg.Le s t/\NsPb w s t)/\Wd M w3 t tb mb sb gb (Pl.bind W nm q)/\(Pl.bind W nm q).out=W.out/\Kept M w rb w3:=by
  cases hfg:Pl.find W.globals nm with
  | some i =>
   obtain⟨w3,h1,h2,h3⟩:=Wd.putG (hW.mv (Mv.below hB1)) hN hk hfg hv hgl rb _ hb2;refine⟨w3,s,h1,⟨Sg.Le.refl _,NsPb.refl _ _⟩,?_,?_,h3.after hB1 hrl⟩
   ·unfold Pl.bind;rw [hfg];exact h2
   ·unfold Pl.bind;rw [hfg]
  | none =>
   obtain⟨w3,h1,h2,h3⟩:=Wd.newG (hW.mv (Mv.below hB1)) hN hk hfg hv hwg hgl rb _ hb2;refine⟨w3,s.addGlob,h1,⟨s.addGlob_le,NsPb.same rfl rfl⟩,?_,?_,h3.after hB1 hrl⟩
   ·unfold Pl.bind;rw [hfg];exact h2
   ·unfold Pl.bind;rw [hfg]
 obtain⟨w3,t,hrun,hle,hW3,hout,hK⟩:=hput;have HX:Hid (∀w4,RunCh w3 rb #[.pointer (some ⟨sb,0,none⟩),.nilIface,.pointer none,.iface 299 (.agg #[]),kv,ov] w4->Went M w s tb mb sb gb rb ⟨0,Pl.bind W nm q,S.give .nothing⟩ (.returned .nilIface) w4):=fun w4 hc=>iF (W:=W) hr hf ho hK hle.1 hle.2 hW3 hout .nothing rfl hc;have HG:Hid (Calls prog 169 #[.pointer (some ⟨rb,1,none⟩),.iface 299 (.agg #[])] w3 fun e w'=>e=.returned (.tuple #[])/\RunCh w3 rb #[.pointer (some ⟨sb,0,none⟩),.nilIface,.pointer none,.iface 299 (.agg #[]),kv,ov] w'):=jF w3 rb _ _ _ _ _ _ _ (hK.run.trans hr.blk) ⟨_,_,rfl⟩;obtain⟨T,x,rfl⟩:=hv.iface;clear hW hN hwg hgl hr hf ho hk hv hle hW3 hout hK hb2;go_enter func385,ntmps385;go_wp2_with fail
 go_region
 all_goals
  go_wp2_with (go_at_call 169;refine Calls.mono HG.out ?_;rintro e w4 ⟨rfl,hc4⟩)
  go_ret;exact HX.out _ hc4
end
end Go.Proofs.YtkgbdddkcjpgfaaGreatDoor
