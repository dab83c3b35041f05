import Derived.Test.YtkgbdddkcjpgfaaGreatDoorK38
namespace Go.Proofs.YtkgbdddkcjpgfaaGreatDoor
set_option maxHeartbeats 4000000
set_option maxRecDepth 100000
open Go.Proofs.Tryz
open Pl (PV PW PS SR Byt Env)
section
open Go.RowKit Go.Lib Go.Maps
variable {gv kv ov ev fv ev0:Value}
theorem Tryz.fyes_Constant(v:Value)(w:World):(Instr.typeAssert (.iface 223 v) 61 223 true).run prog w=.ok (.tuple #[v,.bool true]) w:=by kernel_rfl
theorem Tryz.fyes_Name(v:Value)(w:World):(Instr.typeAssert (.iface 214 v) 61 214 true).run prog w=.ok (.tuple #[v,.bool true]) w:=by kernel_rfl
theorem Tryz.fno_Name_Constant(v:Value)(w:World):(Instr.typeAssert (.iface 214 v) 61 223 true).run prog w=.ok (.tuple #[.agg #[.nilIface,.bool false],.bool false]) w:=by kernel_rfl
theorem Tryz.fyes_Lambda(v:Value)(w:World):(Instr.typeAssert (.iface 329 v) 61 329 true).run prog w=.ok (.tuple #[v,.bool true]) w:=by kernel_rfl
theorem Tryz.fno_Lambda_Constant(v:Value)(w:World):(Instr.typeAssert (.iface 329 v) 61 223 true).run prog w=.ok (.tuple #[.agg #[.nilIface,.bool false],.bool false]) w:=by kernel_rfl
theorem Tryz.fno_Lambda_Name(v:Value)(w:World):(Instr.typeAssert (.iface 329 v) 61 214 true).run prog w=.ok (.tuple #[.agg #[.string ⟨#[]⟩,.int .i64 0],.bool false]) w:=by kernel_rfl
theorem Tryz.fyes_If(v:Value)(w:World):(Instr.typeAssert (.iface 335 v) 61 335 true).run prog w=.ok (.tuple #[v,.bool true]) w:=by kernel_rfl
theorem Tryz.fno_If_Constant(v:Value)(w:World):(Instr.typeAssert (.iface 335 v) 61 223 true).run prog w=.ok (.tuple #[.agg #[.nilIface,.bool false],.bool false]) w:=by kernel_rfl
theorem Tryz.fno_If_Name(v:Value)(w:World):(Instr.typeAssert (.iface 335 v) 61 214 true).run prog w=.ok (.tuple #[.agg #[.string ⟨#[]⟩,.int .i64 0],.bool false]) w:=by kernel_rfl
theorem Tryz.fno_If_Lambda(v:Value)(w:World):(Instr.typeAssert (.iface 335 v) 61 329 true).run prog w=.ok (.tuple #[.agg #[.slice none 0 0,.nilIface],.bool false]) w:=by kernel_rfl
theorem Tryz.fyes_Set(v:Value)(w:World):(Instr.typeAssert (.iface 340 v) 61 340 true).run prog w=.ok (.tuple #[v,.bool true]) w:=by kernel_rfl
theorem Tryz.fno_Set_Constant(v:Value)(w:World):(Instr.typeAssert (.iface 340 v) 61 223 true).run prog w=.ok (.tuple #[.agg #[.nilIface,.bool false],.bool false]) w:=by kernel_rfl
theorem Tryz.fno_Set_Name(v:Value)(w:World):(Instr.typeAssert (.iface 340 v) 61 214 true).run prog w=.ok (.tuple #[.agg #[.string ⟨#[]⟩,.int .i64 0],.bool false]) w:=by kernel_rfl
theorem Tryz.fno_Set_Lambda(v:Value)(w:World):(Instr.typeAssert (.iface 340 v) 61 329 true).run prog w=.ok (.tuple #[.agg #[.slice none 0 0,.nilIface],.bool false]) w:=by kernel_rfl
theorem Tryz.fno_Set_If(v:Value)(w:World):(Instr.typeAssert (.iface 340 v) 61 335 true).run prog w=.ok (.tuple #[.agg #[.nilIface,.nilIface,.nilIface],.bool false]) w:=by kernel_rfl
theorem Tryz.fyes_Define(v:Value)(w:World):(Instr.typeAssert (.iface 218 v) 61 218 true).run prog w=.ok (.tuple #[v,.bool true]) w:=by kernel_rfl
theorem Tryz.fno_Define_Constant(v:Value)(w:World):(Instr.typeAssert (.iface 218 v) 61 223 true).run prog w=.ok (.tuple #[.agg #[.nilIface,.bool false],.bool false]) w:=by kernel_rfl
theorem Tryz.fno_Define_Name(v:Value)(w:World):(Instr.typeAssert (.iface 218 v) 61 214 true).run prog w=.ok (.tuple #[.agg #[.string ⟨#[]⟩,.int .i64 0],.bool false]) w:=by kernel_rfl
theorem Tryz.fno_Define_Lambda(v:Value)(w:World):(Instr.typeAssert (.iface 218 v) 61 329 true).run prog w=.ok (.tuple #[.agg #[.slice none 0 0,.nilIface],.bool false]) w:=by kernel_rfl
theorem Tryz.fno_Define_If(v:Value)(w:World):(Instr.typeAssert (.iface 218 v) 61 335 true).run prog w=.ok (.tuple #[.agg #[.nilIface,.nilIface,.nilIface],.bool false]) w:=by kernel_rfl
theorem Tryz.fno_Define_Set(v:Value)(w:World):(Instr.typeAssert (.iface 218 v) 61 340 true).run prog w=.ok (.tuple #[.agg #[.string ⟨#[]⟩,.int .i64 0,.nilIface],.bool false]) w:=by kernel_rfl
theorem Tryz.fyes_Begin(v:Value)(w:World):(Instr.typeAssert (.iface 347 v) 61 347 true).run prog w=.ok (.tuple #[v,.bool true]) w:=by kernel_rfl
theorem Tryz.fno_Begin_Constant(v:Value)(w:World):(Instr.typeAssert (.iface 347 v) 61 223 true).run prog w=.ok (.tuple #[.agg #[.nilIface,.bool false],.bool false]) w:=by kernel_rfl
theorem Tryz.fno_Begin_Name(v:Value)(w:World):(Instr.typeAssert (.iface 347 v) 61 214 true).run prog w=.ok (.tuple #[.agg #[.string ⟨#[]⟩,.int .i64 0],.bool false]) w:=by kernel_rfl
theorem Tryz.fno_Begin_Lambda(v:Value)(w:World):(Instr.typeAssert (.iface 347 v) 61 329 true).run prog w=.ok (.tuple #[.agg #[.slice none 0 0,.nilIface],.bool false]) w:=by kernel_rfl
theorem Tryz.fno_Begin_If(v:Value)(w:World):(Instr.typeAssert (.iface 347 v) 61 335 true).run prog w=.ok (.tuple #[.agg #[.nilIface,.nilIface,.nilIface],.bool false]) w:=by kernel_rfl
theorem Tryz.fno_Begin_Set(v:Value)(w:World):(Instr.typeAssert (.iface 347 v) 61 340 true).run prog w=.ok (.tuple #[.agg #[.string ⟨#[]⟩,.int .i64 0,.nilIface],.bool false]) w:=by kernel_rfl
theorem Tryz.fno_Begin_Define(v:Value)(w:World):(Instr.typeAssert (.iface 347 v) 61 218 true).run prog w=.ok (.tuple #[.agg #[.string ⟨#[]⟩,.int .i64 0,.nilIface],.bool false]) w:=by kernel_rfl
theorem Tryz.fyes_Call(v:Value)(w:World):(Instr.typeAssert (.iface 349 v) 61 349 true).run prog w=.ok (.tuple #[v,.bool true]) w:=by kernel_rfl
theorem Tryz.fno_Call_Constant(v:Value)(w:World):(Instr.typeAssert (.iface 349 v) 61 223 true).run prog w=.ok (.tuple #[.agg #[.nilIface,.bool false],.bool false]) w:=by kernel_rfl
theorem Tryz.fno_Call_Name(v:Value)(w:World):(Instr.typeAssert (.iface 349 v) 61 214 true).run prog w=.ok (.tuple #[.agg #[.string ⟨#[]⟩,.int .i64 0],.bool false]) w:=by kernel_rfl
theorem Tryz.fno_Call_Lambda(v:Value)(w:World):(Instr.typeAssert (.iface 349 v) 61 329 true).run prog w=.ok (.tuple #[.agg #[.slice none 0 0,.nilIface],.bool false]) w:=by kernel_rfl
theorem Tryz.fno_Call_If(v:Value)(w:World):(Instr.typeAssert (.iface 349 v) 61 335 true).run prog w=.ok (.tuple #[.agg #[.nilIface,.nilIface,.nilIface],.bool false]) w:=by kernel_rfl
theorem Tryz.fno_Call_Set(v:Value)(w:World):(Instr.typeAssert (.iface 349 v) 61 340 true).run prog w=.ok (.tuple #[.agg #[.string ⟨#[]⟩,.int .i64 0,.nilIface],.bool false]) w:=by kernel_rfl
theorem Tryz.fno_Call_Define(v:Value)(w:World):(Instr.typeAssert (.iface 349 v) 61 218 true).run prog w=.ok (.tuple #[.agg #[.string ⟨#[]⟩,.int .i64 0,.nilIface],.bool false]) w:=by kernel_rfl
theorem Tryz.fno_Call_Begin(v:Value)(w:World):(Instr.typeAssert (.iface 349 v) 61 347 true).run prog w=.ok (.tuple #[.agg #[.slice none 0 0],.bool false]) w:=by kernel_rfl
theorem uM(M:Nat->Prop)(w:World)(s:Sg)(tb mb sb gb rb:Nat)(W:PW)(S:PS)(hW:Wd M w s tb mb sb gb W){v:Value}{b:Bool}{q:PV}(hr:RunAt M w sb rb (.iface 223 (.agg #[v,.bool b])) ev gv kv ov)(he:∃o,ev=.pointer o)(hf:FrR M w s kv S.frames)(ho:OutR M w ov W.out)(hv:RV s v q) :Calls prog 128 #[.pointer (some ⟨rb,0,none⟩)] w fun e w'=>Went M w s tb mb sb gb rb ⟨0,W,S.give q⟩ e w':=by
 generalize hfv:Value.iface 223 (.agg #[v,.bool b])=fv0 at hr;have hrl:=aB hr.blk;have e1:w.cell? ⟨rb,1,none⟩=some fv0:=aA hr.blk 1;have e2:w.cell? ⟨rb,2,none⟩=some ev:=aA hr.blk 2;have HB:Hid (∀ob,Below w.heap.size w (w.alloc ob)):=fun ob=>(Below.refl _ _).alloc (Nat.le_refl _) _;have HK:Hid (∀ob,(w.alloc ob).drew.heap[rb]?=w.heap[rb]?):=fun ob=>(HB.out ob).block rb hrl;subst hfv;have fy:=Tryz.fyes_Constant;have HX:Hid (∀ob w2,RunCh (w.alloc ob) rb #[.pointer (some ⟨sb,0,none⟩),.nilIface,.pointer none,v,kv,ov] w2->Went M w s tb mb sb gb rb ⟨0,W,S.give q⟩ (.returned .nilIface) w2):=fun ob w2 hc=>eH hW hr.blk hr.mrb (hc.after (HB.out ob)) (fun _=>eX hv) (fun hs=>hf.go hs (Sg.Le.refl _)) ho;have HG:Hid (∀w1:World,w1.heap[rb]?=w.heap[rb]? -> Calls prog 169 #[.pointer (some ⟨rb,1,none⟩),v] w1 fun e w'=>e=.returned (.tuple #[])/\RunCh w1 rb #[.pointer (some ⟨sb,0,none⟩),.nilIface,.pointer none,v,kv,ov] w'):=fun w1 h1=>jF w1 rb _ _ _ _ _ _ v (h1.trans hr.blk) hv.iface;obtain⟨oe,rfl⟩:=he;obtain⟨T,x,rfl⟩:=hv.iface;clear hW hr hf ho hv;go_enter func128,ntmps128;go_wp2_with fail;go_region_with (go_at_call 169;refine(HG.out _ (HK.out _)).mono ?_;rintro e w3 ⟨rfl,hc3⟩)
 all_goals
  go_wp2_with fail
  go_ret;exact HX.out _ _ (hc3.after ((Below.refl _ _).drew))
theorem yC(M:Nat->Prop)(w:World)(s:Sg)(tb mb sb gb rb:Nat)(W:PW)(S:PS)(hW:Wd M w s tb mb sb gb W)(hN:NsOk s)(nm:Byt)(k:Nat)(hr:RunAt M w sb rb (.iface 214 (.agg #[.string ⟨nm.toArray⟩,.int .i64 (k:Int)])) ev gv kv ov)(he:EnvR M w s ev S.env)(hf:FrR M w s kv S.frames)(ho:OutR M w ov W.out)(hk:s.ns[k]?=some nm)(hl:nm.length<=1000) :Calls prog 128 #[.pointer (some ⟨rb,0,none⟩)] w fun e w'=>Went M w s tb mb sb gb rb (gD W S nm) e w':=by
 generalize hfv:Value.iface 214 (.agg #[.string ⟨nm.toArray⟩,.int .i64 (k:Int)])=fv0 at hr;have hrl:=aB hr.blk;have e1:w.cell? ⟨rb,1,none⟩=some fv0:=aA hr.blk 1;have e2:w.cell? ⟨rb,2,none⟩=some ev:=aA hr.blk 2;have HB:Hid (∀ob,Below w.heap.size w (w.alloc ob)):=fun ob=>(Below.refl _ _).alloc (Nat.le_refl _) _;have HK:Hid (∀ob,(w.alloc ob).drew.heap[rb]?=w.heap[rb]?):=fun ob=>(HB.out ob).block rb hrl;subst hfv;have fy:=Tryz.fyes_Name;have fn0:=Tryz.fno_Name_Constant
 have HC:Hid (∀ob,Calls prog 170 #[.pointer (some ⟨rb,0,none⟩),.agg #[.string ⟨nm.toArray⟩,.int .i64 (k:Int)]] (w.alloc ob) fun e w'=>∃x,e=.returned x/\Hid (Went M w s tb mb sb gb rb (gD W S nm) (.returned x) w')):=fun ob =>
  (yS M _ s tb mb sb gb rb W S (hW.mv (Mv.below (HB.out ob))) hN ⟨((HB.out ob).block rb hrl).trans hr.blk,hr.mrb⟩ (he.go (Stp.of_below (HB.out ob)) (Sg.Le.refl _)) (hf.go (Stp.of_below (HB.out ob)) (Sg.Le.refl _)) (ho.below (HB.out ob)) nm k hk hl).mono (fun e w' h=>by
   obtain⟨x,rfl⟩:=h.one
   exact⟨x,rfl,h.after (Stp.of_below (HB.out ob))⟩)
 obtain⟨oe,rfl⟩:=he.ptr;clear hW hr hf ho he hN hk;go_enter func128,ntmps128;go_wp2_with (go_at_call 170;refine(HC.out _).mono ?_;rintro e w3 ⟨x,rfl,HQ⟩);go_ret;exact HQ.out
theorem Kept.after{M:Nat->Prop}{w w1 w':World}{rb:Nat}(h:Kept M w1 rb w')(hB:Below w.heap.size w w1)(hl:rb<w.heap.size):Kept M w rb w' :=⟨(Stp.of_below hB).trans h.stp,h.run.trans (hB.block rb hl),fun g cur fz hg=>(h.outs g cur fz ((hB.block g (aB hg)).trans hg)).trans (hB.block g (aB hg))⟩
theorem iF{M:Nat->Prop}{w w1 w2:World}{s t:Sg}{tb mb sb gb rb:Nat}{W W':PW}{S S':PS}{v:Value}{q:PV}(hr:RunAt M w sb rb fv ev gv kv ov)(hf:FrR M w s kv S.frames)(ho:OutR M w ov W.out)(hk:Kept M w rb w1)(l:Sg.Le s t)(ln:t.ns=s.ns)(hW:Wd M w1 t tb mb sb gb W')(eo:W'.out=W.out)(hv:RV t v q)(hS:S'=S.give q)(hc:RunCh w1 rb #[.pointer (some ⟨sb,0,none⟩),.nilIface,.pointer none,v,kv,ov] w2):Went M w s tb mb sb gb rb ⟨0,W',S'⟩ (.returned .nilIface) w2:=by
 subst hS;refine(eH hW (hk.run.trans hr.blk) hr.mrb hc (fun _=>eX hv) (fun hs=>?_) ?_).after2 hk.stp l ln
 ·exact(hf.go hk.stp l).go hs (Sg.Le.refl _)
 ·rw [eo];exact ho.keep (fun g cur fz hm hg=>⟨hk.outs g cur fz hg,hm⟩)
def SetQ(M:Nat->Prop)(w:World)(s:Sg)(tb mb sb gb rb:Nat)(W:PW)(env:Env)(nm:Byt)(q:PV)(v:Value)(w':World):Prop :=(∃i,Pl.seek W env nm=some i/\v=.nilIface/\Wd M w' s tb mb sb gb {W with places:=W.places.set i q}/\Kept M w rb w')\/(Pl.seek W env nm=none/\(∃es,v=aY es 8)/\Below w.heap.size w w')
theorem p_setR(M:Nat->Prop)(w:World)(s:Sg)(tb mb sb gb rb:Nat)(W:PW)(env:Env)(hW:Wd M w s tb mb sb gb W)(hN:NsOk s)(hgl:W.globals.length<=6500000000000000000)(hr:RunAt M w sb rb fv ev0 gv kv ov)(he:EnvR M w s ev env)(nm:Byt)(k:Nat)(hk:s.ns[k]?=some nm)(hl:nm.length<=1000)(v:Value)(q:PV)(hv:RV s v q) :Calls prog 384 #[.pointer (some ⟨rb,0,none⟩),.agg #[.string ⟨nm.toArray⟩,.int .i64 (k:Int)],ev,v] w fun e w'=>∃x,e=.returned x/\SetQ M w s tb mb sb gb rb W env nm q x w':=by
 have hB1:Below w.heap.size w (w.alloc (.cells #[.string ⟨nm.toArray⟩,.int .i64 (k:Int)] TNam)):=(Below.refl _ _).alloc (Nat.le_refl _) _;have hrl:=aB hr.blk
 have HP:Hid (Calls prog 194 #[ev,.agg #[.string ⟨nm.toArray⟩,.int .i64 (k:Int)]] (w.alloc (.cells #[.string ⟨nm.toArray⟩,.int .i64 (k:Int)] TNam)) fun e w2=>∃v,e=.returned (.pointer v)/\Hid (Below w.heap.size w w2/\w2.heap[w.heap.size]?=some (.cells #[.string ⟨nm.toArray⟩,.int .i64 (k:Int)] TNam (0,0))/\PlcQ s env nm (.returned (.pointer v)))) :=
  show Calls _ _ _ _ _ from(uW M _ s ev env nm k hW.nodup (he.go (Stp.of_below hB1) (Sg.Le.refl _)) hk).mono (fun e w2 h=>by
   have hbx:w2.heap[w.heap.size]?=some (.cells #[.string ⟨nm.toArray⟩,.int .i64 (k:Int)] TNam (0,0)):=(h.1.block w.heap.size (by simp)).trans (heap_alloc_new w _);rcases h.2 with⟨h1,rfl⟩ | ⟨i,g,o,h1,h2,rfl⟩
   ·exact⟨_,rfl,hB1.trans (h.1.mono (by simp)),hbx,.inl ⟨h1,rfl⟩⟩
   ·exact⟨_,rfl,hB1.trans (h.1.mono (by simp)),hbx,.inr ⟨i,g,o,h1,h2,rfl⟩⟩)
 have HW:Hid (Wd M w s tb mb sb gb W):=hW;have HR:Hid (RunAt M w sb rb fv ev0 gv kv ov):=hr;have HK:Hid (s.ns[k]?=some nm/\NsOk s/\W.globals.length<=6500000000000000000):=⟨hk,hN,hgl⟩
 have HV:Hid (RV s v q):=hv;obtain⟨oe,rfl⟩:=he.ptr;obtain⟨T,x,rfl⟩:=hv.iface;clear hW hN hr he hk hB1 hgl hv;go_enter func384,ntmps384
 go_upto_region 2 with(go_at_call 194;refine Calls.mono HP.out ?_;rintro e wc ⟨v,rfl,HQ⟩)
 obtain⟨hB2,hbx,hPl⟩:=HQ.out;have hb2:=(hB2.block rb hrl).trans HR.out.blk;have HB2:Hid (Below w.heap.size w wc):=hB2;have hW2:=HW.out.mv (Mv.below hB2);rcases hPl with⟨hno,hv⟩ | ⟨i,g,o,hi,hlp,hv⟩
 ·simp only [Ending.returned.injEq,Value.pointer.injEq] at hv;subst hv;have hsb:=(iU HW.out).2;have hgb:=(iU HW.out).1;have d0:wc.cell? ⟨rb,0,none⟩=some (.pointer (some ⟨sb,0,none⟩)):=aA hb2 0;have d1:wc.cell? ⟨sb,0,none⟩=some (.map (some gb)):=aA ((hB2.block sb hsb).trans HW.out.ses) 0;have d2:wc.cell? ⟨w.heap.size,0,none⟩=some (.string ⟨nm.toArray⟩):=aA hbx 0;have d3:wc.cell? ⟨w.heap.size,1,none⟩=some (.int .i64 (k:Int)):=aA hbx 1
  cases hfg:Pl.find W.globals nm with
  | some i =>
   obtain⟨v,p,hp,hv,hlk⟩:=rE HW.out.glob HK.out.2.1 HK.out.1 hfg;have l2:=hlk wc.drew (hB2.block gb hgb);have hsk:Pl.seek W env nm=some i:=by unfold Pl.seek;rw [hno];exact hfg
   obtain⟨w3,hrun3,hW3,hK3⟩:=Wd.putG (w:=wc.drew.drew) (HW.out.mv (Mv.below HB2.out.drew.drew)) HK.out.2.1 HK.out.1 hfg HV.out HK.out.2.2 rb _ hb2;have HX:Hid (SetQ M w s tb mb sb gb rb W env nm q .nilIface w3):=.inl ⟨i,hsk,rfl,hW3,hK3.after HB2.out.drew.drew hrl⟩;obtain⟨T',x',rfl⟩:=hv.iface;clear hlk hv hp hfg hno hB2 hbx hb2 HQ hW2 hsk hW3 hK3;go_wp2_with fail
   go_region
   all_goals
    go_wp2_with fail
    go_region
    all_goals
     go_wp2_with fail
     go_ret;exact⟨_,rfl,HX.out⟩
  | none =>
   have l2:=pS HW.out.glob HK.out.2.1 HK.out.1 hfg wc.drew (hB2.block gb hgb);have HX:Hid (∀es,SetQ M w s tb mb sb gb rb W env nm q (aY es 8) wc.drew):=fun es=>.inr ⟨by unfold Pl.seek;rw [hno];exact hfg,⟨es,rfl⟩,HB2.out.drew⟩;clear hfg hno hB2 hbx hb2 HQ hW2;go_wp2_with fail
   go_region
   all_goals
    go_wp2_with (go_at_call 78;refine(bJ _ _ _).mono ?_;rintro e w3 ⟨rfl,rfl⟩)
    go_ret;exact⟨_,rfl,HX.out _⟩
 ·simp only [Ending.returned.injEq,Value.pointer.injEq] at hv;subst hv;have hsk:Pl.seek W env nm=some i:=by unfold Pl.seek;rw [hi]
  obtain⟨hW3,hK3,hfz,u,hcu⟩:=hW2.setPlace hlp HV.out rb _ hb2;have HX:Hid (SetQ M w s tb mb sb gb rb W env nm q .nilIface (wc.setCell ⟨g,o,none⟩ (.iface T x))):=.inl ⟨i,hsk,rfl,hW3,hK3.after HB2.out hrl⟩;clear hi hlp hB2 hbx hb2 HQ hW2 hsk hW3 hK3;go_wp2_with fail;go_ret;exact⟨_,rfl,HX.out⟩
theorem uO(M:Nat->Prop)(w:World)(s:Sg)(tb mb sb gb rb:Nat)(W:PW)(S:PS)(env:Env)(hW:Wd M w s tb mb sb gb W)(hN:NsOk s)(hgl:W.globals.length<=6500000000000000000)(hr:RunAt M w sb rb fv ev0 gv kv ov)(hf:FrR M w s kv S.frames)(ho:OutR M w ov W.out)(he:EnvR M w s ev env)(nm:Byt)(k:Nat)(hk:s.ns[k]?=some nm)(hl:nm.length<=1000)(v:Value)(q:PV)(hv:RV s v q)(r:SR)
  (hrr:r=match Pl.seek W env nm with | some i=>⟨0,{W with places:=W.places.set i q},S.give .nothing⟩ | none=>⟨8,W,S⟩) :
  Calls prog 383 #[.agg #[.string ⟨nm.toArray⟩,.int .i64 (k:Int),ev],.pointer (some ⟨rb,0,none⟩),v] w fun e w'=>Went M w s tb mb sb gb rb r e w':=by
 have hB1:Below w.heap.size w (w.alloc (.cells #[.string ⟨nm.toArray⟩,.int .i64 (k:Int),ev] 342)):=(Below.refl _ _).alloc (Nat.le_refl _) _;have hrl:=aB hr.blk;have hs1:Stp M w M (w.alloc (.cells #[.string ⟨nm.toArray⟩,.int .i64 (k:Int),ev] 342)):=Stp.of_below hB1;have HP:Hid (Calls prog 384 #[.pointer (some ⟨rb,0,none⟩),.agg #[.string ⟨nm.toArray⟩,.int .i64 (k:Int)],ev,v] (w.alloc (.cells #[.string ⟨nm.toArray⟩,.int .i64 (k:Int),ev] 342)) fun e w'=>∃x,e=.returned x/\SetQ M (w.alloc (.cells #[.string ⟨nm.toArray⟩,.int .i64 (k:Int),ev] 342)) s tb mb sb gb rb W env nm q x w') :=p_setR M _ s tb mb sb gb rb W env (hW.mv (Mv.below hB1)) hN hgl ⟨(hB1.block rb hrl).trans hr.blk,hr.mrb⟩ (he.go hs1 (Sg.Le.refl _)) nm k hk hl v q hv;have HB1:Hid (Below w.heap.size w (w.alloc (.cells #[.string ⟨nm.toArray⟩,.int .i64 (k:Int),ev] 342))):=hB1;have HW:Hid (Wd M w s tb mb sb gb W):=hW;have HR:Hid (RunAt M w sb rb fv ev0 gv kv ov):=hr;have HF:Hid (FrR M w s kv S.frames):=hf;have HO:Hid (OutR M w ov W.out):=ho;obtain⟨oe,rfl⟩:=he.ptr;obtain⟨T,x,rfl⟩:=hv.iface;clear hW hN hr he hf ho hk hB1 hs1 hgl hv
 cases hsk:Pl.seek W env nm with
 | some i =>
  rw [hsk] at hrr;have HRR:Hid (r=⟨0,{W with places:=W.places.set i q},S.give .nothing⟩):=hrr;clear hrr;go_enter func383,ntmps383
  go_upto_region 2 with(go_at_call 384;refine Calls.mono HP.out ?_;rintro e wc ⟨x1,rfl,HQ⟩)
  rcases HQ with⟨i',hi',rfl,hW2,hK2⟩ | ⟨hi',_⟩
  ·obtain rfl:i'=i:=Option.some.inj (hi'.symm.trans hsk);have hK:=hK2.after HB1.out hrl;have HX:Hid (∀w3,RunCh wc rb #[.pointer (some ⟨sb,0,none⟩),.nilIface,.pointer none,.iface 299 (.agg #[]),kv,ov] w3->Went M w s tb mb sb gb rb r (.returned .nilIface) w3):=fun w3 hc=>by rw [HRR.out];exact iF (W:=W) HR.out HF.out HO.out hK (Sg.Le.refl _) rfl hW2 rfl .nothing rfl hc
   have HG:Hid (Calls prog 169 #[.pointer (some ⟨rb,1,none⟩),.iface 299 (.agg #[])] wc fun e w'=>e=.returned (.tuple #[])/\RunCh wc rb #[.pointer (some ⟨sb,0,none⟩),.nilIface,.pointer none,.iface 299 (.agg #[]),kv,ov] w'):=jF wc rb _ _ _ _ _ _ _ (hK.run.trans HR.out.blk) ⟨_,_,rfl⟩;clear hW2 hK2 hK;go_wp2_with (go_at_call 169;refine Calls.mono HG.out ?_;rintro e w3 ⟨rfl,hc3⟩);go_ret;exact HX.out _ hc3
  ·rw [hsk] at hi';cases hi'
 | none =>
  rw [hsk] at hrr;have HRR:Hid (r=⟨8,W,S⟩):=hrr;clear hrr;go_enter func383,ntmps383
  go_upto_region 2 with(go_at_call 384;refine Calls.mono HP.out ?_;rintro e wc ⟨x1,rfl,HQ⟩)
  rcases HQ with⟨i',hi',_⟩ | ⟨_,⟨es,rfl⟩,hB2⟩
  ·rw [hsk] at hi';cases hi'
  ·have HX:Hid (Went M w s tb mb sb gb rb r (.returned (aY es 8)) wc):=show Went _ _ _ _ _ _ _ _ _ _ _ from by
    rw [HRR.out];exact iG HW.out HR.out HO.out (HB1.out.trans (hB2.mono HB1.out.size)) (by decide)
   clear hB2;unfold aY at HX ⊢;go_wp2_with fail;go_ret;exact HX.out
theorem m7(M:Nat->Prop)(w:World)(s:Sg)(tb mb sb gb rb:Nat)(W:PW)(S:PS)(hW:Wd M w s tb mb sb gb W)(hN:NsOk s)(hwg:WfE W W.globals)(hgl:W.globals.length<=6500000000000000000)(hr:RunAt M w sb rb fv ev0 gv kv ov)(hf:FrR M w s kv S.frames)(ho:OutR M w ov W.out)(nm:Byt)(k:Nat)(hk:s.ns[k]?=some nm)(v:Value)(q:PV)(hv:RV s v q) :Calls prog 385 #[.agg #[.string ⟨nm.toArray⟩,.int .i64 (k:Int)],.pointer (some ⟨rb,0,none⟩),v] w fun e w'=>Went M w s tb mb sb gb rb ⟨0,Pl.bind W nm q,S.give .nothing⟩ e w':=by
 have hB1:Below w.heap.size w (w.alloc (.cells #[.string ⟨nm.toArray⟩,.int .i64 (k:Int)] 344)).drew:=((Below.refl _ _).alloc (Nat.le_refl _) _).drew;have hrl:=aB hr.blk;have hsb:=(iU hW).2;have e0:w.cell? ⟨rb,0,none⟩=some (.pointer (some ⟨sb,0,none⟩)):=aA hr.blk 0;have e1:w.cell? ⟨sb,0,none⟩=some (.map (some gb)):=aA hW.ses 0;have hb2:=(hB1.block rb hrl).trans hr.blk
 have hput:∃w3 t,(Instr.mapUpdate 145 (.map (some gb)) (.int .i64 (k:Int)) v).run prog (w.alloc (.cells #[.string ⟨nm.toArray⟩,.int .i64 (k:Int)] 344)).drew=.ok () w3/\(Sg.Le s t/\t.ns=s.ns)/\Wd M w3 t tb mb sb gb (Pl.bind W nm q)/\(Pl.bind W nm q).out=W.out/\Kept M w rb w3:=by
  cases hfg:Pl.find W.globals nm with
  | some i =>
   obtain⟨w3,h1,h2,h3⟩:=Wd.putG (hW.mv (Mv.below hB1)) hN hk hfg hv hgl rb _ hb2;refine⟨w3,s,h1,⟨Sg.Le.refl _,rfl⟩,?_,?_,h3.after hB1 hrl⟩
   ·unfold Pl.bind;rw [hfg];exact h2
   ·unfold Pl.bind;rw [hfg]
  | none =>
   obtain⟨w3,h1,h2,h3⟩:=Wd.newG (hW.mv (Mv.below hB1)) hN hk hfg hv hwg hgl rb _ hb2;refine⟨w3,s.addGlob,h1,⟨s.addGlob_le,rfl⟩,?_,?_,h3.after hB1 hrl⟩
   ·unfold Pl.bind;rw [hfg];exact h2
   ·unfold Pl.bind;rw [hfg]
 obtain⟨w3,t,hrun,hle,hW3,hout,hK⟩:=hput;have HX:Hid (∀w4,RunCh w3 rb #[.pointer (some ⟨sb,0,none⟩),.nilIface,.pointer none,.iface 299 (.agg #[]),kv,ov] w4->Went M w s tb mb sb gb rb ⟨0,Pl.bind W nm q,S.give .nothing⟩ (.returned .nilIface) w4):=fun w4 hc=>iF (W:=W) hr hf ho hK hle.1 hle.2 hW3 hout .nothing rfl hc;have HG:Hid (Calls prog 169 #[.pointer (some ⟨rb,1,none⟩),.iface 299 (.agg #[])] w3 fun e w'=>e=.returned (.tuple #[])/\RunCh w3 rb #[.pointer (some ⟨sb,0,none⟩),.nilIface,.pointer none,.iface 299 (.agg #[]),kv,ov] w'):=jF w3 rb _ _ _ _ _ _ _ (hK.run.trans hr.blk) ⟨_,_,rfl⟩;obtain⟨T,x,rfl⟩:=hv.iface;clear hW hN hwg hgl hr hf ho hk hv hle hW3 hout hK hb2;go_enter func385,ntmps385;go_wp2_with fail
 go_region
 all_goals
  go_wp2_with (go_at_call 169;refine Calls.mono HG.out ?_;rintro e w4 ⟨rfl,hc4⟩)
  go_ret;exact HX.out _ hc4
end
end Go.Proofs.YtkgbdddkcjpgfaaGreatDoor
