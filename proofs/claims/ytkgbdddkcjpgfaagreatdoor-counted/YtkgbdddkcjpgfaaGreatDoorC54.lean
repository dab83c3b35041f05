/- For every script and text stepperkeep.Counted returns true (the trace of an input has one state more than the input takes steps: with just so much fuel it ends, with the value of its last state, with one less it does not) and what was handed in reads as it did: the tied card. Conditions: the package-level variables start as the program's text lays them (tied by the given tie); the card's own looks. -/
import Derived.LaidLaws
import Derived.Leaving
import Derived.Conc.HoldsTime
import Derived.Test.YtkgbdddkcjpgfaaGreatDoorC42
import Derived.Test.YtkgbdddkcjpgfaaGreatDoorRows
import Derived.ProofKit
import Derived.ChangeMaps5
import Derived.LaidMore
import Derived.LaidHandle
import Derived.OpenShut
import Derived.Stop.Joined
import Derived.Stop.LaidErr
import Derived.SizedLaws
import Derived.Test.YtkgbdddkcjpgfaaGreatDoorC51
import Derived.Test.YtkgbdddkcjpgfaaGreatDoorC53
import Derived.Test.YtkgbdddkcjpgfaaGreatDoorC43
import Derived.Test.YtkgbdddkcjpgfaaGreatDoorTie
import Derived.Test.YtkgbdddkcjpgfaaGreatDoorCards
import Derived.SevenTiedAt
namespace Go.Proofs.YtkgbdddkcjpgfaaGreatDoor
set_option maxRecDepth 100000
open Go.Proofs.Tryz
section
open Go
theorem gV{a:Assume}{C:Checked}{os:Os}{f:FuncId}{r:Reach}{Pre:World->Array Value->Prop}{Post:World->Array Value->Value->World->Prop}(h:ReturnsInHanded a C os f r Pre Post):ReturnsInLeavingWide a C os f r Pre Post :=fun e=>ReturnsInOpen.mono (fun _ _ _ x=>⟨x.2.1,onlyLeaving_of_quiet x.1,x.2.2⟩) (fun _ x=>x) (h e)
section
variable {H:Type} {enc:TypeId×Value->H}
theorem mI{C:Checked}{os:Os}{f:FuncId}{fn:Func}{s:ChangeSpec}{conds:List PathCond}{apart:Bool}{X:World->Array Value->Prop}(w0:World)(args:Array Value)(fuel:Nat)(hos:w0.os=os)
  (hsh:(w0.forCall (fun _ _=>0) ⟨#[],args,[]⟩).Shaped C.prog)
  (hok:Input.okWideB C.prog (w0.forCall (fun _ _=>0) ⟨#[],args,[]⟩) f ⟨#[],args,[]⟩=true)
  (hpre:s.preB enc C.prog fn conds apart (w0.forCall (fun _ _=>0) ⟨#[],args,[]⟩).memory args fuel=true)
  (hsz:s.sizedB enc C.prog fn apart (w0.forCall (fun _ _=>0) ⟨#[],args,[]⟩).memory args fuel=true)
  (hx:X (w0.forCall (fun _ _=>0) ⟨#[],args,[]⟩).memory args) :
  ∃(w:World)(tape:Tape)(i:Input),w.os=os/\(w.forCall tape i).Shaped C.prog/\i.vars=[]/\Input.okWide C.prog (w.forCall tape i) .any w.heap.size f i /\
   ((s.pre enc C.prog fn conds apart (w.forCall tape i).memory i.args/\X (w.forCall tape i).memory i.args)/\sizedMet enc C.prog fn (OpenSpec.ofChange s) apart (w.forCall tape i).memory i.args)/\({calm:=true}:Assume).holds C.prog (lone (Frame.enter C.prog f i.args .normal) [] (w.forCall tape i)) :=
 ⟨w0,fun _ _=>0,⟨#[],args,[]⟩,hos,hsh,(Input.okWide_of_okWideB (base:=0) hok).1,(Input.okWide_of_okWideB hok).2,⟨⟨ChangeSpec.pre_of_preB hpre,hx⟩,sizedMet_of_sizedB hsz⟩,by
  simp only [Assume.holds]
  exact⟨by simp,fun _ _ _ _=>rfl,by simp,by simp,by simp⟩⟩
end
section
variable {H:Type} {enc:TypeId×Value->H}
theorem dV{a:Assume}{C:Checked}{os:Os}{f:FuncId}{fn:Func}{s:ChangeSpec}{F:Stop.Interp}{conds:List PathCond}{apart fresh handsOn:Bool}{X:World->Array Value->Prop}
  (hX:∀(w w':World)(args:Array Value),w.heap=w'.heap->X w args->X w' args)
  (own:ownKnob C.prog.godebug=none) (started:os.Started) (noInit:C.prog.inits.idxOf? f=none) (hfn:C.prog.funcs[f]?=some fn)
  (witness:∃(w:World)(tape:Tape)(i:Input),w.os=os/\(w.forCall tape i).Shaped C.prog/\i.vars=[]/\Input.okWide C.prog (w.forCall tape i) .any w.heap.size f i /\
   ((s.pre enc C.prog fn conds apart (w.forCall tape i).memory i.args/\X (w.forCall tape i).memory i.args)/\sizedMet enc C.prog fn (OpenSpec.ofChange s) apart (w.forCall tape i).memory i.args)/\a.holds C.prog (lone (Frame.enter C.prog f i.args .normal) [] (w.forCall tape i)))
  (contract:∀(W:World)(base:Nat)(args:Array Value) (ds gs:List (DataW H)) (before:List MemPlace),W.ShapedOpen C.prog ->
   (∀(j:Nat) t v,fn.params[j]?=some t->args[j]?=some v->Value.okWide C.prog W .any base t v) ->
   DataW.Whole enc C.prog fn.params.toList s.vars apart W args.toList ds gs before ->
   conds.all (PathCond.test C.prog ⟨fn.params.toList,ds,s.plain.varTypes C.prog,gs⟩)=true ->
   (DataW.weightsEach C.prog (fn.params.toList++s.plain.varTypes C.prog) (ds++gs)).all (·<=reachBytes)=true->X W args ->
   Calls C.prog f args W fun e W'=>∃v,e=.returned v/\s.post enc C.prog fn apart fresh handsOn false W args v W'/\W'.os=W.os) :
  ReturnsInLeavingWide a C os f .any (fun w args=>(s.pre enc C.prog fn conds apart w args/\X w args)/\sizedMet enc C.prog fn (OpenSpec.ofChange s) apart w args) ((OpenSpec.ofChange s).postWith enc C.prog fn F (outsideKept [.timePasses]) apart fresh handsOn):=by
 refine gV (returnsInHanded_of_calls own started noInit witness ?_);intro w tape i _ hsh _ hok hpre _;obtain⟨_,_,_,fn',hfn',_,_,_,_,hval⟩:=hok;have e:fn'=fn:=Option.some.inj (hfn'.symm.trans hfn);subst e;obtain⟨⟨⟨ds,gs,before,hw,hc⟩,hx⟩,hz⟩:=hpre;have hw':=DataW.Whole.of_heap (w':=w.forCall tape i) (by rfl) hw;refine(contract (w.forCall tape i) w.heap.size i.args ds gs before hsh hval hw' hc (hz.weights hw) (hX _ _ _ (by rfl) hx)).mono fun e W' ⟨v,he,hp,hos⟩=>?_;subst he;refine postWith_blind (postWith_of_post (by rw [<- hos];exact hp) ⟨0,by rw [hos];rfl⟩)
end
theorem Tryz.glob7:(((begin prog (fun _ _=>0) default).world.heap[7]?).bind Obj.row?).isSome=true:=by kernel_rfl
theorem Tryz.globN:7<prog.globals.size:=of_decide_eq_true (by kernel_rfl)
theorem j9{W:World}(h:W.ShapedOpen prog):8<=W.heap.size:=by obtain⟨⟨z,t⟩,hx⟩:=Option.isSome_iff_exists.1 Tryz.glob7;obtain⟨cs,h1,_⟩:=h.1 7 z t Tryz.globN hx;have:=(Array.getElem?_eq_some_iff.1 h1).1;omega
end
section
open Go.ChangeShapes Go.WideShapes Go.ChangeAt Go.RowKit
variable {W:World}
theorem Tryz.own:ownKnob prog.godebug=none:=by kernel_rfl
theorem Tryz.et:prog.globalNamed "errors.errorType"=some 0:=by kernel_rfl
theorem Tryz.rt:(prog.cutTypes.find? (·.1 == "internal/reflectlite.rtype")).map (·.2)=some 301:=by kernel_rfl
theorem Tryz.size:prog.types.size=538:=by kernel_rfl
theorem Tryz.oneRow:((List.range 538).filter fun t=>prog.rowNamed t [101,114,114,111,114])=[63]:=by kernel_rfl
theorem Tryz.gRange:prog.globalNamed "strconv.ErrRange"=some 6:=by kernel_rfl
theorem Tryz.gRangeT:(prog.globals[6]?).map (·.type)=some 63:=by kernel_rfl
theorem Tryz.cellsES:prog.cellsOf 408=1:=by kernel_rfl
theorem Tryz.cellsS:prog.cellsOf 9=1:=by kernel_rfl
theorem nameES : "*" ++ "errors.errorString" = "*errors.errorString":=by decide
theorem Tryz.rowES(u:TypeId)(h:prog.typeName? 3 u=some "*errors.errorString"):u=406 :=typeName_ptr_named (nm := "errors.errorString") (by rw [nameES];kernel_rfl) (by kernel_rfl) (by decide) u (by rw [nameES];exact h)
theorem kK(h:laidMetH prog Rows.slowsRow.laid W):GT W:=by
 have h':laidMet prog _ W/\handlesMet prog [("errors.errorType",Rows.laid_errors_errorType)] W:=h;obtain⟨name,u,ty,e1,e2,e3,e4,e5⟩:=h'.2 _ (List.mem_singleton.2 rfl);have en:name=[101,114,114,111,114]:=(Option.some.inj e1).symm;subst en;obtain rfl:=Option.some.inj (Tryz.rt.symm.trans e2);have hm:ty∈(List.range 538).filter fun t=>prog.rowNamed t [101,114,114,111,114]:=List.mem_filter.2 ⟨List.mem_range.2 (by rw [<- Tryz.size];exact e3),e4⟩;rw [Tryz.oneRow] at hm;obtain rfl:=List.mem_singleton.1 hm;have hh:typeHandle prog 63=.pointer (some ⟨8,63,none⟩):=by kernel_rfl
 rw [hh] at e5;simpa [GT] using World.var?_cell Tryz.et e5 0
theorem lO(h:laidMetH prog Rows.slowsRow.laid W):GE W:=by have h':laidMet prog [("math/bits.deBruijn32tab",Rows.laid_math_bits_deBruijn32tab),("math/bits.deBruijn64tab",Rows.laid_math_bits_deBruijn64tab),("internal/strconv.uint64pow10",Rows.laid_internal_strconv_uint64pow10),("strconv.ErrRange",Rows.laid_strconv_ErrRange),("strconv.ErrSyntax",Rows.laid_strconv_ErrSyntax),("stepper/value.primitives",Rows.laid_stepper_value_primitives)] W/\handlesMet prog [("errors.errorType",Rows.laid_errors_errorType)] W:=h;obtain⟨a0,s0,hv0,_⟩:=laid_sentinel h'.1.tail.tail.tail Tryz.gRange Tryz.gRangeT underlying63 Tryz.rowES underlying406 underlying408 rfl rfl underlying9 Tryz.cellsES Tryz.cellsS;exact⟨_,by simpa using World.var?_cell Tryz.gRange hv0 0,.inr ⟨_,_,rfl⟩⟩
theorem Tryz.gPow:prog.globalNamed "internal/strconv.uint64pow10"=some 2:=by kernel_rfl
theorem jO(h:laidMetH prog Rows.slowsRow.laid W):Lib.TabIs prog W oS .u64 Lib.pow10Tab/\Prm W:=by have h':laidMet prog [("math/bits.deBruijn32tab",Rows.laid_math_bits_deBruijn32tab),("math/bits.deBruijn64tab",Rows.laid_math_bits_deBruijn64tab),("internal/strconv.uint64pow10",Rows.laid_internal_strconv_uint64pow10),("strconv.ErrRange",Rows.laid_strconv_ErrRange),("strconv.ErrSyntax",Rows.laid_strconv_ErrSyntax),("stepper/value.primitives",Rows.laid_stepper_value_primitives)] W/\handlesMet prog [("errors.errorType",Rows.laid_errors_errorType)] W:=h;exact⟨Lib.tabIs_of_head (n:=20) (t:=358) (e:=101) Tryz.gPow (by kernel_rfl) (by kernel_rfl) (by kernel_rfl) (by kernel_rfl) (by kernel_rfl) h'.1.tail.tail,oQ h'.1.tail.tail.tail.tail.tail⟩
theorem aAK(os:Os)(args:Array Value):laidMetH prog Rows.slowsRow.laid ((World.doorLaid prog 86 os).forCall (fun _ _=>0) ⟨#[],args,[]⟩).memory :=laidMetH_of_parts3 (fuel:=8) (laidMet_of_run' 8 (by kernel_rfl) (by kernel_rfl)) (by kernel_rfl) (by kernel_rfl)
theorem n4(hsh:W.ShapedOpen prog)(hL:laidMetH prog Rows.slowsRow.laid W):Low W:=⟨j9 hsh,(jO hL).1,(jO hL).2,kK hL,lO hL⟩
end
section
open Go.ChangeShapes Go.WideShapes Go.ChangeAt Go.RowKit Go.Deep
theorem Tryz.bytesIn:prog.bytesOf 41=24:=by kernel_rfl
theorem qA{H:Type}{enc:TypeId×Value->H}{W:World}{r:Reach}{b0 base:Nat}{v:Value}{d:DataW H}{ps:List MemPlace}(hval:Value.okWide prog W r b0 26 v)(hd:DataW.Trod enc prog W base (fun _=>true) true 26 v d ps) :∃ins,ScrV W v ins/\(ins.length=0\/∃es sp,d=.slice es sp/\es.length=ins.length):=by
 obtain⟨a,len,cap,rfl⟩:=okWide_slice underlying26 hval;obtain⟨fuel,hf⟩:=hd;rcases open_slice_pairs underlying26 underlying41 Tryz.cellsIn rfl rfl Tryz.cellsSt Tryz.cellsI hf with⟨hc,hx⟩ | ⟨a',len',cap',m,n,V0,V1,D0,D1,P0,P1,hc,_,hl,hm,hmm,hx,hall⟩
 ·simp only [Value.cells,List.cons.injEq,Value.slice.injEq,and_true] at hc;obtain⟨rfl,rfl,rfl⟩:=hc;exact⟨[],.inl ⟨rfl,rfl⟩,.inl rfl⟩
 ·simp only [Value.cells,List.cons.injEq,Value.slice.injEq,and_true] at hc;obtain⟨rfl,rfl,rfl⟩:=hc;simp only [if_true] at hmm;have each:∀i,i<len->∃(s:ByteArray)(z:Int),W.cell? (a'.add (i*2))=some (.string s)/\W.cell? (a'.add (i*2+1))=some (.int .i64 z)/\inOf (V0 i) (V1 i)=(s,z):=fun i hi=>by obtain⟨h1,h2,h3,h4⟩:=hall i (by omega);obtain⟨s,e1,_,e2⟩:=DataW.trod_string underlying9 h3;obtain⟨z,e3,_,_⟩:=DataW.trod_int underlying3 h4;simp only [List.cons.injEq,and_true] at e1 e3;rw [e1] at h1;rw [e3] at h2;exact⟨s,z,h1,h2,by rw [e1,e3];rfl⟩
  refine⟨(List.range len).map fun i=>inOf (V0 i) (V1 i),.inr ⟨a',cap,by simp,by simpa using hl,fun hne=>?_,fun j u hj=>?_⟩,.inr ⟨_,_,(Prod.mk.inj hx).1,by simp⟩⟩
  ·have hp:0<len:=by
    rcases Nat.eq_zero_or_pos len with h | h
    ·subst h;exact absurd rfl hne
    ·exact h
   obtain⟨s,z,h1,_⟩:=each 0 hp;have:=World.block_lt_of_cell? _ _ h1
   rwa [hY] at this
  ·have hjl:j<len*2:=by
    have:=(List.getElem?_eq_some_iff.1 hj).1;rw [fG] at this;simpa using this
   obtain⟨s,z,h1,h2,h3⟩:=each (j / 2) (by omega);have hg:((List.range len).map fun i=>inOf (V0 i) (V1 i))[j / 2]?=some (s,z):=by rw [List.getElem?_map,List.getElem?_range (by omega)];exact congrArg some h3
   obtain⟨q1,q2⟩:=pM hg;rcases Nat.mod_two_eq_zero_or_one j with hj2 | hj2
   ·have e:j=j / 2*2:=by omega
    have hj':=hj;rw [e,q1] at hj';rw [e,h1,Option.some.inj hj']
   ·have e:j=j / 2*2+1:=by omega
    have hj':=hj;rw [e,q2] at hj';rw [e,h2,Option.some.inj hj']
theorem scr_len{H:Type}{ts:List TypeId}{ds:List (DataW H)}{d0:DataW H}{ins:List (ByteArray×Int)}(hz:(DataW.weightsEach prog (26::ts) (d0::ds)).all (·<=reachBytes)=true)(h:ins.length=0\/∃es sp,d0=.slice es sp/\es.length=ins.length):ins.length*24<=140737488351232:=by
 rcases h with h | ⟨es,sp,rfl,h⟩
 ·omega
 ·have:=sized_slice hz (j:=0) rfl rfl underlying26;rw [Tryz.bytesIn] at this;have hr:reachBytes=140737488351232:=by decide
  rw [hr] at this;omega
theorem aBG(os:Os)(started:os.Started)(H:Type)(enc:TypeId×Value->H)(F:Stop.Interp) :ReturnsInLeavingWide {calm:=true} checked os 7 .any (fun w args=>(Rows.countedSpec.pre enc prog Tryz.f7 [] false w args/\laidMetH prog Rows.countedRow.laid w)/\sizedMet enc prog Tryz.f7 (OpenSpec.ofChange Rows.countedSpec) false w args)
   ((OpenSpec.ofChange Rows.countedSpec).postWith enc prog Tryz.f7 F (outsideKept [.timePasses]) false true false):=by
 refine dV (C:=checked) (X:=fun w _=>laidMetH prog Rows.countedRow.laid w) (fun _ _ _ hh h=>h.of_heap hh) Tryz.own started (by kernel_rfl) func7
  (mI (enc:=enc) (C:=checked) (os:=os) (X:=fun w _=>laidMetH prog Rows.countedRow.laid w) (World.doorLaid prog 86 os) #[.slice none 0 0,.string ByteArray.empty] 8 rfl (World.shaped_of_RefB (by kernel_rfl) (by kernel_rfl)) (by kernel_rfl) (by kernel_rfl) (by kernel_rfl) (aAK os _)) ?_
 intro W base args ds gs before hsh hval0 hW _ hz hL;have hval:∀(j:Nat) t v,Tryz.f7.params[j]?=some t->args[j]?=some v->Value.okWide prog W .any base t v:=hval0;have hW':=hW;obtain⟨p,q,hA0,hV,rfl,hfz,hnd⟩:=hW;have hA:DataW.TrodAll enc prog W 0 (fun _=>true) true Tryz.f7.params.toList args.toList ds p:=hA0;rw [params7] at hA hval hz;have hlt:∀x∈p,x.block<W.heap.size:=DataW.TrodAll.lt hA;obtain⟨v0,v1,d0,d1,p0,p1,rfl,rfl,rfl,h0,h1⟩:=trodAll_two hA;obtain⟨rfl,rfl⟩:=trodVars_none hV;obtain⟨ins,hS,hl⟩:=qA (hval 0 26 v0 rfl rfl) h0;obtain⟨s,rfl,rfl,rfl,hs⟩:=ChangeMaps.open_string underlying9 (hval 1 9 v1 rfl rfl) h1;clear hA0 hval0;simp only [List.append_nil] at hW' hlt;refine(aDF W v0 ins s hS (scr_len hz hl) (n4 hsh hL)).mono fun e W' ⟨he,hb⟩=>?_;subst he;refine⟨_,rfl,⟨_,_,_,[],p0,[],hW',?_,?_,?_,hb.frame _,fun h=>by cases h⟩,hb.os⟩
 ·exact trodAll_mk1 (shut_bool underlying4 true)
 ·have:=trodAll_mk2 (tX h0 hlt hb) (ChangeMaps.shut_string underlying9 hs);rw [show p0++[]=p0 from by simp] at this;exact this
 ·rfl
theorem aBQ:Rows.CountedSaid :=
 OpenClaim.holds_of_wide_leaving_time 7 Tryz.f7 rfl rfl rfl rfl rfl rfl rfl ⟨rfl,rfl,rfl,rfl,rfl⟩ rfl rfl rfl rfl rfl (by kernel_rfl) func7 aBH
  (of_decide_eq_true (by kernel_rfl)) (by unfold Func.isWrapper;rw [if_neg (of_decide_eq_false (by kernel_rfl))];exact⟨rfl,rfl⟩)
  (fun os started H enc _ F=>aBG os started H enc F)
end
section
open Go
theorem mN(Lk:Looks){p:Pinned}{s:OpenSpec}{c:OpenClaim}(g:Bool)(kinds:List LaidKind)(tests:Bool)(har:Bool×String)(lk:Bool)
  (hc:c.holds p s) (hw:c.wfByText s=true) (htie:c.laidByTextAt Lk p kinds tests)
  (hst:c.start=.entering) (hnb:c.noBlocks=false/\c.again=false) (hm:p.checked.prog.mainIs=some (har.1,har.2.toList)) (hn:(!har.1&&har.2.isEmpty&&!lk)=false)
  (hl:∀f fn,p.checked.prog.funcNamed c.func=some f->p.checked.prog.funcs[f]?=some fn->lk=p.checked.prog.looks []/\∀(j:Nat) t,fn.params[j]?=some t->p.checked.prog.wantsStandIn t=false)
  (hg:g=c.goesBy p.checked.prog) :
  Claim7.holds p (.plain s) {stood:={row:=c,standIns:=[],harness:=har,looks:=lk},kinds:=[],alts:=[],goes:=g,laidByText:=true,laidKinds:=kinds,laidTests:=tests,laidLooks:=Lk}:=by
 have h6:∀r:OpenClaim,Claim7.isSixth {stood:={row:=r,standIns:=[],harness:=har,looks:=lk},kinds:=[]}=false:=fun r=>by simpa [Claim7.isSixth] using hn
 exact⟨Claim7.tied_new_at Lk kinds tests (Claim7.new_of_sixth hc har lk hst hnb hm (h6 c) hl) hw,fun D hD=>(by cases hD),htie,(fun h=>by cases h),hg⟩
theorem counted_card_holds:Rows.CountedCardSaid :=
 mN .later true [.data,.data,.data,.handle,.sentinel,.sentinel,.data] true Rows.countedCard.stood.harness true
  aBQ (by kernel_rfl) counted_row_tie rfl ⟨rfl,rfl⟩ (by kernel_rfl) rfl
  (fun f fn hf hfn=>by
   obtain rfl:f=7:=Option.some.inj ((show prog.funcNamed "stepper/stepperkeep.Counted"=some 7 by kernel_rfl).symm.trans hf) |>.symm;obtain rfl:fn=Tryz.f7:=(Option.some.inj (func7.symm.trans hfn)).symm
   exact⟨by kernel_rfl,fun j t ht=>by
    rw [params7] at ht;rcases j with _ | _ | j
    ·obtain rfl:26=t:=Option.some.inj ht;exact(show prog.wantsStandIn 26=false by kernel_rfl)
    ·obtain rfl:9=t:=Option.some.inj ht;exact(show prog.wantsStandIn 9=false by kernel_rfl)
    ·simp at ht⟩)
  (by kernel_rfl)
end
end Go.Proofs.YtkgbdddkcjpgfaaGreatDoor
