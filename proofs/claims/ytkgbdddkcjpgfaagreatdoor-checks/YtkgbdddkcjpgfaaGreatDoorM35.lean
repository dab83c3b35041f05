/- The program's Check and the law Checks. -/
import Derived.Test.YtkgbdddkcjpgfaaGreatDoorM30
import Derived.Test.YtkgbdddkcjpgfaaGreatDoorM34
import Derived.LaidLaws
import Derived.Leaving
import Derived.Conc.HoldsTime
namespace Go.Proofs.YtkgbdddkcjpgfaaGreatDoor
open Go.RowKit

/- A table that is new. -/
def sgNew : Sg := ⟨0, 0, [], [], [], [], []⟩
theorem rdr_new {w w1 : World} (tq tc : TypeId) (ht : Tab w1 (w.heap.size + 1) w.heap.size []) : Rdr (fun k => k = w.heap.size) w1 ⟨tq, tc, [], [], [], [], []⟩ (w.heap.size + 1) w.heap.size [] :=
  ⟨ht, ⟨rfl, List.nodup_nil, fun i b p h => by simp at h⟩, rfl, by omega, fun k hk => by rw [hk]; exact ht.lt.2⟩
set_option maxHeartbeats 1000000 in
set_option maxRecDepth 100000 in
theorem p_check (s : ByteArray) (w : World) (hge : GE w) (hgt : GT w) : Calls Tryz.prog 15 #[.string s] w fun e w' => e = .returned (.int .i64 (Pl.check s.data.toList : Int)) ∧ Below w.heap.size w w' := by
  have HT := (show Hid (GT w) from hgt)
  have HE := (show Hid (GE w) from hge)
  clear hge hgt
  go_enter Tryz.func15, Tryz.ntmps15
  go_wp2_with fail
  refine (p_newTable w).mono ?_
  rintro e w0 ⟨rfl, hB0, hT0⟩
  have HB0 := (show Hid (Below _ _ _) from hB0)
  have HR0 : Hid (Rdr _ _ sgNew _ _ _) := rdr_new _ _ hT0
  clear hB0 hT0
  go_wp2_with fail
  refine (p_sread s _ w0 _ _ _ _ HR0.out (HE.out.below HB0.out) (by show 0 + 300 ≤ NsMax; unfold NsMax; omega)).mono ?_
  rintro e w1 ⟨v, ev, rfl, hg, t, _, _, hcase⟩
  have HB : Hid (Below w.heap.size w w1) := below_grown_at HB0.out hg (Nat.le_refl _) (Nat.le_refl _)
  clear hg
  rcases hcase with ⟨c, es, hc, hc0, hc5, rfl, _⟩ | ⟨f, hc, _, rfl, _⟩
  · have HC := (show Hid _ from hc)
    have HT1 : Hid (GT w1) := HT.out.below HB.out
    clear hc
    have hcode := (show Hid _ from p_code es c w1 HT1.out)
    unfold errV at hcode ⊢
    go_wp2_with fail
    refine (Calls.mono hcode.out) ?_
    rintro e w2 ⟨rfl, hB2⟩
    have HB2 : Hid (Below w.heap.size w w2) := HB.out.trans (hB2.mono HB.out.size)
    clear hB2 hcode
    go_wp2_with fail
    go_ret
    exact ⟨by rw [HC.out]; rfl, HB2.out⟩
  · have HC := (show Hid _ from hc)
    clear hc
    go_wp2_with fail
    refine (p_code_nil w1).mono ?_
    rintro e w2 ⟨rfl, hB2⟩
    have HB2 : Hid (Below w.heap.size w w2) := HB.out.trans (hB2.mono HB.out.size)
    clear hB2
    go_wp2_with fail
    go_ret
    exact ⟨by rw [HC.out]; rfl, HB2.out⟩
set_option maxHeartbeats 1000000 in
theorem p_num (k : Int) (w : World) : Calls Tryz.prog 17 #[.int .i64 k] w fun e w' => e = .returned (.int .i64 k) ∧ w = w' := by
  go_enter Tryz.func17, Tryz.ntmps17
  go_wp2_with fail
  go_ret
  exact ⟨rfl, rfl⟩
set_option maxHeartbeats 1000000 in
set_option maxRecDepth 100000 in
theorem p_checks (s : ByteArray) (w : World) (hs0 : s.size ≤ maxLen) (hge : GE w) (hgt : GT w) : Calls Tryz.prog 3 #[.string s] w fun e w' => e = .returned (.bool true) ∧ Below w.heap.size w w' := by
  have HT := (show Hid (GT w) from hgt)
  have HE := (show Hid (GE w) from hge)
  clear hge hgt
  go_enter Tryz.func3, Tryz.ntmps3
  go_wp2_with fail
  refine (p_check s w HE.out HT.out).mono ?_
  rintro e w1 ⟨rfl, hB⟩
  have HB := (show Hid (Below _ _ _) from hB)
  clear hB
  go_wp2_with fail
  refine (ref_check s w1 hs0).mono ?_
  rintro e w2 ⟨rfl, hB2⟩
  have HB2 : Hid (Below w.heap.size w w2) := HB.out.trans (hB2.mono HB.out.size)
  clear hB2
  go_wp2_with (go_at_call 17; refine (p_num _ _).mono ?_; rintro e w' ⟨rfl, rfl⟩)
  go_ret
  exact ⟨rfl, HB2.out⟩
end Go.Proofs.YtkgbdddkcjpgfaaGreatDoor

/- From a contract over one goroutine to a row that says 'leaving', 'calm' and 'time passes': a call that starts no goroutine leaves none behind, and the clocks do not go. -/
namespace Go.Proofs.YtkgbdddkcjpgfaaGreatDoor
open Go

theorem leaving_of_handed {a : Assume} {C : Checked} {os : Os} {f : FuncId} {r : Reach} {Pre : World → Array Value → Prop} {Post : World → Array Value → Value → World → Prop} (h : ReturnsInHanded a C os f r Pre Post) : ReturnsInLeavingWide a C os f r Pre Post :=
  fun e => ReturnsInOpen.mono (fun _ _ _ x => ⟨x.2.1, onlyLeaving_of_quiet x.1, x.2.2⟩) (fun _ x => x) (h e)
section
variable {H : Type} {enc : TypeId × Value → H}
theorem witness_calm {C : Checked} {os : Os} {f : FuncId} {fn : Func} {s : ChangeSpec} {conds : List PathCond} {apart : Bool} {X : World → Array Value → Prop} (w0 : World) (args : Array Value) (fuel : Nat) (hos : w0.os = os)
    (hsh : (w0.forCall (fun _ _ => 0) ⟨#[], args, []⟩).Shaped C.prog)
    (hok : Input.okWideB C.prog (w0.forCall (fun _ _ => 0) ⟨#[], args, []⟩) f ⟨#[], args, []⟩ = true)
    (hpre : s.preB enc C.prog fn conds apart (w0.forCall (fun _ _ => 0) ⟨#[], args, []⟩).memory args fuel = true)
    (hsz : s.sizedB enc C.prog fn apart (w0.forCall (fun _ _ => 0) ⟨#[], args, []⟩).memory args fuel = true)
    (hx : X (w0.forCall (fun _ _ => 0) ⟨#[], args, []⟩).memory args) :
    ∃ (w : World) (tape : Tape) (i : Input), w.os = os ∧ (w.forCall tape i).Shaped C.prog ∧ i.vars = [] ∧ Input.okWide C.prog (w.forCall tape i) .any w.heap.size f i ∧
      ((s.pre enc C.prog fn conds apart (w.forCall tape i).memory i.args ∧ X (w.forCall tape i).memory i.args) ∧ sizedMet enc C.prog fn (OpenSpec.ofChange s) apart (w.forCall tape i).memory i.args) ∧ ({ calm := true } : Assume).holds C.prog (lone (Frame.enter C.prog f i.args .normal) [] (w.forCall tape i)) :=
  ⟨w0, fun _ _ => 0, ⟨#[], args, []⟩, hos, hsh, (Input.okWide_of_okWideB (base := 0) hok).1, (Input.okWide_of_okWideB hok).2, ⟨⟨ChangeSpec.pre_of_preB hpre, hx⟩, sizedMet_of_sizedB hsz⟩, by
    simp only [Assume.holds]
    exact ⟨by simp, fun _ _ _ _ => rfl, by simp, by simp, by simp⟩⟩
theorem leaving_of_change_and {a : Assume} {C : Checked} {os : Os} {f : FuncId} {fn : Func} {s : ChangeSpec} {F : Stop.Interp} {conds : List PathCond} {apart fresh handsOn : Bool} {X : World → Array Value → Prop}
    (hX : ∀ (w w' : World) (args : Array Value), w.heap = w'.heap → X w args → X w' args)
    (own : ownKnob C.prog.godebug = none) (started : os.Started) (noInit : C.prog.inits.idxOf? f = none) (hfn : C.prog.funcs[f]? = some fn)
    (witness : ∃ (w : World) (tape : Tape) (i : Input), w.os = os ∧ (w.forCall tape i).Shaped C.prog ∧ i.vars = [] ∧ Input.okWide C.prog (w.forCall tape i) .any w.heap.size f i ∧
      ((s.pre enc C.prog fn conds apart (w.forCall tape i).memory i.args ∧ X (w.forCall tape i).memory i.args) ∧ sizedMet enc C.prog fn (OpenSpec.ofChange s) apart (w.forCall tape i).memory i.args) ∧ a.holds C.prog (lone (Frame.enter C.prog f i.args .normal) [] (w.forCall tape i)))
    (contract : ∀ (W : World) (base : Nat) (args : Array Value) (ds gs : List (DataW H)) (before : List MemPlace),
      (∀ (j : Nat) t v, fn.params[j]? = some t → args[j]? = some v → Value.okWide C.prog W .any base t v) →
      DataW.Whole enc C.prog fn.params.toList s.vars apart W args.toList ds gs before →
      conds.all (PathCond.test C.prog ⟨fn.params.toList, ds, s.plain.varTypes C.prog, gs⟩) = true →
      (DataW.weightsEach C.prog (fn.params.toList ++ s.plain.varTypes C.prog) (ds ++ gs)).all (· ≤ reachBytes) = true → X W args →
      Calls C.prog f args W fun e W' => ∃ v, e = .returned v ∧ s.post enc C.prog fn apart fresh handsOn false W args v W' ∧ W'.os = W.os) :
    ReturnsInLeavingWide a C os f .any (fun w args => (s.pre enc C.prog fn conds apart w args ∧ X w args) ∧ sizedMet enc C.prog fn (OpenSpec.ofChange s) apart w args) ((OpenSpec.ofChange s).postWith enc C.prog fn F (outsideKept [.timePasses]) apart fresh handsOn) := by
  refine leaving_of_handed (returnsInHanded_of_calls own started noInit witness ?_)
  intro w tape i _ _ _ hok hpre _
  obtain ⟨_, _, _, fn', hfn', _, _, _, _, hval⟩ := hok
  have e : fn' = fn := Option.some.inj (hfn'.symm.trans hfn)
  subst e
  obtain ⟨⟨⟨ds, gs, before, hw, hc⟩, hx⟩, hz⟩ := hpre
  have hw' := DataW.Whole.of_heap (w' := w.forCall tape i) (by rfl) hw
  refine (contract (w.forCall tape i) w.heap.size i.args ds gs before hval hw' hc (hz.weights hw) (hX _ _ _ (by rfl) hx)).mono fun e W' ⟨v, he, hp, hos⟩ => ?_
  subst he
  refine postWith_blind (postWith_of_post (by rw [← hos]; exact hp) ⟨0, by rw [hos]; rfl⟩)
end
end Go.Proofs.YtkgbdddkcjpgfaaGreatDoor
