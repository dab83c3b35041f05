/- The program's set, define, lambda. -/
import Derived.Test.YtkfbhjinmpdfnaaGreatDoorM21
import Derived.Laws.OwnMore
namespace Go.Proofs.YtkfbhjinmpdfnaaGreatDoor
open Go.RowKit

def NFPost (r : Bool) (w : World) (e : Ending) (w' : World) : Prop :=
  Below w.heap.size w w' ∧ ((r = true ∧ ∃ s T x, e = .returned (.tuple #[.string s, .iface T x, .nilIface])) ∨ (r = false ∧ ∃ v1 v2 s, e = .returned (.tuple #[v1, v2, errV s 5])))
theorem two_of {α : Type} {l : List α} (h : l.length = 2) : ∃ a b, l = [a, b] := by
  match l, h with
  | [a, b], _ => exact ⟨a, b, rfl⟩
theorem asgOk_not {f : Tr → Bool} {ts : List Tr} (h : ¬ ts.length = 2) : Pl.asgOk f ts = false := by
  match ts, h with
  | [], _ => rfl
  | [_], _ => rfl
  | _ :: _ :: _ :: _, _ => rfl
theorem lam2_not {f : Tr → Bool} {ts : List Tr} (h : ¬ ts.length = 2) : Pl.lam2 f ts = false := by
  match ts, h with
  | [], _ => rfl
  | [_], _ => rfl
  | _ :: _ :: _ :: _, _ => rfl
theorem let2_not {f : Tr → Bool} {ts : List Tr} (h : ¬ ts.length = 2) : Pl.let2 f ts = false := by
  match ts, h with
  | [], _ => rfl
  | [_], _ => rfl
  | _ :: _ :: _ :: _, _ => rfl
theorem lam2_eq (f : Tr → Bool) (a b : Tr) : Pl.lam2 f [a, b] = (namesOf a && f b) := by
  show Pl.lamOk f a b = _
  unfold Pl.lamOk namesOf
  split <;> simp

set_option maxHeartbeats 1000000 in
set_option maxRecDepth 100000 in
theorem p_readNF (n : Nat) (hF : FSaid n) (w : World) (sl : Value) (vs : List Value) (ts : List Tr) (hS : SlOf w sl vs) (hA : AllP n w vs ts) :
    Calls Tryz.prog 24 #[sl] w fun e w' => NFPost (Pl.asgOk (Pl.isForm n) ts) w e w' := by
  have hvl := hA.1
  by_cases h2 : ts.length = 2
  · obtain ⟨t1, t2, rfl⟩ := two_of h2
    obtain ⟨u1, u2, rfl⟩ := two_of (hvl.trans h2)
    have r1 := hA.2 0 u1 t1 rfl rfl
    have r2 := hA.2 1 u2 t2 rfl rfl
    have HR1 := (show Hid _ from r1)
    have HF2 : Hid (FCall w u2 (Pl.isForm n t2)) := hF.call r2
    obtain ⟨T1, x1, rfl, _⟩ := r1.iface
    obtain ⟨T2, x2, rfl, _⟩ := r2.iface
    obtain ⟨g, off, cap, rfl, hcap, hg, k0, ks⟩ := hS.cell0
    have k1 := ks 0 _ rfl
    simp only [Nat.zero_add, List.length_cons, List.length_nil] at k1 hcap ⊢
    have HE : ∀ r, Hid (Pl.isName t1 = r) → Hid (∀ r2, Pl.isForm n t2 = r2 → Pl.asgOk (Pl.isForm n) [t1, t2] = (r && r2)) := fun r hr r2 h2 => by
      show (Pl.isName t1 && Pl.isForm n t2) = _
      rw [hr.out, h2]
    clear hA hS hF r1 r2 hvl h2 ks
    go_enter Tryz.func24, Tryz.ntmps24
    go_wp2_with fail
    refine (p_readName OkA n _ t1 w w HR1.out).mono ?_
    rintro e w' ⟨rfl, ⟨hn, rfl⟩ | ⟨hn, v, es, rfl⟩⟩
    · have HE2 := HE _ hn
      unfold nmV
      clear hn HE
      go_wp2_with fail
      refine (HF2.out w (Below.refl _ _)).mono ?_
      rintro e w2 ⟨hB, ⟨hr, Tf, xf, rfl⟩ | ⟨hr, v, es, rfl⟩⟩
      · have HR := (show Hid _ from HE2.out _ hr)
        have HB := (show Hid (Below _ _ _) from hB)
        clear hr hB HE2
        go_wp2_with fail
        go_ret3
        exact ⟨HB.out, .inl ⟨HR.out, _, _, _, rfl⟩⟩
      · have HR := (show Hid _ from HE2.out _ hr)
        have HB := (show Hid (Below _ _ _) from hB)
        clear hr hB HE2
        unfold errV
        go_wp2_with fail
        go_ret3
        exact ⟨HB.out, .inr ⟨HR.out, _, _, _, rfl⟩⟩
    · have HR := (show Hid _ from (HE _ hn).out _ rfl)
      clear hn HE
      unfold errV
      go_wp2_with fail
      go_ret3
      exact ⟨Below.refl _ _, .inr ⟨HR.out, _, _, _, rfl⟩⟩
  · have HE : Hid (Pl.asgOk (Pl.isForm n) ts = false) := asgOk_not h2
    obtain ⟨ao, cap, rfl, _⟩ := hS
    have hne : ((vs.length : Int) != 2) = true := by simp; omega
    clear hA hF h2 hvl
    go_enter Tryz.func24, Tryz.ntmps24
    go_wp2_with (go_at_call 38; refine (p_noForm _ _).mono ?_; rintro e w' ⟨rfl, rfl⟩)
    go_ret3
    exact ⟨Below.refl _ _, .inr ⟨HE.out, _, _, _, rfl⟩⟩

set_option maxHeartbeats 1000000 in
set_option maxRecDepth 100000 in
theorem p_readSet (n : Nat) (hF : FSaid n) (w : World) (sl : Value) (vs : List Value) (ts : List Tr) (hS : SlOf w sl vs) (hA : AllP n w vs ts) :
    Calls Tryz.prog 42 #[sl] w fun e w' => FPost (Pl.asgOk (Pl.isForm n) ts) w e w' := by
  have HS := (show Hid (SlOf w sl vs) from hS)
  have HA := (show Hid _ from hA)
  have HF := (show Hid _ from hF)
  obtain ⟨ao, cap, rfl, _⟩ := hS
  clear hA hF
  go_enter Tryz.func42, Tryz.ntmps42
  go_wp2_with fail
  refine (p_readNF n HF.out w _ vs ts HS.out HA.out).mono ?_
  rintro e w2 ⟨hB, ⟨hr, s, T, x, rfl⟩ | ⟨hr, v1, v2, es, rfl⟩⟩
  · have HR := (show Hid _ from hr)
    have HB := (show Hid (Below _ _ _) from hB)
    clear hr hB
    go_wp2_with fail
    go_ret2
    exact ⟨HB.out, .inl ⟨HR.out, _, _, rfl⟩⟩
  · have HR := (show Hid _ from hr)
    have HB := (show Hid (Below _ _ _) from hB)
    clear hr hB
    unfold errV
    go_wp2_with fail
    go_ret2
    exact ⟨HB.out, .inr ⟨HR.out, _, _, rfl⟩⟩
set_option maxHeartbeats 1000000 in
set_option maxRecDepth 100000 in
theorem p_readDefine (n : Nat) (hF : FSaid n) (w : World) (sl : Value) (vs : List Value) (ts : List Tr) (hS : SlOf w sl vs) (hA : AllP n w vs ts) :
    Calls Tryz.prog 12 #[sl] w fun e w' => FPost (Pl.asgOk (Pl.isForm n) ts) w e w' := by
  have HS := (show Hid (SlOf w sl vs) from hS)
  have HA := (show Hid _ from hA)
  have HF := (show Hid _ from hF)
  obtain ⟨ao, cap, rfl, _⟩ := hS
  clear hA hF
  go_enter Tryz.func12, Tryz.ntmps12
  go_wp2_with fail
  refine (p_readNF n HF.out w _ vs ts HS.out HA.out).mono ?_
  rintro e w2 ⟨hB, ⟨hr, s, T, x, rfl⟩ | ⟨hr, v1, v2, es, rfl⟩⟩
  · have HR := (show Hid _ from hr)
    have HB := (show Hid (Below _ _ _) from hB)
    clear hr hB
    go_wp2_with fail
    go_ret2
    exact ⟨HB.out, .inl ⟨HR.out, _, _, rfl⟩⟩
  · have HR := (show Hid _ from hr)
    have HB := (show Hid (Below _ _ _) from hB)
    clear hr hB
    unfold errV
    go_wp2_with fail
    go_ret2
    exact ⟨HB.out, .inr ⟨HR.out, _, _, rfl⟩⟩

set_option maxHeartbeats 1000000 in
set_option maxRecDepth 100000 in
theorem p_readLambda (n : Nat) (hF : FSaid n) (w : World) (sl : Value) (vs : List Value) (ts : List Tr) (hS : SlOf w sl vs) (hA : AllP n w vs ts) :
    Calls Tryz.prog 43 #[sl] w fun e w' => FPost (Pl.lam2 (Pl.isForm n) ts) w e w' := by
  have hvl := hA.1
  by_cases h2 : ts.length = 2
  · obtain ⟨t1, t2, rfl⟩ := two_of h2
    obtain ⟨u1, u2, rfl⟩ := two_of (hvl.trans h2)
    have r1 := hA.2 0 u1 t1 rfl rfl
    have r2 := hA.2 1 u2 t2 rfl rfl
    have HR1 := (show Hid _ from r1)
    have HF2 : Hid (FCall w u2 (Pl.isForm n t2)) := hF.call r2
    obtain ⟨T1, x1, rfl, _⟩ := r1.iface
    obtain ⟨T2, x2, rfl, _⟩ := r2.iface
    obtain ⟨g, off, cap, rfl, hcap, hg, k0, ks⟩ := hS.cell0
    have k1 := ks 0 _ rfl
    simp only [Nat.zero_add, List.length_cons, List.length_nil] at k1 hcap ⊢
    have HE : ∀ r, Hid (namesOf t1 = r) → Hid (∀ r2, Pl.isForm n t2 = r2 → Pl.lam2 (Pl.isForm n) [t1, t2] = (r && r2)) := fun r hr r2 h2 => by
      rw [lam2_eq, hr.out, h2]
    clear hA hS hF r1 r2 hvl h2 ks
    go_enter Tryz.func43, Tryz.ntmps43
    go_wp2_with fail
    refine (p_readNames OkA n w _ t1 HR1.out).mono ?_
    rintro e w1 ⟨hB1, ⟨hn, ao, kk, cap, rfl⟩ | ⟨hn, v, es, rfl⟩⟩
    · have HE2 := HE _ hn
      have HB1 := (show Hid (Below _ _ _) from hB1)
      obtain ⟨q1, _⟩ := bcell hB1
      clear hn HE hB1
      go_wp2_with fail
      refine (HF2.out w1 HB1.out).mono ?_
      rintro e w2 ⟨hB, ⟨hr, Tf, xf, rfl⟩ | ⟨hr, v, es, rfl⟩⟩
      · have HR := (show Hid _ from HE2.out _ hr)
        have HB : Hid (Below w.heap.size w w2) := HB1.out.trans (hB.mono HB1.out.size)
        clear hr hB HE2 q1
        go_wp2_with fail
        go_ret2
        exact ⟨HB.out, .inl ⟨HR.out, _, _, rfl⟩⟩
      · have HR := (show Hid _ from HE2.out _ hr)
        have HB : Hid (Below w.heap.size w w2) := HB1.out.trans (hB.mono HB1.out.size)
        clear hr hB HE2 q1
        unfold errV
        go_wp2_with fail
        go_ret2
        exact ⟨HB.out, .inr ⟨HR.out, _, _, rfl⟩⟩
    · have HR := (show Hid _ from (HE _ hn).out _ rfl)
      have HB1 := (show Hid (Below _ _ _) from hB1)
      clear hn HE hB1
      unfold errV
      go_wp2_with fail
      go_ret2
      exact ⟨HB1.out, .inr ⟨HR.out, _, _, rfl⟩⟩
  · have HE : Hid (Pl.lam2 (Pl.isForm n) ts = false) := lam2_not h2
    obtain ⟨ao, cap, rfl, _⟩ := hS
    have hne : ((vs.length : Int) != 2) = true := by simp; omega
    clear hA hF h2 hvl
    go_enter Tryz.func43, Tryz.ntmps43
    go_wp2_with (go_at_call 38; refine (p_noForm _ _).mono ?_; rintro e w' ⟨rfl, rfl⟩)
    go_ret2
    exact ⟨Below.refl _ _, .inr ⟨HE.out, _, _, rfl⟩⟩
end Go.Proofs.YtkfbhjinmpdfnaaGreatDoor

/- The program's let: what its loop keeps, and the append of nothing. -/
namespace Go.Proofs.YtkfbhjinmpdfnaaGreatDoor
open Go.RowKit

theorem run_append_zero {P : Program} {w : World} (t ty e : TypeId) (i : TypeInfo) (ht : P.underlying t = some (.slice e)) (hi : P.info? e = some i) (ad : Addr) (n cap : Nat) (hnc : n ≤ cap) (p : Option Addr) (c : Nat) :
    (Builtin.append_ #[t, t] ty #[.slice (some ad) n cap, .slice p 0 c]).run P w = .ok (.slice (some ad) n cap) w := by
  cases p <;> simp [Builtin.append_, run_underlying ht, sizeOf, typeInfo, hi, Builtin.lenOf, Builtin.firstCells, hnc, storeCells, loadCells, loadCellsFrom]
theorem wpList_append_zero {P : Program} {w : World} {ops : Array Oper} {rest : List Oper} {o : Oper} {a : Act} {Q : Exit → Act → World → Prop} (hgd : o.guard = none) (s x : Operand) (t : TypeId)
    (ho : o.op = .call { callee := .builtin .append, args := #[s, x], argTypes := #[t, t] })
    (e : TypeId) (i : TypeInfo) (ht : P.underlying t = some (.slice e)) (hi : P.info? e = some i)
    (ad : Addr) (n cap : Nat) (hnc : n ≤ cap) (p : Option Addr) (c : Nat) (hs : a.eval s = .slice (some ad) n cap) (hx : a.eval x = .slice p 0 c)
    (h : wpList P ops Q rest (a.put o.dst (.slice (some ad) n cap)) w) : wpList P ops Q (o :: rest) a w := by
  refine wpList_plain hgd fun K hK => ?_
  have hrun := run_append_zero (P := P) (w := w) t o.type e i ht hi ad n cap hnc p c
  unfold Oper.wp
  simp [execOp, ho, resolve, invoke, builtin, hs, hx, hrun, Result.andThen]
  exact hK _ _ h

structure QInv (w wr : World) (a b : Nat) (nS vS : Value) (nvs vvs : List Value) : Prop where
  below : Below w.heap.size w wr
  nrow : wr.ownsRow w.heap.size PT 1 nS a nvs
  vrow : wr.ownsRow w.heap.size PT 1 vS b vvs
  apart : ∀ r, nS.ownBlock = some r → vS.ownBlock ≠ some r
theorem own_zero (w : World) (e : TypeId) {base : Nat} (h : base ≤ w.heap.size) : (w.alloc (.cells #[] e)).ownsRow base e 1 (.slice (some ⟨w.heap.size, 0, none⟩) 0 0) 0 [] :=
  ⟨rfl, .inr ⟨w.heap.size, 0, #[], rfl, h, heap_alloc_new _ _, Nat.le_refl _, by unfold maxLen; omega, rfl, rfl⟩⟩
theorem QInv.start (w : World) : Hid (QInv w ((w.alloc (.cells #[] PT)).alloc (.cells #[] PT)) 0 0 (.slice (some ⟨w.heap.size, 0, none⟩) 0 0) (.slice (some ⟨w.heap.size + 1, 0, none⟩) 0 0) [] []) := by
  have e : (w.alloc (.cells #[] PT)).heap.size = w.heap.size + 1 := by simp
  refine QInv.mk (((Below.refl _ _).alloc (Nat.le_refl _) _).alloc (by simp) _) ((own_zero w PT (Nat.le_refl _)).alloc _) ?_ (fun r h => by simp [Value.ownBlock] at h ⊢; omega)
  rw [← e]
  exact own_zero _ PT (by simp)
theorem kept_apart {a b : World} {base : Nat} {v x : Value} {n : Nat} {vs : List Value} (h : a.ownsRow base PT 1 v n vs) (hg : a.grownBy b x.ownBlock) (hap : ∀ r, v.ownBlock = some r → x.ownBlock ≠ some r) : b.ownsRow base PT 1 v n vs := by
  refine ⟨h.1, ?_⟩
  rcases h.2 with hn | ⟨g, cap, cur, hv, h0, hx, rest⟩
  · exact .inl hn
  · refine .inr ⟨g, cap, cur, hv, h0, ?_, rest⟩
    rw [hg.block g (lt_of_some hx) (fun e => hap g (by rw [hv]; rfl) e.symm)]; exact hx
theorem QInv.pushN {w wr w3 : World} {a b : Nat} {nS vS : Value} {nvs vvs : List Value} (h : QInv w wr a b nS vS nvs vvs) {o : Obj} {g' cap' : Nat} {u : Value}
    (hown : w3.ownsRow w.heap.size PT 1 (.slice (some ⟨g', 0, none⟩) (a + 1) cap') (a + 1) (nvs ++ [u])) (hg : (wr.alloc o).grownBy w3 nS.ownBlock) (hat : nS.ownBlock = some g' ∨ g' = wr.heap.size + 1) :
    QInv w w3 (a + 1) b (.slice (some ⟨g', 0, none⟩) (a + 1) cap') vS (nvs ++ [u]) vvs := by
  have hrl := h.nrow.lt
  refine ⟨?_, hown, kept_apart (h.vrow.alloc o) hg (fun r hr e => h.apart r e hr), ?_⟩
  · refine (h.below.alloc h.below.size o).grown hg ?_ ?_
    · have := h.below.size; simp; omega
    · intro k hk; have := (hrl k hk).1; omega
  · intro r hr
    simp only [Value.ownBlock, Option.some.injEq] at hr
    subst hr
    rcases hat with h1 | h1
    · exact h.apart _ h1
    · intro e
      have := (h.vrow.lt _ e).2
      omega
theorem QInv.pushV {w wr w3 : World} {a b : Nat} {nS vS : Value} {nvs vvs : List Value} (h : QInv w wr a b nS vS nvs vvs) {o : Obj} {g' cap' : Nat} {u : Value}
    (hown : w3.ownsRow w.heap.size PT 1 (.slice (some ⟨g', 0, none⟩) (b + 1) cap') (b + 1) (vvs ++ [u])) (hg : (wr.alloc o).grownBy w3 vS.ownBlock) (hat : vS.ownBlock = some g' ∨ g' = wr.heap.size + 1) :
    QInv w w3 a (b + 1) nS (.slice (some ⟨g', 0, none⟩) (b + 1) cap') nvs (vvs ++ [u]) := by
  have hrl := h.vrow.lt
  refine ⟨?_, kept_apart (h.nrow.alloc o) hg h.apart, hown, ?_⟩
  · refine (h.below.alloc h.below.size o).grown hg ?_ ?_
    · have := h.below.size; simp; omega
    · intro k hk; have := (hrl k hk).1; omega
  · intro r hr e
    simp only [Value.ownBlock, Option.some.injEq] at e
    subst e
    rcases hat with h1 | h1
    · exact h.apart _ hr h1
    · have := (h.nrow.lt _ hr).2
      omega
theorem AllP.nil (n : Nat) (w : World) : AllP n w [] [] := ⟨rfl, fun i u x hu => by simp at hu⟩
theorem AllP.snoc {m : Nat} {w : World} {vs : List Value} {xs : List Tr} {u : Value} {x : Tr} (h : AllP m w vs xs) (hr : RepP OkA m w u x) : AllP m w (vs ++ [u]) (xs ++ [x]) := by
  refine ⟨by simp [h.1], fun i u' x' hu hx => ?_⟩
  have hl := h.1
  by_cases hi : i < vs.length
  · rw [List.getElem?_append_left hi] at hu
    rw [List.getElem?_append_left (by omega)] at hx
    exact h.2 i u' x' hu hx
  · rw [List.getElem?_append_right (by omega)] at hu hx
    rw [← hl] at hx
    generalize i - vs.length = j at hu hx
    cases j with
    | zero => simp at hu hx; subst hu hx; exact hr
    | succ j => simp at hu
theorem own_down {w : World} {base : Nat} {v : Value} {n : Nat} {vs : List Value} (h : w.ownsRow base PT 1 v n vs) : w.ownsRow 0 PT 1 v n vs := ⟨h.1, h.2.imp id (fun ⟨g, cap, cur, a, _, c⟩ => ⟨g, cap, cur, a, Nat.zero_le _, c⟩)⟩
/- A row of data stands for a list. -/
theorem AllP.rep {n : Nat} {w : World} {base : Nat} {v : Value} {vs : List Value} {ts : List Tr} (h : AllP n w vs ts) (hr : w.ownsRow base PT 1 v ts.length vs) (hl : ts.length ≤ 1000) : RepP OkA (n + 1) w (.iface 41 v) (.agg ts) :=
  ⟨v, vs, rfl, fun _ _ => trivial, own_down hr, h.2, hl⟩
theorem rep_lambda {n : Nat} {w : World} {nv bv : Value} {ns bd : Tr} (hn : RepP OkA n w nv ns) (hb : RepP OkA n w bv bd) (o : Obj) (ho : o = .cells #[.iface 43 (.string ⟨#[108, 97, 109, 98, 100, 97]⟩), nv, bv] PT (0, 0)) :
    RepP OkA (n + 1) (w.alloc o) (.iface 41 (.slice (some ⟨w.heap.size, 0, none⟩) 3 3)) (.agg [.lit (.string Pl.lambdaW), ns, bd]) := by
  have hlt : Below w.heap.size w (w.alloc o) := (Below.refl _ _).alloc (Nat.le_refl _) o
  refine ⟨_, [.iface 43 (.string ⟨#[108, 97, 109, 98, 100, 97]⟩), nv, bv], rfl, fun _ _ => trivial, ⟨rfl, .inr ⟨w.heap.size, 3, _, rfl, Nat.zero_le _, by rw [ho]; exact heap_alloc_new _ _, by simp, by simp [maxLen], rfl, rfl⟩⟩, ?_, by simp⟩
  intro i u x hu hx
  match i, hu, hx with
  | 0, hu, hx =>
    simp only [List.getElem?_cons_zero, Option.some.injEq] at hu hx
    subst hu hx
    cases n with
    | zero => exact hn.elim
    | succ n => rfl
  | 1, hu, hx =>
    simp only [List.getElem?_cons_succ, List.getElem?_cons_zero, Option.some.injEq] at hu hx
    subst hu hx
    exact hn.later hlt
  | 2, hu, hx =>
    simp only [List.getElem?_cons_succ, List.getElem?_cons_zero, Option.some.injEq] at hu hx
    subst hu hx
    exact hb.later hlt
  | (i + 3), hu, hx => simp at hu
end Go.Proofs.YtkfbhjinmpdfnaaGreatDoor
