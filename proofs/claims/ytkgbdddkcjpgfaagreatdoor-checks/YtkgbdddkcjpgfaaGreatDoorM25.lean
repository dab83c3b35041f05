/- The program's reader: let: what its loop keeps. -/
import Derived.Test.YtkgbdddkcjpgfaaGreatDoorM24
import Derived.Test.YtkgbdddkcjpgfaaGreatDoorM23
import Derived.Laws.OwnMore
import Derived.Deep.RegionLaw
namespace Go.Proofs.YtkgbdddkcjpgfaaGreatDoor
open Go.RowKit

theorem run_append_zero {P : Program} {w : World} (t ty e : TypeId) (i : TypeInfo) (ht : P.underlying t = some (.slice e)) (hi : P.info? e = some i) (ad : Addr) (n cap : Nat) (hnc : n ≤ cap) (p : Option Addr) (c : Nat) :
    (Builtin.append_ #[t, t] ty #[.slice (some ad) n cap, .slice p 0 c]).run P w = .ok (.slice (some ad) n cap) w := by
  cases p <;> simp [Builtin.append_, run_underlying ht, sizeOf, typeInfo, hi, Builtin.lenOf, Builtin.firstCells, hnc, storeCells, loadCells, loadCellsFrom]
theorem wpList_append_zero {P : Program} {w : World} {ops : Array Oper} {rest : List Oper} {o : Oper} {a : Act} {Q : Exit → Act → World → Prop} (hgd : o.guard = none) (s x : Operand) (t : TypeId)
    (ho : o.op = .call { callee := .builtin .append, args := #[s, x], argTypes := #[t, t] })
    (e : TypeId) (i : TypeInfo) (ht : P.underlying t = some (.slice e)) (hi : P.info? e = some i)
    (ad : Addr) (n cap : Nat) (hnc : n ≤ cap) (p : Option Addr) (c : Nat) (hs : a.eval s = .slice (some ad) n cap) (hx : a.eval x = .slice p 0 c)
    (h : wpList P ops Q rest (a.put o.dst (.slice (some ad) n cap)) w) : wpList P ops Q (o :: rest) a w := by
  refine wpList_plain hgd fun K hK => ?_
  have hrun := run_append_zero (P := P) (w := w) t o.type e i ht hi ad n cap hnc p c
  unfold Oper.wp
  simp [execOp, ho, resolve, invoke, builtin, hs, hx, hrun, Result.andThen]
  exact hK _ _ h

theorem step_append_zero {P : Program} {w : World} {ops : Array Oper} {o : Oper} {a : Act} {K : Act → World → Prop} {Q : Exit → Act → World → Prop} {E : Prop} (hgd : o.guard = none) (s x : Operand) (t : TypeId)
    (ho : o.op = .call { callee := .builtin .append, args := #[s, x], argTypes := #[t, t] })
    (e : TypeId) (i : TypeInfo) (ht : P.underlying t = some (.slice e)) (hi : P.info? e = some i)
    (ad : Addr) (n cap : Nat) (hnc : n ≤ cap) (p : Option Addr) (c : Nat) (hs : a.eval s = .slice (some ad) n cap) (hx : a.eval x = .slice p 0 c)
    (h : K (a.put o.dst (.slice (some ad) n cap)) w) : if Region.wanted o (yielded ops a.tmps) = true then Oper.wp P o a w K Q else E := by
  have hw : Region.wanted o (yielded ops a.tmps) = true := by simp [Region.wanted, hgd]
  rw [if_pos hw]
  have hrun := run_append_zero (P := P) (w := w) t o.type e i ht hi ad n cap hnc p c
  unfold Oper.wp
  simp [execOp, ho, resolve, invoke, builtin, hs, hx, hrun, Result.andThen]
  exact h
theorem step_call {P : Program} {w : World} {ops : Array Oper} {o : Oper} {a : Act} {K : Act → World → Prop} {Q : Exit → Act → World → Prop} {E : Prop} (hgd : o.guard = none) (f : FuncId) (xs : Array Operand) (ts : Array TypeId)
    (ho : o.op = .call { callee := .value (.func f), args := xs, argTypes := ts }) {fn : Func} {c : Code} (hf : P.funcs[f]? = some fn) (hname : (fn.name == "runtime.NumGoroutine") = false) (hb : fn.body = some c)
    (vals : Array Value) (hv : xs.map a.eval = vals) {R : Ending → World → Prop} (hC : Calls P f vals w R) (h : ∀ e w', R e w' → ∃ v, e = .returned v ∧ K (a.put o.dst v) w') : if Region.wanted o (yielded ops a.tmps) = true then Oper.wp P o a w K Q else E := by
  have hw : Region.wanted o (yielded ops a.tmps) = true := by simp [Region.wanted, hgd]
  rw [if_pos hw]
  have hrun := Go.MuLone.run_callFunc_enter (P := P) hf hname hb vals w
  have hx : (execOp a.eval o).run P w = .ok (.enter f vals) w := by
    subst hv
    simp [execOp, ho, resolve, invoke, Deferred.ofValue, Act.eval, hrun]
  unfold Oper.wp
  rw [hx, Oper.upon_enter]
  refine hC.mono (fun e w' hr => ?_)
  obtain ⟨v, rfl, hk⟩ := h e w' hr
  exact hk
theorem step_call2 {P : Program} {w : World} {ops : Array Oper} {o : Oper} {a : Act} {K : Act → World → Prop} {Q : Exit → Act → World → Prop} {E : Prop} (hgd : o.guard = none) (f : FuncId) (x1 x2 : Operand) (ts : Array TypeId)
    (ho : o.op = .call { callee := .value (.func f), args := #[x1, x2], argTypes := ts }) {fn : Func} {c : Code} (hf : P.funcs[f]? = some fn) (hname : (fn.name == "runtime.NumGoroutine") = false) (hb : fn.body = some c)
    (v1 v2 : Value) (h1 : a.eval x1 = v1) (h2 : a.eval x2 = v2) {R : Ending → World → Prop} (hC : Calls P f #[v1, v2] w R) (h : ∀ e w', R e w' → ∃ v, e = .returned v ∧ K (a.put o.dst v) w') : if Region.wanted o (yielded ops a.tmps) = true then Oper.wp P o a w K Q else E :=
  step_call hgd f #[x1, x2] ts ho hf hname hb #[v1, v2] (by simp [h1, h2]) hC h
structure QInv (w wr : World) (a b : Nat) (nS vS : Value) (nvs vvs : List Value) : Prop where
  below : Below w.heap.size w wr
  nrow : wr.ownsRow w.heap.size PT 1 nS a nvs
  vrow : wr.ownsRow w.heap.size PT 1 vS b vvs
  apart : ∀ r, nS.ownBlock = some r → vS.ownBlock ≠ some r
theorem own_zero (w : World) (e : TypeId) {base : Nat} (h : base ≤ w.heap.size) : (w.alloc (.cells #[] e)).ownsRow base e 1 (.slice (some ⟨w.heap.size, 0, none⟩) 0 0) 0 [] :=
  ⟨rfl, .inr ⟨w.heap.size, 0, #[], rfl, h, heap_alloc_new _ _, Nat.le_refl _, by unfold maxLen; omega, rfl, rfl⟩⟩
theorem QInv.start (w : World) : Hid (QInv w ((w.alloc (.cells #[] PT)).alloc (.cells #[] PT)) 0 0 (.slice (some ⟨w.heap.size, 0, none⟩) 0 0) (.slice (some ⟨w.heap.size + 1, 0, none⟩) 0 0) [] []) := by
  have e : (w.alloc (.cells #[] PT)).heap.size = w.heap.size + 1 := by simp
  refine QInv.mk (((Below.refl _ _).alloc (Nat.le_refl _) _).alloc (by simp) _) ((own_zero w PT (Nat.le_refl _)).alloc _) ?_ (fun r h => by simp [Value.ownBlock] at h ⊢; omega)
  rw [← e]
  exact own_zero _ PT (by simp)
theorem kept_apart {a b : World} {base : Nat} {v x : Value} {n : Nat} {vs : List Value} (h : a.ownsRow base PT 1 v n vs) (hg : a.grownBy b x.ownBlock) (hap : ∀ r, v.ownBlock = some r → x.ownBlock ≠ some r) : b.ownsRow base PT 1 v n vs := by
  refine ⟨h.1, ?_⟩
  rcases h.2 with hn | ⟨g, cap, cur, hv, h0, hx, rest⟩
  · exact .inl hn
  · refine .inr ⟨g, cap, cur, hv, h0, ?_, rest⟩
    rw [hg.block g (lt_of_some hx) (fun e => hap g (by rw [hv]; rfl) e.symm)]; exact hx
theorem QInv.pushN {w wr w3 : World} {a b : Nat} {nS vS : Value} {nvs vvs : List Value} (h : QInv w wr a b nS vS nvs vvs) {o : Obj} {g' cap' : Nat} {u : Value}
    (hown : w3.ownsRow w.heap.size PT 1 (.slice (some ⟨g', 0, none⟩) (a + 1) cap') (a + 1) (nvs ++ [u])) (hg : (wr.alloc o).grownBy w3 nS.ownBlock) (hat : nS.ownBlock = some g' ∨ g' = wr.heap.size + 1) :
    QInv w w3 (a + 1) b (.slice (some ⟨g', 0, none⟩) (a + 1) cap') vS (nvs ++ [u]) vvs := by
  have hrl := h.nrow.lt
  refine ⟨?_, hown, kept_apart (h.vrow.alloc o) hg (fun r hr e => h.apart r e hr), ?_⟩
  · refine (h.below.alloc h.below.size o).grown hg ?_ ?_
    · have := h.below.size; simp; omega
    · intro k hk; have := (hrl k hk).1; omega
  · intro r hr
    simp only [Value.ownBlock, Option.some.injEq] at hr
    subst hr
    rcases hat with h1 | h1
    · exact h.apart _ h1
    · intro e
      have := (h.vrow.lt _ e).2
      omega
theorem QInv.pushV {w wr w3 : World} {a b : Nat} {nS vS : Value} {nvs vvs : List Value} (h : QInv w wr a b nS vS nvs vvs) {o : Obj} {g' cap' : Nat} {u : Value}
    (hown : w3.ownsRow w.heap.size PT 1 (.slice (some ⟨g', 0, none⟩) (b + 1) cap') (b + 1) (vvs ++ [u])) (hg : (wr.alloc o).grownBy w3 vS.ownBlock) (hat : vS.ownBlock = some g' ∨ g' = wr.heap.size + 1) :
    QInv w w3 a (b + 1) nS (.slice (some ⟨g', 0, none⟩) (b + 1) cap') nvs (vvs ++ [u]) := by
  have hrl := h.vrow.lt
  refine ⟨?_, kept_apart (h.nrow.alloc o) hg h.apart, hown, ?_⟩
  · refine (h.below.alloc h.below.size o).grown hg ?_ ?_
    · have := h.below.size; simp; omega
    · intro k hk; have := (hrl k hk).1; omega
  · intro r hr e
    simp only [Value.ownBlock, Option.some.injEq] at e
    subst e
    rcases hat with h1 | h1
    · exact h.apart _ hr h1
    · have := (h.nrow.lt _ hr).2
      omega
theorem own_down {w : World} {base : Nat} {v : Value} {n : Nat} {vs : List Value} (h : w.ownsRow base PT 1 v n vs) : w.ownsRow 0 PT 1 v n vs := ⟨h.1, h.2.imp id (fun ⟨g, cap, cur, a, _, c⟩ => ⟨g, cap, cur, a, Nat.zero_le _, c⟩)⟩
theorem own_one2 (w : World) (e : TypeId) {base : Nat} (h : base ≤ w.heap.size) (u : Value) : (w.alloc (.cells #[u] e)).ownsRow base e 1 (.slice (some ⟨w.heap.size, 0, none⟩) 1 1) 1 [u] :=
  ⟨rfl, .inr ⟨w.heap.size, 1, #[u], rfl, h, heap_alloc_new _ _, Nat.le_refl _, by unfold maxLen; omega, rfl, rfl⟩⟩
/- A row of the call's own stands for a list. -/
theorem own_rep {M : Nat → Prop} {n : Nat} {w : World} {base : Nat} {v : Value} {vs : List Value} {ts : List Tr} (hM : ∀ k, M k → k < base) (h : AllD M n w vs ts) (hr : w.ownsRow base PT 1 v ts.length vs) (hl : ts.length ≤ 1000) : RepP (fun k => ¬ M k) (n + 1) w (.iface 115 v) (.agg ts) :=
  ⟨v, vs, rfl, fun r hr' hm => by have := (hr.lt r hr').1; have := hM r hm; omega, own_down hr, h.2, hl⟩
theorem own_drow {M : Nat → Prop} {w : World} {base : Nat} {v : Value} {vs : List Value} {n : Nat} (hM : ∀ k, M k → k < base) (hr : w.ownsRow base PT 1 v n vs) : DRow M w v vs := by
  have hl : vs.length = n := hr.1.trans (Nat.mul_one _)
  refine ⟨by simp, ?_⟩
  rcases hr.2 with ⟨hv, h0⟩ | ⟨g, cap, cur, hv, hge, hg, hc, _, _, ht⟩
  · exact ⟨none, 0, by rw [hl, h0]; exact hv, by omega, .inl (by omega)⟩
  · refine ⟨some ⟨g, 0, none⟩, cap, by rw [hl]; exact hv, by omega, .inr ⟨g, 0, cur, rfl, fun x => by have := hM g x; omega, hg, ?_⟩⟩
    intro i u hu
    rw [Nat.zero_add]
    rw [← ht, List.getElem?_take] at hu
    split at hu
    · simpa using hu
    · cases hu
theorem rep_lambda {M : Nat → Prop} {n : Nat} {w : World} {nv bv : Value} {ns bd : Tr} (hM : ∀ k, M k → k < w.heap.size) (hn : RepP (fun k => ¬ M k) n w nv ns) (hb : RepP (fun k => ¬ M k) n w bv bd) (o : Obj) (ho : o = .cells #[.iface 117 (.string ⟨#[108, 97, 109, 98, 100, 97]⟩), nv, bv] PT (0, 0)) :
    RepP (fun k => ¬ M k) (n + 1) (w.alloc o) (.iface 115 (.slice (some ⟨w.heap.size, 0, none⟩) 3 3)) (.agg [.lit (.string Pl.lambdaW), ns, bd]) := by
  have hlt : Below w.heap.size w (w.alloc o) := bel1 w o
  refine ⟨_, [.iface 117 (.string ⟨#[108, 97, 109, 98, 100, 97]⟩), nv, bv], rfl, fun r hr hm => by simp [Value.ownBlock] at hr; subst hr; have := hM _ hm; omega, ⟨rfl, .inr ⟨w.heap.size, 3, _, rfl, Nat.zero_le _, by rw [ho]; exact heap_alloc_new _ _, by simp, by simp [maxLen], rfl, rfl⟩⟩, ?_, by simp⟩
  intro i u x hu hx
  match i, hu, hx with
  | 0, hu, hx =>
    simp only [List.getElem?_cons_zero, Option.some.injEq] at hu hx
    subst hu hx
    cases n with
    | zero => exact hn.elim
    | succ n => rfl
  | 1, hu, hx =>
    simp at hu hx
    subst hu hx
    exact hn.go (Stp.of_below hlt)
  | 2, hu, hx =>
    simp at hu hx
    subst hu hx
    exact hb.go (Stp.of_below hlt)
  | _ + 3, hu, _ => simp at hu
theorem tsz_stab {ok : Nat → Prop} {w : World} : ∀ (n m : Nat) (v : Value) (t : Tr), RepP ok n w v t → n ≤ m → Pl.tsz m t = Pl.tsz n t
  | 0, _, _, _, h, _ => h.elim
  | _ + 1, 0, _, _, _, h => by omega
  | n + 1, m + 1, v, t, h, hm => by
    match t, h with
    | .lit (.int _ _), _ => rfl
    | .lit (.bool _), _ => rfl
    | .lit (.string _), _ => rfl
    | .agg ts, h =>
      obtain ⟨sl, vs, _, _, h3, h4, _⟩ := h
      show (ts.map (Pl.tsz m)).sum = (ts.map (Pl.tsz n)).sum
      congr 1
      apply List.map_congr_left
      intro x hx
      obtain ⟨i, hi⟩ := List.mem_iff_getElem?.1 hx
      have hl : vs.length = ts.length := h3.1.trans (Nat.mul_one _)
      have hlt := (List.getElem?_eq_some_iff.1 hi).1
      exact tsz_stab n m _ x (h4 i vs[i] x (List.getElem?_eq_getElem (by omega)) hi) (by omega)
theorem let_seq (o : Option Pl.PF) (f : Tr → Option Pl.PF) (ts : List Tr) (b : Nat) : (Pl.seqL (Pl.fmF o :: ts.map fun t => Pl.fmF (f t)) b).map (fun r => (Pl.mkF .call [] .nil r.1 [], r.2)) = Pl.fmF (o.bind fun h => (Pl.allF f ts).map fun r => Pl.mkF .call [] .nil (h :: r) []) b := by
  simp only [Pl.seqL]
  cases o with
  | none => rfl
  | some h =>
    simp only [Pl.fmF, Option.map_some, Option.bind_some]
    rw [Pl.seqL_eq]
    cases Pl.allF f ts with
    | none => rfl
    | some l => simp [Pl.mkF, Pl.settle_other, Pl.settleL_cons]
def LamSaid (n : Nat) : Prop := ∀ (M : Nat → Prop) (w : World) (v : Value) (a b : Tr), RepP (fun k => ¬ M k) (n + 1) w v (.agg [.lit (.string Pl.lambdaW), a, b]) → bigT n a → bigT n b → FCall M w v (Pl.fmF (Pl.lamF (Pl.formOf n) a b)) (Pl.tsz n a + Pl.tsz n b)
theorem isPair_no {x : Tr} (h : ¬ ∃ a b, x = .agg [a, b]) : Pl.isPair x = false := by
  unfold Pl.isPair
  split
  · exact absurd ⟨_, _, rfl⟩ h
  · rfl
theorem let2F_not {f : Tr → Option Pl.PF} {ts : List Tr} (h : ¬ ts.length = 2) : Pl.let2F f ts = none := by
  match ts, h with
  | [], _ => rfl
  | [_], _ => rfl
  | _ :: _ :: _ :: _, _ => rfl
theorem letF_bad {f : Tr → Option Pl.PF} {l : List Tr} {b : Tr} (h : l.all Pl.isPair = false) : Pl.letF f (.agg l) b = none := by
  simp [Pl.letF, h]
theorem letF_nolist {f : Tr → Option Pl.PF} {p b : Tr} (h : ¬ ∃ l, p = .agg l) : Pl.letF f p b = none := by
  unfold Pl.letF
  split
  · exact absurd ⟨_, rfl⟩ h
  · rfl
theorem letF_ok {f : Tr → Option Pl.PF} {l : List Tr} {b : Tr} (h : l.all Pl.isPair = true) : Pl.letF f (.agg l) b = (Pl.lamF f (.agg (l.map Pl.fstOf)) b).bind fun h => (Pl.allF f (l.map Pl.sndOf)).map fun r => Pl.mkF .call [] .nil (h :: r) [] := by
  simp [Pl.letF, h]
/- The words of a let's parts. -/
theorem let_words {ok : Nat → Prop} {w : World} {m : Nat} {vs : List Value} : ∀ {l : List Tr}, All2 (RepP ok (m + 1) w) vs l → l.all Pl.isPair = true → ((l.map Pl.fstOf).map (Pl.tsz (m + 1))).sum + ((l.map Pl.sndOf).map (Pl.tsz (m + 1 + 1))).sum = (l.map (Pl.tsz (m + 1))).sum := by
  intro l hA hp
  induction l generalizing vs with
  | nil => rfl
  | cons x r ih =>
    match vs, hA with
    | [], hA => have := hA.1; simp at this
    | v :: vs, hA =>
      simp only [List.all_cons, Bool.and_eq_true] at hp
      have ht : All2 (RepP ok (m + 1) w) vs r := ⟨by have := hA.1; simpa using this, fun i u y hu hy => hA.2 (i + 1) u y (by simpa using hu) (by simpa using hy)⟩
      have h0 := hA.2 0 v x rfl rfl
      have := ih ht hp.2
      obtain ⟨a, b, rfl⟩ : ∃ a b, x = .agg [a, b] := by
        unfold Pl.isPair at hp
        split at hp
        · exact ⟨_, _, rfl⟩
        · simp at hp
      obtain ⟨sl, us, _, _, h3, h4, _⟩ := h0
      have hl : us.length = 2 := h3.1.trans (Nat.mul_one _)
      obtain ⟨u1, u2, rfl⟩ := two_of hl
      have ra := h4 0 u1 a rfl rfl
      have rb := h4 1 u2 b rfl rfl
      have e1 := tsz_stab m (m + 1) u1 a ra (by omega)
      have e2 := tsz_stab m (m + 1 + 1) u2 b rb (by omega)
      simp only [List.map_cons, List.sum_cons, Pl.fstOf, Pl.sndOf, e1, e2]
      show _ = ([a, b].map (Pl.tsz m)).sum + _
      simp only [List.map_cons, List.map_nil, List.sum_cons, List.sum_nil]
      omega
theorem let_big {M : Nat → Prop} {w : World} {m : Nat} {vs : List Value} {l : List Tr} (hA : AllD M m w vs l) (hB : ∀ x ∈ l, bigT m x) (hp : l.all Pl.isPair = true) (q : Nat) : (∀ a ∈ l.map Pl.fstOf, bigT q a) ∧ (∀ a ∈ l.map Pl.sndOf, bigT q a) := by
  have key : ∀ x ∈ l, ∃ a b, x = .agg [a, b] ∧ bigT q a ∧ bigT q b := by
    intro x hx
    obtain ⟨i, hi⟩ := List.mem_iff_getElem?.1 hx
    obtain ⟨u, _, hr⟩ := hA.at_ hi
    have hb := bigT_up m (q + 1) u x hr (hB x hx)
    have hpx := List.all_eq_true.1 hp x hx
    unfold Pl.isPair at hpx
    split at hpx
    · next a b => exact ⟨a, b, rfl, hb a (by simp), hb b (by simp)⟩
    · simp at hpx
  constructor
  · intro a ha
    obtain ⟨x, hx, rfl⟩ := List.mem_map.1 ha
    obtain ⟨a, b, rfl, h1, _⟩ := key x hx
    exact h1
  · intro a ha
    obtain ⟨x, hx, rfl⟩ := List.mem_map.1 ha
    obtain ⟨a, b, rfl, _, h2⟩ := key x hx
    exact h2
theorem let_sum {M : Nat → Prop} {w : World} {m : Nat} {vs : List Value} {l : List Tr} {bd : Tr} (hA : AllD M m w vs l) (hp : l.all Pl.isPair = true) : ((Pl.tsz (m + 1) (.agg (l.map Pl.fstOf)) + Pl.tsz (m + 1) bd) :: (l.map Pl.sndOf).map (Pl.tsz (m + 1))).sum = Pl.tsz (m + 1) (.agg l) + Pl.tsz (m + 1) bd := by
  rw [List.sum_cons]
  show ((l.map Pl.fstOf).map (Pl.tsz m)).sum + _ + _ = (l.map (Pl.tsz m)).sum + _
  cases m with
  | zero =>
    cases l with
    | nil => simp
    | cons x r =>
      obtain ⟨u, _, h⟩ := hA.at_ (i := 0) (x := x) rfl
      exact h.elim
  | succ m =>
    have := let_words hA hp
    omega
theorem FmQ.from_ {M : Nat → Prop} {w wz : World} {s : Sg} {tb mb : Nat} {ps : List (Pl.PV × Pl.PV)} {o : Pl.FR} {z : Nat} {v ev : Value} {w' : World} (h : FmQ M wz s tb mb ps o z v ev w') (hb : Below w.heap.size w wz) : FmQ M w s tb mb ps o z v ev w' := ⟨gm_trans (gm_below hb) h.1, h.2⟩
/- The call that a let is. -/
theorem let_call (m : Nat) (hF : FSaid (m + 1)) (hL : LamSaid (m + 1)) (M : Nat → Prop) (w wl : World) (s : Sg) (tb mb : Nat) (ps : List (Pl.PV × Pl.PV)) (l : List Tr) (bd : Tr) (bs : List Value) (lv : Value) (vvs : List Value) (hR : Rdr M w s tb mb ps) (hb : Below w.heap.size w wl) (hA : AllD M m w bs l) (hB : ∀ x ∈ l, bigT m x) (hBd : bigT (m + 1) bd) (hp : l.all Pl.isPair = true) (hlen : l.length ≤ 1000)
    (hlv : RepP (fun k => ¬ M k) (m + 1 + 1) wl lv (.agg [.lit (.string Pl.lambdaW), .agg (l.map Pl.fstOf), bd])) (hV : AllD M m w vvs (l.map Pl.sndOf)) (hz : s.ns.length + (Pl.tsz (m + 1) (.agg l) + Pl.tsz (m + 1) bd) ≤ NsMax) (o : Pl.FR) (ho : o = Pl.fmF (Pl.letF (Pl.formOf (m + 1)) (.agg l) bd) ps.length) :
    ∀ (wz : World) (slz : Value), Below wl.heap.size wl wz → DRow M wz slz (lv :: vvs) → Calls Tryz.prog 156 #[.agg #[.pointer (some ⟨tb, 0, none⟩)], slz] wz fun e w' => ∃ v ev, e = .returned (.tuple #[v, ev]) ∧ Hid (FmQ M w s tb mb ps o (Pl.tsz (m + 1) (.agg l) + Pl.tsz (m + 1) bd) v ev w') := by
  intro wz slz hbz hS
  have hbw : Below w.heap.size w wz := hb.trans (hbz.mono hb.size)
  obtain ⟨b1, b2⟩ := let_big hA hB hp m
  obtain ⟨_, b3⟩ := let_big hA hB hp (m + 1)
  have hvl : vvs.length = l.length := by have := hV.1; simpa using this
  have hsum := let_sum (bd := bd) hA hp
  have := p_call M wz s tb mb ps slz (lv :: vvs) (Pl.fmF (Pl.lamF (Pl.formOf (m + 1)) (.agg (l.map Pl.fstOf)) bd) :: (l.map Pl.sndOf).map fun t => Pl.fmF (Pl.formOf (m + 1) t)) ((Pl.tsz (m + 1) (.agg (l.map Pl.fstOf)) + Pl.tsz (m + 1) bd) :: (l.map Pl.sndOf).map (Pl.tsz (m + 1))) (hR.below hbw) hS (by simp [hvl]) (by simp) (by simp; omega) (by simp) (by rw [hsum]; exact hz) (fun v hv => by
      rcases List.mem_cons.1 hv with rfl | h
      · obtain ⟨T, x, e, _⟩ := hlv.iface; exact ⟨T, x, e⟩
      · exact hV.iface v h) (fun i v F z h1 h2 h3 => by
      cases i with
      | zero =>
        simp only [List.getElem?_cons_zero, Option.some.injEq] at h1 h2 h3
        subst h1 h2 h3
        exact hL M wz _ _ _ (hlv.go (Stp.of_below hbz)) b1 hBd
      | succ i =>
        rw [List.getElem?_cons_succ] at h1 h2 h3
        rw [List.getElem?_map, Option.map_eq_some_iff] at h2 h3
        obtain ⟨t, ht, rfl⟩ := h2
        obtain ⟨t', ht', rfl⟩ := h3
        rw [ht] at ht'
        obtain rfl := Option.some.inj ht'
        exact hF M wz v t (RepP.up _ _ _ _ (Nat.le_succ _) ((hV.2 i v t h1 ht).go (Stp.of_below hbw))) (b3 t (List.mem_of_getElem? ht))) o (by rw [let_seq, ho, letF_ok hp])
  rw [hsum] at this
  refine this.mono (fun e w' h => ?_)
  obtain ⟨v, ev, h1, h2⟩ := h.one
  exact ⟨v, ev, h1, h2.from_ hbw⟩
end Go.Proofs.YtkgbdddkcjpgfaaGreatDoor
