/- The reference's world, forms, frames and states in memory: what they stand for, and what a call may change. -/
import Derived.Test.YtkgbdddkcjpgfaaGreatDoorM07
import Derived.Test.YtkgbdddkcjpgfaaGreatDoorM08
import Derived.Deep.AppendLies
namespace Go.Proofs.YtkgbdddkcjpgfaaGreatDoor
open Go.RowKit

def TV : TypeId := 154
def TB : TypeId := 249
def TPa : TypeId := 263
def TPc : TypeId := 186
def TFrP : TypeId := 172
def TFr : TypeId := 176
def TFo : TypeId := 182
def TFP : TypeId := 69
def TSt : TypeId := 174
def TWd : TypeId := 96
def TS : TypeId := 9
theorem Tryz.infoV : (Tryz.prog.info? 154).map (fun i => (i.zero, i.size, i.bytes)) = some (some (.agg #[.string ⟨#[]⟩, .int .i64 0, .string ⟨#[]⟩]), 3, 40) := by kernel_rfl
theorem Tryz.infoB : (Tryz.prog.info? 249).map (fun i => (i.zero, i.size, i.bytes)) = some (some (.agg #[.string ⟨#[]⟩, .int .i64 0]), 2, 24) := by kernel_rfl
theorem Tryz.infoPa : (Tryz.prog.info? 263).map (fun i => (i.zero, i.size, i.bytes)) = some (some (.agg #[.string ⟨#[]⟩, .int .i64 0, .string ⟨#[]⟩, .string ⟨#[]⟩, .int .i64 0, .string ⟨#[]⟩]), 6, 80) := by kernel_rfl
theorem Tryz.infoPc : (Tryz.prog.info? 186).map (fun i => (i.zero, i.size, i.bytes)) = some (some (.agg #[.pointer none, .slice none 0 0]), 2, 32) := by kernel_rfl
theorem Tryz.infoFrP : (Tryz.prog.info? 172).map (fun i => (i.zero, i.size, i.bytes)) = some (some (.pointer none), 1, 8) := by kernel_rfl

def byV (s : Pl.Byt) : Value := .string ⟨s.toArray⟩
def kPair : Pl.Byt := [112, 97, 105, 114]
def kProc : Pl.Byt := [112, 114, 111, 99, 101, 100, 117, 114, 101]
def kCont : Pl.Byt := [99, 111, 110, 116, 105, 110, 117, 97, 116, 105, 111, 110]
def kPrim : Pl.Byt := [112, 114, 105, 109, 105, 116, 105, 118, 101]
def kEmp : Pl.Byt := [101, 109, 112, 116, 121]
def kNot : Pl.Byt := [110, 111, 116, 104, 105, 110, 103]
def kNu : Pl.Byt := [110, 117, 109, 98, 101, 114]
def kTr : Pl.Byt := [116, 114, 117, 116, 104]
def kNa : Pl.Byt := [110, 97, 109, 101]
/- A value's three parts. -/
def vK : Pl.PV → Pl.Byt
  | .num _ => kNu
  | .truth _ => kTr
  | .name _ => kNa
  | .empty => kEmp
  | .nothing => kNot
  | .pair _ => kPair
  | .proc _ => kProc
  | .cont _ => kCont
  | .prim _ => kPrim
def vN : Pl.PV → Int
  | .num n => n
  | .truth b => if b then 1 else 0
  | .pair n => n
  | .proc n => n
  | .cont n => n
  | _ => 0
def vS : Pl.PV → Pl.Byt
  | .name s => s
  | .prim s => s
  | _ => []
def encV (v : Pl.PV) : List Value := [byV (vK v), .int .i64 (vN v), byV (vS v)]
def aggV (v : Pl.PV) : Value := .agg #[byV (vK v), .int .i64 (vN v), byV (vS v)]
def encB (b : Pl.Byt × Nat) : List Value := [byV b.1, .int .i64 b.2]
def encP (p : Pl.PV × Pl.PV) : List Value := encV p.1 ++ encV p.2
/- A slice whose elements are of so many cells. -/
def Sl (M : Nat → Prop) (w : World) (T : TypeId) (sz : Nat) (v : Value) (n : Nat) (xs : List Value) : Prop :=
  xs.length = n * sz ∧ ∃ ao cap, v = .slice ao n cap ∧ n ≤ cap ∧ (n = 0 ∨ ∃ g off cur, ao = some ⟨g, off, none⟩ ∧ ¬ M g ∧ w.heap[g]? = some (.cells cur T (0, 0)) ∧ ∀ (i : Nat) (u : Value), xs[i]? = some u → cur[off + i]? = some u)
def EnvAt (M : Nat → Prop) (w : World) (v : Value) (env : Pl.Env) : Prop := Sl M w TB 2 v env.length (env.flatMap encB)
def GotAt (M : Nat → Prop) (w : World) (v : Value) (l : List Pl.PV) : Prop := Sl M w TV 3 v l.length (l.flatMap encV)
/- Forms that are settled. -/
def fkS : Pl.FK → Pl.Byt
  | .const => [99, 111, 110, 115, 116]
  | .name => kNa
  | .iff => Pl.ifW
  | .set => Pl.setW
  | .define => Pl.defineW
  | .lambda => Pl.lambdaW
  | .begin => Pl.beginW
  | .call => [99, 97, 108, 108]
def shape : Pl.FK → Nat → Prop
  | .const, n => n = 0
  | .name, n => n = 0
  | .iff, n => n = 3
  | .set, n => n = 1
  | .define, n => n = 1
  | .lambda, n => n = 1
  | .begin, n => 1 ≤ n
  | .call, n => 1 ≤ n
def RepS : Nat → World → Value → Pl.PF → Prop
  | 0, _, _, _ => False
  | n + 1, w, v, .mk k nm d pv ks ns => ∃ b dv kv nv c0 c1 c2 us, v = .pointer (some ⟨b, 0, none⟩) ∧
      w.heap[b]? = some (.cells #[byV (fkS k), byV nm, dv, kv, nv, c0, c1, c2] TFo (0, 0)) ∧
      w.ownsRow 0 TFP 1 kv ks.length us ∧ (∀ (i : Nat) (u : Value) (x : Pl.PF), us[i]? = some u → ks[i]? = some x → RepS n w u x) ∧
      w.ownsRow 0 TS 1 nv ns.length (ns.map byV) ∧ (k = .const → [c0, c1, c2] = encV pv ∧ ∃ m, RepR (fun _ => True) m w dv d) ∧ shape k ks.length ∧ ks.length ≤ 1000 ∧ ns.length ≤ 1000
def RF (w : World) (v : Value) (f : Pl.PF) : Prop := ∃ n, RepS n w v f
def FrAt (M : Nat → Prop) (w : World) : Value → List Pl.PFr → Prop
  | v, [] => v = .pointer none
  | v, f :: r => ∃ b fv gv ev up, v = .pointer (some ⟨b, 0, none⟩) ∧ w.heap[b]? = some (.cells #[fv, gv, .int .i64 f.pos, ev, up, .int .i64 (r.length + 1 : Nat)] TFr (0, 0)) ∧
      RF w fv f.form ∧ GotAt M w gv f.got ∧ EnvAt M w ev f.env ∧ FrAt M w up r

/- Blocks that are never written again, by their kinds. -/
def imT (e : TypeId) : Prop := e = TD ∨ e = TP ∨ e = TFo ∨ e = TFP ∨ e = TS ∨ e = TFr
def KeepI (w w' : World) : Prop := ∀ (k : Nat) (cur : Array Value) (e : TypeId), imT e → w.heap[k]? = some (.cells cur e (0, 0)) → w'.heap[k]? = some (.cells cur e (0, 0))
/- What a call has changed: new blocks, and those of M. -/
structure Stp (M : Nat → Prop) (w : World) (M' : Nat → Prop) (w' : World) : Prop where
  os : w'.os = w.os
  tape : w'.tape = w.tape
  output : w'.output = w.output
  size : w.heap.size ≤ w'.heap.size
  block : ∀ k, k < w.heap.size → ¬ M k → w'.heap[k]? = w.heap[k]? ∧ ¬ M' k
theorem Stp.refl (M : Nat → Prop) (w : World) : Stp M w M w := ⟨rfl, rfl, rfl, Nat.le_refl _, fun _ _ h => ⟨rfl, h⟩⟩
theorem Stp.trans {M1 M2 M3 : Nat → Prop} {a b c : World} (h : Stp M1 a M2 b) (k : Stp M2 b M3 c) : Stp M1 a M3 c :=
  ⟨k.os.trans h.os, k.tape.trans h.tape, k.output.trans h.output, Nat.le_trans h.size k.size, fun i hi hn => by
    obtain ⟨h1, h2⟩ := h.block i hi hn
    obtain ⟨h3, h4⟩ := k.block i (Nat.lt_of_lt_of_le hi h.size) h2
    exact ⟨h3.trans h1, h4⟩⟩
theorem Stp.of_below {M : Nat → Prop} {w w' : World} (h : Below w.heap.size w w') : Stp M w M w' := ⟨h.os, h.tape, h.output, h.size, fun k hk hn => ⟨h.block k hk, hn⟩⟩
theorem Stp.of_grown {M : Nat → Prop} {w w' : World} {row : Option Nat} (h : w.grownBy w' row) (hr : ∀ k, row = some k → M k) : Stp M w M w' :=
  ⟨h.os, h.tape, h.output, h.size, fun k hk hn => ⟨h.block k hk (fun e => hn (hr k e.symm)), hn⟩⟩
/- No block of M is of a kind that is never written. -/
def Mty (M : Nat → Prop) (w : World) : Prop := ∀ k cur e, M k → w.heap[k]? = some (.cells cur e (0, 0)) → ¬ imT e
theorem Stp.keepI {M M' : Nat → Prop} {w w' : World} (h : Stp M w M' w') (ht : Mty M w) : KeepI w w' := fun k cur e hi hb =>
  (h.block k (lt_of_some hb) (fun hm => ht k cur e hm hb hi)).1.trans hb
theorem KeepI.keepD {w w' : World} (h : KeepI w w') : KeepD (fun _ => True) w w' := fun k cur e _ ht hb => h k cur e (ht.elim .inl (fun x => .inr (.inl x))) hb
theorem ownsRow_keepI {w w' : World} {v : Value} {n : Nat} {xs : List Value} {T : TypeId} (hk : KeepI w w') (ht : imT T) (h : w.ownsRow 0 T 1 v n xs) : w'.ownsRow 0 T 1 v n xs := by
  refine ⟨h.1, ?_⟩
  rcases h.2 with hn | ⟨g, cap, cur, rfl, hb, hg, rest⟩
  · exact .inl hn
  · exact .inr ⟨g, cap, cur, rfl, hb, hk g cur T ht hg, rest⟩
theorem RepS.keep {w w' : World} (hk : KeepI w w') : ∀ (n : Nat) (v : Value) (f : Pl.PF), RepS n w v f → RepS n w' v f
  | 0, _, _, h => h
  | n + 1, v, .mk k nm d pv ks ns, h => by
    obtain ⟨b, dv, kv, nv, c0, c1, c2, us, hv, hb, h1, h2, h3, h4, h5⟩ := h
    exact ⟨b, dv, kv, nv, c0, c1, c2, us, hv, hk b _ _ (.inr (.inr (.inl rfl))) hb, ownsRow_keepI hk (.inr (.inr (.inr (.inl rfl)))) h1, fun i u x hu hx => RepS.keep hk n u x (h2 i u x hu hx),
      ownsRow_keepI hk (.inr (.inr (.inr (.inr (.inl rfl))))) h3, fun e => ⟨(h4 e).1, (h4 e).2.elim fun m hm => ⟨m, RepR.keep hk.keepD _ _ _ hm⟩⟩, h5⟩
theorem RF.keep {w w' : World} (hk : KeepI w w') {v : Value} {f : Pl.PF} (h : RF w v f) : RF w' v f := h.elim fun n hn => ⟨n, RepS.keep hk n v f hn⟩
theorem Sl.stp {M M' : Nat → Prop} {w w' : World} {T : TypeId} {sz : Nat} {v : Value} {n : Nat} {xs : List Value} (h : Stp M w M' w') (hs : Sl M w T sz v n xs) : Sl M' w' T sz v n xs := by
  obtain ⟨h0, ao, cap, rfl, h2, h3⟩ := hs
  refine ⟨h0, ao, cap, rfl, h2, h3.imp id ?_⟩
  rintro ⟨g, off, cur, rfl, hm, hg, hc⟩
  obtain ⟨e1, e2⟩ := h.block g (lt_of_some hg) hm
  exact ⟨g, off, cur, rfl, e2, e1.trans hg, hc⟩
theorem FrAt.stp {M M' : Nat → Prop} {w w' : World} (h : Stp M w M' w') (ht : Mty M w) : ∀ (v : Value) (l : List Pl.PFr), FrAt M w v l → FrAt M' w' v l
  | _, [], hf => hf
  | _, _ :: r, hf => by
    obtain ⟨b, fv, gv, ev, up, hv, hb, h1, h2, h3, h4⟩ := hf
    exact ⟨b, fv, gv, ev, up, hv, h.keepI ht b _ _ (.inr (.inr (.inr (.inr (.inr rfl))))) hb, h1.keep (h.keepI ht), h2.stp h, h3.stp h, FrAt.stp h ht up r h4⟩

/- Whole numbers that the world has. -/
def WfV (W : Pl.PW) : Pl.PV → Prop
  | .num n => n.natAbs ≤ Pl.big
  | .pair i => i < W.pairs.length
  | .proc i => i < W.procs.length
  | .cont i => i < W.conts.length
  | .prim s => s ∈ Pl.prims
  | .name s => s.length ≤ 300
  | _ => True
def WfE (W : Pl.PW) (env : Pl.Env) : Prop := ∀ b ∈ env, b.2 < W.places.length
end Go.Proofs.YtkgbdddkcjpgfaaGreatDoor

/- The reference's find. -/
namespace Go.Proofs.YtkgbdddkcjpgfaaGreatDoor
open Go.RowKit

def placeI : Option Nat → Int
  | some k => k
  | none => -1
theorem placeI_some (k : Nat) : placeI (some k) = k := rfl
theorem flat2_get {α : Type} (f : α → List Value) (sz : Nat) (hf : ∀ a, (f a).length = sz) (l : List α) (i j : Nat) (a : α) (hi : l[i]? = some a) (hj : j < sz) : (l.flatMap f)[i * sz + j]? = (f a)[j]? := by
  induction l generalizing i with
  | nil => simp at hi
  | cons x l ih =>
    simp only [List.flatMap_cons]
    cases i with
    | zero =>
      simp only [List.getElem?_cons_zero, Option.some.injEq] at hi
      subst hi
      rw [List.getElem?_append_left (by rw [hf]; omega)]
      simp
    | succ i =>
      rw [List.getElem?_append_right (by rw [hf, Nat.add_mul]; omega), hf]
      rw [show (i + 1) * sz + j - sz = i * sz + j from by rw [Nat.add_mul]; omega]
      exact ih i (by simpa using hi)
theorem Sl.cell {M : Nat → Prop} {w : World} {T : TypeId} {sz : Nat} {ao : Option Addr} {n cap : Nat} {xs : List Value} (h : Sl M w T sz (.slice ao n cap) n xs) (hn : 0 < n) : ∃ g off, ao = some ⟨g, off, none⟩ ∧ g < w.heap.size ∧ ¬ M g ∧ ∀ (i : Nat) (u : Value), xs[i]? = some u → w.cell? ⟨g, off + i, none⟩ = some u := by
  obtain ⟨_, ao', cap', e, _, h3⟩ := h
  simp only [Value.slice.injEq, true_and] at e
  obtain ⟨rfl, rfl⟩ := e
  rcases h3 with h3 | ⟨g, off, cur, rfl, hm, hg, hc⟩
  · omega
  · exact ⟨g, off, rfl, lt_of_some hg, hm, fun i u hu => (cells_at hg _).trans (hc i u hu)⟩
theorem Sl.shape {M : Nat → Prop} {w : World} {T : TypeId} {sz : Nat} {v : Value} {n : Nat} {xs : List Value} (h : Sl M w T sz v n xs) : ∃ ao cap, v = .slice ao n cap ∧ n ≤ cap := by
  obtain ⟨_, ao, cap, e, hc, _⟩ := h
  exact ⟨ao, cap, e, hc⟩
theorem ownsRow_sl {w : World} {T : TypeId} {sz : Nat} {v : Value} {n : Nat} {xs : List Value} (h : w.ownsRow 0 T sz v n xs) : Sl (fun _ => False) w T sz v n xs := by
  refine ⟨h.1, ?_⟩
  rcases h.2 with ⟨rfl, rfl⟩ | ⟨g, cap, cur, rfl, _, hg, hc, _, hs, ht⟩
  · exact ⟨none, 0, rfl, Nat.le_refl _, .inl rfl⟩
  · refine ⟨some ⟨g, 0, none⟩, cap, rfl, hc, .inr ⟨g, 0, cur, rfl, id, hg, fun i u hu => ?_⟩⟩
    rw [Nat.zero_add]
    rw [← ht, List.getElem?_take] at hu
    split at hu
    · simpa using hu
    · simp at hu
theorem enc_bind (env : Pl.Env) (i : Nat) (b : Pl.Byt × Nat) (h : env[i]? = some b) : (env.flatMap encB)[i * 2]? = some (byV b.1) ∧ (env.flatMap encB)[i * 2 + 1]? = some (.int .i64 b.2) :=
  ⟨flat2_get encB 2 (fun _ => rfl) env i 0 b h (by decide), flat2_get encB 2 (fun _ => rfl) env i 1 b h (by decide)⟩
theorem find_hit (env : Pl.Env) (s : Pl.Byt) (i : Nat) (b : Pl.Byt × Nat) (h : env[i]? = some b) (hd : Pl.find (env.drop (i + 1)) s = none) (he : b.1 = s) : Pl.find env s = some b.2 := by
  have h1 : env = env.take i ++ (b :: env.drop (i + 1)) := by
    have hi := (List.getElem?_eq_some_iff.1 h).1
    have hb := (List.getElem?_eq_some_iff.1 h).2
    rw [← hb, List.getElem_cons_drop, List.take_append_drop]
  rw [h1, Pl.find_append]
  simp [Pl.find, hd, he]
theorem find_miss (env : Pl.Env) (s : Pl.Byt) (i : Nat) (b : Pl.Byt × Nat) (h : env[i]? = some b) (hd : Pl.find (env.drop (i + 1)) s = none) (he : ¬ b.1 = s) : Pl.find (env.drop i) s = none := by
  have hi := (List.getElem?_eq_some_iff.1 h).1
  have hb := (List.getElem?_eq_some_iff.1 h).2
  rw [← List.getElem_cons_drop hi, hb]
  simp [Pl.find, hd, he]

set_option maxHeartbeats 1000000 in
set_option maxRecDepth 100000 in
theorem ref_find (M : Nat → Prop) (w : World) (v : Value) (env : Pl.Env) (s : Pl.Byt) (h : EnvAt M w v env) (hl : env.length ≤ 4611686018427387904) :
    Calls Tryz.prog 124 #[v, .string ⟨s.toArray⟩] w fun e w' => e = .returned (.int .i64 (placeI (Pl.find env s))) ∧ w = w' := by
  obtain ⟨ao, cap, rfl, hcap⟩ := h.shape
  have H := (show Hid (EnvAt M w _ env) from h)
  clear h
  go_enter Tryz.func124, Tryz.ntmps124
  go_wp2_with fail
  go_loopw [5] (fun i wr => ∃ k : Nat, k ≤ env.length ∧ i = .int .i64 ((k : Int) - 1) ∧ wr = w ∧ Hid (Pl.find (env.drop k) s = none)) (fun i _ => (intOf i + 1).toNat)
  case atStart => exact ⟨env.length, Nat.le_refl _, by go_num, rfl, by simp [Hid, Pl.find]⟩
  case round =>
    obtain ⟨k, hk, rfl, rfl, HN⟩ := hrel
    by_cases hk0 : k = 0
    · subst hk0
      have HE : Hid (Pl.find env s = none) := show Pl.find env s = none from by simpa using HN.out
      go_wp2_with fail
      go_ret
      exact ⟨by rw [HE.out]; rfl, rfl⟩
    · obtain ⟨i, rfl⟩ : ∃ i, k = i + 1 := ⟨k - 1, by omega⟩
      obtain ⟨b, hb⟩ : ∃ b, env[i]? = some b := ⟨env[i]'(by omega), List.getElem?_eq_getElem (by omega)⟩
      obtain ⟨g, off, rfl, hg, _, hc⟩ := Sl.cell H.out (by omega)
      obtain ⟨e0, e1⟩ := enc_bind env i b hb
      have c0 := hc _ _ e0
      have c1 := hc _ _ e1
      rw [← Nat.add_assoc] at c1
      unfold byV at c0
      have hi1 : ((i + 1 : Nat) : Int) - 1 = (i : Int) := by omega
      rw [hi1]
      have hlt : (i : Int) < (env.length : Int) := by omega
      by_cases he : b.1 = s
      · have HE : Hid (Pl.find env s = some b.2) := find_hit env s i b hb HN.out he
        have hbe : (b.1 == s) = true := by simpa using he
        clear hb hc e0 e1 he
        go_wp2_with fail
        go_ret
        exact ⟨by rw [HE.out]; rfl, rfl⟩
      · have HE : Hid (Pl.find (env.drop i) s = none) := find_miss env s i b hb HN.out he
        have hbe : (b.1 == s) = false := by simpa using he
        clear hb hc e0 e1 he
        go_wp2_with fail
        exact ⟨⟨i, by omega, by go_num, trivial, HE⟩, by simp [intOf]⟩
end Go.Proofs.YtkgbdddkcjpgfaaGreatDoor
