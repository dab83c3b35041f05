/- The program's quote, if, begin, set, define, call. -/
import Derived.Test.YtkfbhjinmpdfnaaGreatDoorM20
import Derived.Deep.QuietTactic
import Derived.BigQuiet
import Derived.BigRegion
namespace Go.Proofs.YtkfbhjinmpdfnaaGreatDoor
open Go.RowKit

def OkA : Nat → Prop := fun _ => True
def FSaid (n : Nat) : Prop := ∀ (w : World) (v : Value) (t : Tr), RepP OkA n w v t → Calls Tryz.prog 13 #[v] w fun e w' => FPost (Pl.isForm n t) w e w'
def AllP (n : Nat) (w : World) (vs : List Value) (ts : List Tr) : Prop := vs.length = ts.length ∧ ∀ (i : Nat) (u : Value) (x : Tr), vs[i]? = some u → ts[i]? = some x → RepP OkA n w u x
theorem AllP.iface {n : Nat} {w : World} {vs : List Value} {ts : List Tr} (h : AllP n w vs ts) : ∀ v ∈ vs, ∃ T x, v = .iface T x := by
  intro v hv
  obtain ⟨i, hi⟩ := List.mem_iff_getElem?.1 hv
  have hlt : i < ts.length := by have := (List.getElem?_eq_some_iff.1 hi).1; have := h.1; omega
  obtain ⟨T, x, rfl, _⟩ := (h.2 i v ts[i] hi (List.getElem?_eq_getElem hlt)).iface
  exact ⟨T, x, rfl⟩
theorem AllP.later {n : Nat} {w w' : World} {vs : List Value} {ts : List Tr} (h : AllP n w vs ts) (hb : Below w.heap.size w w') : AllP n w' vs ts := ⟨h.1, fun i u x hu hx => (h.2 i u x hu hx).later hb⟩
theorem AllP.up {n m : Nat} {w : World} {vs : List Value} {ts : List Tr} (h : AllP n w vs ts) (hm : n ≤ m) : AllP m w vs ts := ⟨h.1, fun i u x hu hx => RepP.up _ _ _ _ hm (h.2 i u x hu hx)⟩
theorem FSaid.call {n : Nat} (h : FSaid n) {w : World} {v : Value} {t : Tr} (hr : RepP OkA n w v t) : FCall w v (Pl.isForm n t) := fun w' hb => h w' v t (hr.later hb)
theorem all_map_id {α : Type} (f : α → Bool) (ts : List α) : (ts.map f).all id = ts.all f := by rw [List.all_map]; rfl
theorem p_forms (n : Nat) (hF : FSaid n) (w : World) (sl : Value) (vs : List Value) (ts : List Tr) (hS : SlOf w sl vs) (hA : AllP n w vs ts) (hlen : ts.length ≤ 1000) :
    Calls Tryz.prog 59 #[sl] w fun e w' => FsPost (ts.all (Pl.isForm n)) ts.length w e w' := by
  have h := p_readForms w sl vs (ts.map (Pl.isForm n)) hS (by simpa using hA.1) (by simp; omega) hA.iface (fun i v r hv hr => by
    rw [List.getElem?_map, Option.map_eq_some_iff] at hr
    obtain ⟨x, hx, rfl⟩ := hr
    exact hF.call (hA.2 i v x hv hx))
  rw [all_map_id, List.length_map] at h
  exact h

set_option maxHeartbeats 1000000 in
set_option maxRecDepth 100000 in
theorem p_readQuote (w : World) (sl : Value) (vs : List Value) (hS : SlOf w sl vs) (hI : ∀ v ∈ vs, ∃ T x, v = .iface T x) : Calls Tryz.prog 39 #[sl] w fun e w' => FPost (vs.length == 1) w e w' := by
  by_cases h1 : vs.length = 1
  · obtain ⟨u, rfl⟩ : ∃ u, vs = [u] := by
      match vs, h1 with
      | [a], _ => exact ⟨a, rfl⟩
    obtain ⟨T, x, rfl⟩ := hI u (by simp)
    obtain ⟨g, off, cap, rfl, hcap, hg, c0, _⟩ := hS.cell0
    simp only [List.length_nil, Nat.zero_add]
    clear hS hI h1
    go_enter Tryz.func39, Tryz.ntmps39
    go_wp2_with fail
    go_ret2
    exact ⟨Below.refl _ _, .inl ⟨rfl, _, _, rfl⟩⟩
  · obtain ⟨ao, cap, rfl, _⟩ := hS
    have HE : Hid ((vs.length == 1) = false) := by simpa [Hid] using h1
    have hne : ((vs.length : Int) != 1) = true := by simp; omega
    clear hI h1
    go_enter Tryz.func39, Tryz.ntmps39
    go_wp2_with (go_at_call 38; refine (p_noForm _ _).mono ?_; rintro e w' ⟨rfl, rfl⟩)
    go_ret2
    exact ⟨Below.refl _ _, .inr ⟨HE.out, _, _, rfl⟩⟩

set_option maxHeartbeats 1000000 in
set_option maxRecDepth 100000 in
theorem p_readCall (w : World) (sl : Value) (vs : List Value) (rs : List Bool) (hS : SlOf w sl vs) (hl : vs.length = rs.length) (hlen : rs.length ≤ 2000) (hv1 : ∀ v ∈ vs, ∃ T x, v = .iface T x) (hF : ∀ (i : Nat) (v : Value) (r : Bool), vs[i]? = some v → rs[i]? = some r → FCall w v r) :
    Calls Tryz.prog 45 #[sl] w fun e w' => FPost (rs.all id) w e w' := by
  have HS := (show Hid _ from hS)
  have HL := (show Hid _ from hl)
  have HI := (show Hid _ from hv1)
  have HF := (show Hid _ from hF)
  obtain ⟨ao, cap, rfl, _⟩ := hS
  clear hl hv1 hF
  go_enter Tryz.func45, Tryz.ntmps45
  go_wp2_with fail
  refine (p_readForms w _ vs rs HS.out HL.out hlen HI.out HF.out).mono ?_
  rintro e w2 ⟨hB2, ⟨hr, v, fs, rfl, hrow, _⟩ | ⟨hr, v, es, rfl⟩⟩
  · have HR := (show Hid _ from hr)
    have HB := (show Hid (Below _ _ _) from hB2)
    obtain ⟨ao2, cap2, rfl, _⟩ := slOf_own hrow
    clear hr hB2 hrow
    go_wp2_with fail
    go_ret2
    exact ⟨HB.out, .inl ⟨HR.out, _, _, rfl⟩⟩
  · have HR := (show Hid _ from hr)
    have HB := (show Hid (Below _ _ _) from hB2)
    clear hr hB2
    unfold errV
    go_wp2_with fail
    go_ret2
    exact ⟨HB.out, .inr ⟨HR.out, _, _, rfl⟩⟩

set_option maxHeartbeats 1000000 in
set_option maxRecDepth 100000 in
theorem p_readBegin (n : Nat) (hF : FSaid n) (w : World) (sl : Value) (vs : List Value) (ts : List Tr) (hS : SlOf w sl vs) (hA : AllP n w vs ts) (hlen : ts.length ≤ 1000) :
    Calls Tryz.prog 41 #[sl] w fun e w' => FPost (!ts.isEmpty && ts.all (Pl.isForm n)) w e w' := by
  have HS := (show Hid (SlOf w sl vs) from hS)
  have HA := (show Hid _ from hA)
  have HF := (show Hid _ from hF)
  have hvl := hA.1
  obtain ⟨ao, cap, rfl, _⟩ := hS
  clear hA hF
  by_cases h0 : ts.length = 0
  · have HE : Hid ((!ts.isEmpty && ts.all (Pl.isForm n)) = false) := by simp [Hid, List.eq_nil_of_length_eq_zero h0]
    have hz : ((vs.length : Int) == 0) = true := beq_iff_eq.2 (by omega)
    clear h0 hvl
    go_enter Tryz.func41, Tryz.ntmps41
    go_wp2_with (go_at_call 38; refine (p_noForm _ _).mono ?_; rintro e w' ⟨rfl, rfl⟩)
    go_ret2
    exact ⟨Below.refl _ _, .inr ⟨HE.out, _, _, rfl⟩⟩
  · have hE : ∀ r, ts.all (Pl.isForm n) = r → (!ts.isEmpty && ts.all (Pl.isForm n)) = r := fun r hr => by
      have : ts.isEmpty = false := by cases ts with
        | nil => simp at h0
        | cons a b => rfl
      rw [this, hr]; rfl
    have HE := (show Hid _ from hE)
    have hz : ((vs.length : Int) == 0) = false := beq_eq_false_iff_ne.2 (by omega)
    clear h0 hE hvl
    go_enter Tryz.func41, Tryz.ntmps41
    go_wp2_with fail
    refine (p_forms n HF.out w _ vs ts HS.out HA.out hlen).mono ?_
    rintro e w2 ⟨hB2, ⟨hr, v, fs, rfl, hrow, _⟩ | ⟨hr, v, es, rfl⟩⟩
    · have HR := (show Hid _ from hr)
      have HB := (show Hid (Below _ _ _) from hB2)
      obtain ⟨ao2, cap2, rfl, _⟩ := slOf_own hrow
      clear hr hB2 hrow
      go_wp2_with fail
      go_ret2
      exact ⟨HB.out, .inl ⟨HE.out _ HR.out, _, _, rfl⟩⟩
    · have HR := (show Hid _ from hr)
      have HB := (show Hid (Below _ _ _) from hB2)
      clear hr hB2
      unfold errV
      go_wp2_with fail
      go_ret2
      exact ⟨HB.out, .inr ⟨HE.out _ HR.out, _, _, rfl⟩⟩
set_option maxHeartbeats 1000000 in
set_option maxRecDepth 100000 in
theorem p_readIf (n : Nat) (hF : FSaid n) (w : World) (sl : Value) (vs : List Value) (ts : List Tr) (hS : SlOf w sl vs) (hA : AllP n w vs ts) (hlen : ts.length ≤ 1000) :
    Calls Tryz.prog 40 #[sl] w fun e w' => FPost (ts.length == 3 && ts.all (Pl.isForm n)) w e w' := by
  have HS := (show Hid (SlOf w sl vs) from hS)
  have HA := (show Hid _ from hA)
  have HF := (show Hid _ from hF)
  have hvl := hA.1
  obtain ⟨ao, cap, rfl, _⟩ := hS
  clear hA hF
  by_cases h0 : ts.length = 3
  · have hE : ∀ r, ts.all (Pl.isForm n) = r → (ts.length == 3 && ts.all (Pl.isForm n)) = r := fun r hr => by
      rw [h0, hr]; rfl
    have HE := (show Hid _ from hE)
    have H3 := (show Hid _ from h0)
    have hz : ((vs.length : Int) != 3) = false := by simp; omega
    clear h0 hE hvl
    go_enter Tryz.func40, Tryz.ntmps40
    go_wp2_with fail
    refine (p_forms n HF.out w _ vs ts HS.out HA.out hlen).mono ?_
    rintro e w2 ⟨hB2, ⟨hr, v, fs, rfl, hrow, hfs⟩ | ⟨hr, v, es, rfl⟩⟩
    · have HR := (show Hid _ from hr)
      have HB := (show Hid (Below _ _ _) from hB2)
      have hsl := slOf_own hrow
      have hfl := hrow.1
      rw [H3.out] at hfl
      obtain ⟨y0, y1, y2, rfl⟩ : ∃ y0 y1 y2, fs = [y0, y1, y2] := by
        match fs, hfl with
        | [a, b, c], _ => exact ⟨a, b, c, rfl⟩
      obtain ⟨T0, x0, rfl⟩ := hfs y0 (by simp)
      obtain ⟨T1, x1, rfl⟩ := hfs y1 (by simp)
      obtain ⟨T2, x2, rfl⟩ := hfs y2 (by simp)
      obtain ⟨g, off, cap3, rfl, hcap3, hg3, k0, ks⟩ := hsl.cell0
      have k1 := ks 0 _ rfl
      have k2 := ks 1 _ rfl
      simp only [Nat.zero_add, List.length_cons, List.length_nil] at k1 k2 hcap3 ⊢
      clear hr hB2 hrow hsl hfl hfs ks
      go_wp2_with fail
      go_quiet (fail)
      go_wp2_with fail
      go_ret2
      exact ⟨⟨HB.out.os, HB.out.tape, HB.out.output, HB.out.size, HB.out.block⟩, .inl ⟨HE.out _ HR.out, _, _, rfl⟩⟩
    · have HR := (show Hid _ from hr)
      have HB := (show Hid (Below _ _ _) from hB2)
      clear hr hB2
      unfold errV
      go_wp2_with fail
      go_ret2
      exact ⟨HB.out, .inr ⟨HE.out _ HR.out, _, _, rfl⟩⟩
  · have HE : Hid ((ts.length == 3 && ts.all (Pl.isForm n)) = false) := by simp [Hid, h0]
    have hz : ((vs.length : Int) != 3) = true := by simp; omega
    clear h0 hvl
    go_enter Tryz.func40, Tryz.ntmps40
    go_wp2_with (go_at_call 38; refine (p_noForm _ _).mono ?_; rintro e w' ⟨rfl, rfl⟩)
    go_ret2
    exact ⟨Below.refl _ _, .inr ⟨HE.out, _, _, rfl⟩⟩
end Go.Proofs.YtkfbhjinmpdfnaaGreatDoor

/- The program's names: whether one is there already; readNames; a name and a form. -/
namespace Go.Proofs.YtkfbhjinmpdfnaaGreatDoor
open Go.RowKit

theorem row_shape2 {w : World} {base : Nat} {e : TypeId} {v : Value} {k : Nat} {nm : List (List UInt8)} (h : w.ownsRow base e 1 v k (nm.map strV)) :
    ∃ ao cap, v = .slice ao k cap ∧ k ≤ cap ∧ ∀ (i : Nat) (t : List UInt8), nm[i]? = some t → ∃ g, ao = some ⟨g, 0, none⟩ ∧ w.cell? ⟨g, i, none⟩ = some (.string ⟨t.toArray⟩) := by
  have hl := h.1
  rw [List.length_map] at hl
  rcases h.2 with ⟨hv, h0⟩ | ⟨g, cap, cur, hv, _, hg, hc, _, _, ht⟩
  · subst h0
    have : nm = [] := List.eq_nil_of_length_eq_zero (by omega)
    subst this
    exact ⟨none, 0, hv, Nat.le_refl _, fun i t hi => by simp at hi⟩
  · refine ⟨some ⟨g, 0, none⟩, cap, hv, hc, fun i t hi => ⟨g, rfl, ?_⟩⟩
    have hx : (nm.map strV)[i]? = some (strV t) := by rw [List.getElem?_map, hi]; rfl
    have := h.cells (g := g) (by rw [hv]; rfl) i (strV t) hx
    rwa [show (⟨g, 0, none⟩ : Addr).add i = ⟨g, i, none⟩ from by rw [Addr.add_lit, Nat.zero_add]] at this

set_option maxHeartbeats 1000000 in
set_option maxRecDepth 100000 in
theorem p_index (w : World) (base k : Nat) (sl : Value) (nm : List (List UInt8)) (t : List UInt8) (hO : w.ownsRow base 70 1 sl k (nm.map strV)) (hk : k ≤ 1000) :
    Calls Tryz.prog 76 #[sl, .string ⟨t.toArray⟩] w fun e w' => w = w' ∧ ∃ r : Int, e = .returned (.int .i64 r) ∧ ((t ∈ nm ∧ 0 ≤ r) ∨ (t ∉ nm ∧ r = -1)) := by
  obtain ⟨ao, cap, rfl, hcap, hcell⟩ := row_shape2 hO
  have HC := (show Hid _ from hcell)
  have HNM : Hid (nm.length = k) := show nm.length = k from by have := hO.1; simpa using this
  clear hcell hO
  go_enter Tryz.func76, Tryz.ntmps76
  go_wp2_with fail
  go_loopw [8] (fun jj wq => ∃ (j : Nat), j ≤ k ∧ jj = .int .i64 j ∧ w = wq ∧ Hid (∀ (i : Nat) (y : List UInt8), i < j → nm[i]? = some y → ¬ y = t)) (fun jj _ => k - (intOf jj).toNat)
  case atStart => exact ⟨0, Nat.zero_le _, rfl, rfl, fun i y hi => by omega⟩
  case round =>
    obtain ⟨j, hj, rfl, rfl, HJ⟩ := hrel
    by_cases hjl : j < k
    · obtain ⟨y, hy⟩ : ∃ y, nm[j]? = some y := ⟨nm[j]'(by have := HNM.out; omega), List.getElem?_eq_getElem (by have := HNM.out; omega)⟩
      obtain ⟨g2, rfl, hc2⟩ := HC.out j y hy
      have hjl2 : (j : Int) < (k : Int) := by omega
      by_cases hyx : t = y
      · have HT : Hid (t ∈ nm) := show t ∈ nm from by rw [hyx]; exact List.mem_of_getElem? hy
        have e1 : (t == y) = true := by simpa using hyx
        clear hy hyx
        go_wp2_with fail
        go_ret
        exact ⟨rfl, _, rfl, .inl ⟨HT.out, by omega⟩⟩
      · have HJ2 : Hid (∀ (i : Nat) (z : List UInt8), i < j + 1 → nm[i]? = some z → ¬ z = t) := by
          intro i z hi hz
          by_cases e : i = j
          · subst e; rw [hy] at hz; obtain rfl := Option.some.inj hz; exact fun e => hyx e.symm
          · exact HJ.out i z (by omega) hz
        have e1 : (t == y) = false := by simpa using hyx
        clear hy hyx
        go_wp2_with fail
        go_roundw
        case rel => exact ⟨j + 1, by omega, by go_num, trivial, HJ2⟩
        case measure => simp [intOf]; omega
    · have HT : Hid (t ∉ nm) := not_in_of fun i z hz => HJ.out i z (by have := (List.getElem?_eq_some_iff.1 hz).1; have := HNM.out; omega) hz
      go_wp2_with fail
      go_ret
      exact ⟨rfl, _, rfl, .inr ⟨HT.out, rfl⟩⟩

set_option maxHeartbeats 1000000 in
set_option maxRecDepth 100000 in
theorem p_contains (w : World) (base k : Nat) (sl : Value) (nm : List (List UInt8)) (t : List UInt8) (hO : w.ownsRow base 70 1 sl k (nm.map strV)) (hk : k ≤ 1000) :
    Calls Tryz.prog 69 #[sl, .string ⟨t.toArray⟩] w fun e w' => w = w' ∧ e = .returned (.bool (decide (t ∈ nm))) := by
  have HO := (show Hid _ from hO)
  obtain ⟨ao, cap, rfl, hcap, _⟩ := row_shape2 hO
  clear hO
  go_enter Tryz.func69, Tryz.ntmps69
  go_wp2_with fail
  refine (p_index w base k _ nm t HO.out hk).mono ?_
  rintro e w' ⟨rfl, r, rfl, ⟨hm, hr⟩ | ⟨hm, rfl⟩⟩
  · have HM : Hid (decide (t ∈ nm) = true) := by simpa [Hid] using hm
    clear hm
    go_wp2_with fail
    go_ret
    exact ⟨rfl, by rw [HM.out]; rfl⟩
  · have HM : Hid (decide (t ∈ nm) = false) := by simpa [Hid] using hm
    clear hm
    go_wp2_with fail
    go_ret
    exact ⟨rfl, by rw [HM.out]; rfl⟩
theorem Tryz.infoNm : (Tryz.prog.info? 70).map (fun i => (i.zero, i.size, i.bytes)) = some (some (.string ByteArray.empty), 1, 16) := by kernel_rfl

theorem RepP.list {ok : Nat → Prop} {n : Nat} {w : World} {v : Value} {ts : List Tr} (h : RepP ok (n + 1) w v (.agg ts)) : ∃ sl vs, v = .iface 41 sl ∧ SlOf w sl vs ∧ vs.length = ts.length ∧ ts.length ≤ 1000 ∧ ∀ (i : Nat) (u : Value) (x : Tr), vs[i]? = some u → ts[i]? = some x → RepP ok n w u x := by
  obtain ⟨sl, vs, hv, _, h3, h4, h5⟩ := h
  exact ⟨sl, vs, hv, slOf_own h3, h3.1.trans (Nat.mul_one _), h5, h4⟩
theorem RepP.no_list {ok : Nat → Prop} {n : Nat} {w : World} {v : Value} {t : Tr} (h : RepP ok n w v t) (hn : ¬ ∃ s, t = .agg s) : ∃ x, v = .iface 130 x ∨ v = .iface 129 x ∨ v = .iface 43 x := by
  cases n with
  | zero => exact h.elim
  | succ n =>
    match t, h with
    | .lit (.int _ _), h => obtain ⟨k, rfl, _⟩ := h; exact ⟨_, .inl rfl⟩
    | .lit (.bool _), h => exact ⟨_, .inr (.inl h)⟩
    | .lit (.string s), h => exact ⟨_, .inr (.inr h)⟩
    | .agg ts, h => exact absurd ⟨ts, rfl⟩ hn
def namesOf : Tr → Bool
  | .agg l => Pl.namesOk l
  | _ => false
def NmPost (w : World) (r : Bool) (e : Ending) (w' : World) : Prop :=
  Below w.heap.size w w' ∧ ((r = true ∧ ∃ ao k cap, e = .returned (.tuple #[.slice ao k cap, .nilIface])) ∨ (r = false ∧ ∃ v s, e = .returned (.tuple #[v, errV s 5])))

set_option maxHeartbeats 2000000 in
set_option maxRecDepth 100000 in
theorem p_readNames (ok : Nat → Prop) (n : Nat) (w : World) (v : Value) (t : Tr) (h : RepP ok n w v t) :
    Calls Tryz.prog 60 #[v] w fun e w' => NmPost w (namesOf t) e w' := by
  obtain ⟨i0, hi0, hz0, hz1, hz2⟩ := info_parts Tryz.infoNm
  have as1 := Tryz.asNumber_List
  have as2 := Tryz.asTruth_List
  have as3 := Tryz.asName_List
  have as4 := Tryz.asList_List
  by_cases hls : ∃ ts, t = .agg ts
  · obtain ⟨ts, rfl⟩ := hls
    obtain ⟨m, rfl⟩ : ∃ m, n = m + 1 := by
      cases n with
      | zero => exact h.elim
      | succ m => exact ⟨m, rfl⟩
    obtain ⟨sl, vs, rfl, hS, hvl, hlen, hA⟩ := h.list
    obtain ⟨ao, cap, rfl, hcap, hcell⟩ := hS
    rw [hvl] at hcap ⊢
    have HV := (show Hid (vs.length = ts.length) from hvl)
    have HC := (show Hid _ from hcell)
    have HA := (show Hid _ from hA)
    clear hvl hcell hA h
    go_enter Tryz.func60, Tryz.ntmps60
    go_wp2_with fail
    go_loopw [6, 21] (fun lv i wr => ∃ (k : Nat) (nm : List (List UInt8)), k ≤ ts.length ∧ i = .int .i64 k ∧ Hid (wr.ownsRow w.heap.size 70 1 lv k (nm.map strV)) ∧ Hid (Below w.heap.size w wr) ∧ Hid (Seen ts k nm)) (fun _ i _ => ts.length - (intOf i).toNat)
    case atStart => exact ⟨0, [], Nat.zero_le _, rfl, World.ownsRow_nil _ _ _ _, Below.refl _ _, Seen.start _⟩
    case round =>
      obtain ⟨k, nm, hk, rfl, HO, HB, HS⟩ := hrel
      by_cases hlt : k < ts.length
      · obtain ⟨u, hu⟩ : ∃ u, vs[k]? = some u := ⟨vs[k]'(by have := HV.out; omega), List.getElem?_eq_getElem (by have := HV.out; omega)⟩
        obtain ⟨x, hx⟩ : ∃ x, ts[k]? = some x := ⟨ts[k], List.getElem?_eq_getElem hlt⟩
        obtain ⟨g, off, rfl, hg, hc⟩ := HC.out k u hu
        have hc' : wr.cell? ⟨g, off + k, none⟩ = some u := (HB.out.cell (p := ⟨g, off + k, none⟩) hg).trans hc
        have hr := HA.out k u x hu hx
        have HX := (show Hid _ from hx)
        have HR := (show Hid _ from hr)
        obtain ⟨T, y, rfl, _⟩ := hr.iface
        clear hu hx hc hr
        have hlt2 : (k : Int) < (ts.length : Int) := by omega
        go_wp2_with fail
        refine (p_readName ok m _ x wr w HR.out).mono ?_
        rintro e w' ⟨rfl, ⟨hn, rfl⟩ | ⟨hn, v, es, rfl⟩⟩
        · unfold nmV
          obtain ⟨ao2, cap2, rfl, hcap2, _⟩ := row_shape2 HO.out
          by_cases hm : Pl.strOf x ∈ nm
          · have HE : Hid (namesOf (.agg ts) = false) := by
              obtain ⟨j, hj⟩ := List.mem_iff_getElem?.1 hm
              exact HS.out.twice HX.out hj rfl
            have hd : decide (Pl.strOf x ∈ nm) = true := by simpa using hm
            clear hm hn
            go_wp2_with fail
            refine (p_contains wr w.heap.size k _ nm _ HO.out (by omega)).mono ?_
            rintro e w' ⟨rfl, rfl⟩
            go_wp2_with (go_at_call 38; refine (p_noForm _ _).mono ?_; rintro e w' ⟨rfl, rfl⟩)
            go_ret2
            exact ⟨HB.out, .inr ⟨HE.out, _, _, rfl⟩⟩
          · have HS2 : Hid (Seen ts (k + 1) (nm ++ [Pl.strOf x])) := HS.out.more HX.out hn hm
            have hd : decide (Pl.strOf x ∈ nm) = false := by simpa using hm
            have hs2 := HB.out.size
            clear hm hn
            go_wp2_with fail
            refine (p_contains wr w.heap.size k _ nm _ HO.out (by omega)).mono ?_
            rintro e w' ⟨rfl, rfl⟩
            go_wp2_with (first | (at_builtin; refine wpList_append_lies _ rfl _ _ 140 rfl w.heap.size 70 i0 (.string ByteArray.empty) 1 16 Tryz.underlying140 hi0 hz0 hz1 hz2 rfl (by decide) _ k (nm.map strV) rfl (HO.out.alloc _) ⟨wr.heap.size, 0, none⟩ 1 1 [.string ⟨(Pl.strOf x).toArray⟩] rfl rfl (cell_one_new _ _ _) (fun x hx => by simp at hx; subst hx; rfl) (by decide) (by unfold maxLen; omega) (by omega) (by simp; omega) (wr.heap.size + 1) (by simp) ?_; intro g' cap' w3 hown' hgrow3 hat3 _))
            go_roundw
            case rel =>
              refine ⟨k + 1, _, by omega, by go_num, ?_, ?_, HS2⟩
              · have := hown'
                rw [List.map_append]
                exact this
              · exact (HB.out.alloc hs2 _).grown hgrow3 (by simp; omega) (fun j hj => (HO.out.lt j hj).1)
            case measure => simp [intOf]; omega
        · have HE : Hid (namesOf (.agg ts) = false) := Seen.bad HX.out hn
          clear hn
          unfold errV
          go_wp2_with fail
          go_ret2
          exact ⟨HB.out, .inr ⟨HE.out, _, _, rfl⟩⟩
      · have HE : Hid (namesOf (.agg ts) = true) := HS.out.done (by omega)
        obtain ⟨ao2, cap2, rfl, hcap2, _⟩ := row_shape2 HO.out
        go_wp2_with fail
        go_ret2
        exact ⟨HB.out, .inl ⟨HE.out, _, _, _, rfl⟩⟩
  · have HE : Hid (namesOf t = false) := by
      show namesOf t = false
      unfold namesOf
      split
      · exact absurd ⟨_, rfl⟩ hls
      · rfl
    obtain ⟨x, hx⟩ := h.no_list hls
    clear h hls
    rcases hx with rfl | rfl | rfl
    · go_enter Tryz.func60, Tryz.ntmps60
      go_wp2_with (go_at_call 38; refine (p_noForm _ _).mono ?_; rintro e w' ⟨rfl, rfl⟩)
      go_ret2
      exact ⟨Below.refl _ _, .inr ⟨HE.out, _, _, rfl⟩⟩
    · go_enter Tryz.func60, Tryz.ntmps60
      go_wp2_with (go_at_call 38; refine (p_noForm _ _).mono ?_; rintro e w' ⟨rfl, rfl⟩)
      go_ret2
      exact ⟨Below.refl _ _, .inr ⟨HE.out, _, _, rfl⟩⟩
    · go_enter Tryz.func60, Tryz.ntmps60
      go_wp2_with (go_at_call 38; refine (p_noForm _ _).mono ?_; rintro e w' ⟨rfl, rfl⟩)
      go_ret2
      exact ⟨Below.refl _ _, .inr ⟨HE.out, _, _, rfl⟩⟩
end Go.Proofs.YtkfbhjinmpdfnaaGreatDoor
