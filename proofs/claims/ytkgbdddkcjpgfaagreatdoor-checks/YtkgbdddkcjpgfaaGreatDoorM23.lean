/- The reference's let. -/
import Derived.Test.YtkgbdddkcjpgfaaGreatDoorM22
import Derived.Deep.RegionHeld3
import Derived.Deep.RegionLaw
import Derived.Laws.AppendOwnNone
namespace Go.Proofs.YtkgbdddkcjpgfaaGreatDoor
open Go.RowKit

/- What is no list bears another kind. -/
theorem RepR.notList {ok : Nat → Prop} {n : Nat} {w : World} {v : Value} {t : Tr} (h : RepR ok n w v t) (hls : ¬ ∃ ts, t = .agg ts) : ∃ kk : List UInt8, kindOf t = .string ⟨kk.toArray⟩ ∧ (kk == [108, 105, 115, 116]) = false := by
  cases n with
  | zero => exact h.elim
  | succ m =>
    obtain ⟨_, _, _, hh⟩ := h
    match t, hh with
    | .lit (.int _ _), _ => exact ⟨[110, 117, 109, 98, 101, 114], rfl, by decide⟩
    | .lit (.bool _), _ => exact ⟨[116, 114, 117, 116, 104], rfl, by decide⟩
    | .lit (.string _), _ => exact ⟨[110, 97, 109, 101], rfl, by decide⟩
    | .agg ts, _ => exact absurd ⟨ts, rfl⟩ hls
/- What the pairs' loop has seen. -/
def PSeen (ts : List Tr) (k : Nat) : Prop := (ts.take k).all Pl.isPair = true
theorem map_take_succ {α : Type} (f : Tr → α) {ts : List Tr} {k : Nat} {x : Tr} (hx : ts[k]? = some x) : (ts.take (k + 1)).map f = (ts.take k).map f ++ [f x] := by rw [List.take_add_one, hx]; simp

theorem own_one (w : World) (e : TypeId) (u : Value) : (w.alloc (.cells #[u] e)).ownsRow w.heap.size e 1 (.slice (some ⟨w.heap.size, 0, none⟩) 1 1) 1 [u] :=
  ⟨rfl, .inr ⟨w.heap.size, 1, #[u], rfl, Nat.le_refl _, heap_alloc_new _ _, Nat.le_refl _, by unfold maxLen; omega, rfl, rfl⟩⟩
set_option maxHeartbeats 2000000 in
set_option maxRecDepth 100000 in
theorem ref_let (n : Nat) (hF : FormSaid n) (ok ok' : Nat → Prop) (w : World) (pv bv : Value) (ps bd : Tr) (h : RepR ok n w pv ps) (hbd : RepR ok' n w bv bd) :
    Calls Tryz.prog 165 #[pv, bv] w fun e w' => FormPost w (Pl.letOk (Pl.isForm n) ps bd) e w' := by
  obtain ⟨i0, hi0, hz0, hz1, hz2⟩ := info_parts Tryz.infoPD
  obtain ⟨i1, hi1, hy0, hy1, hy2⟩ := info_parts Tryz.infoPF
  have HF := (show Hid (FormSaid n) from hF)
  have HN := (show Hid _ from h)
  obtain ⟨b, rfl, hb, ck, _⟩ := h.cellS
  obtain ⟨bb, rfl⟩ := hbd.ptr
  have HBd := (show Hid _ from hbd)
  clear hF h hbd
  by_cases hls : ∃ ts, ps = .agg ts
  · obtain ⟨ts, rfl⟩ := hls
    have hlen := HN.out.short
    obtain ⟨m, rfl⟩ : ∃ m, n = m + 1 := by
      cases n with
      | zero => exact HN.out.elim
      | succ m => exact ⟨m, rfl⟩
    have ck2 : w.cell? ⟨b, 0, none⟩ = some (.string ⟨#[108, 105, 115, 116]⟩) := ck
    clear ck
    obtain ⟨b', kids, vs, e, _, _, c3, hS, hvl, hA⟩ := HN.out.list
    simp only [Value.pointer.injEq, Option.some.injEq, Addr.mk.injEq, and_true] at e
    subst e
    obtain ⟨ao, cap, rfl, hcap, hcell⟩ := hS
    rw [hvl] at c3 hcap
    have HV := (show Hid (vs.length = ts.length) from hvl)
    have HC := (show Hid _ from hcell)
    have HA := (show Hid _ from hA)
    clear hvl hcell hA
    go_enter Tryz.func165, Tryz.ntmps165
    go_wp2_with fail
    go_loopw [6, 7] (fun vv i wr => ∃ (k : Nat) (kn : Value) (nvs vvs : List Value), k ≤ ts.length ∧ i = .int .i64 k ∧ Hid (LetInv w wr w.heap.size k k kn vv nvs vvs) ∧ Hid ((ts.take k).all Pl.isPair = true) ∧ Hid (ChR ok m w nvs ((ts.take k).map Pl.fstOf)) ∧ Hid (ChR ok m w vvs ((ts.take k).map Pl.sndOf))) (fun _ i _ => ts.length - (intOf i).toNat)
    case atStart => exact ⟨0, _, [], [], Nat.zero_le _, rfl, LetInv.start _ rfl, by simp [Hid], by simpa [Hid] using ChR.nil ok m w, by simpa [Hid] using ChR.nil ok m w⟩
    case round =>
      obtain ⟨k, kn, nvs, vvs, hk, rfl, HL, HP, HN1, HV1⟩ := hrel
      obtain ⟨q1, _⟩ := bcell HL.out.below
      have cG := cells_at HL.out.out 3
      have fG := free_at HL.out.out 3
      by_cases hlt : k < ts.length
      · obtain ⟨u, hu⟩ : ∃ u, vs[k]? = some u := ⟨vs[k]'(by have := HV.out; omega), List.getElem?_eq_getElem (by have := HV.out; omega)⟩
        obtain ⟨x, hx⟩ : ∃ x, ts[k]? = some x := ⟨ts[k], List.getElem?_eq_getElem hlt⟩
        obtain ⟨g, off, rfl, hg, hc⟩ := HC.out k u hu
        have hr := HA.out k u x hu hx
        have HX := (show Hid _ from hx)
        clear hu hx
        have hlt2 : (k : Int) < (ts.length : Int) := by omega
        have HR := (show Hid _ from hr)
        obtain ⟨bu, rfl, hbu, cku, _⟩ := hr.cellS
        clear hr
        by_cases hxl : ∃ xs, x = .agg xs
        · obtain ⟨xs, rfl⟩ := hxl
          have cku2 : w.cell? ⟨bu, 0, none⟩ = some (.string ⟨#[108, 105, 115, 116]⟩) := cku
          clear cku
          obtain ⟨m', rfl⟩ : ∃ m', m = m' + 1 := by
            cases m with
            | zero => exact HR.out.elim
            | succ m' => exact ⟨m', rfl⟩
          obtain ⟨bu', kx, vx, e, _, _, cx3, hSx, hvlx, hAx⟩ := HR.out.list
          simp only [Value.pointer.injEq, Option.some.injEq, Addr.mk.injEq, and_true] at e
          subst e
          by_cases h2 : xs.length = 2
          · obtain ⟨x0, x1, rfl⟩ : ∃ x0 x1, xs = [x0, x1] := by
              match xs, h2 with
              | [a, b], _ => exact ⟨a, b, rfl⟩
            obtain ⟨y0, y1, rfl⟩ : ∃ y0 y1, vx = [y0, y1] := by
              match vx, hvlx with
              | [a, b], _ => exact ⟨a, b, rfl⟩
            obtain ⟨gx, offx, capx, rfl, hcapx, hgx, z0, zs⟩ := hSx.cell0
            have z1 := zs 0 y1 rfl
            simp only [Nat.zero_add, List.length_cons, List.length_nil] at z1 cx3 hcapx
            have r0 : RepR ok (m' + 1) w y0 x0 := RepR.up _ _ _ _ (Nat.le_succ _) (hAx 0 y0 x0 rfl rfl)
            have r1 : RepR ok (m' + 1) w y1 x1 := RepR.up _ _ _ _ (Nat.le_succ _) (hAx 1 y1 x1 rfl rfl)
            have HP2 : Hid ((ts.take (k + 1)).all Pl.isPair = true) := all_take_succ HP.out HX.out rfl
            have HN2 : Hid (ChR ok (m' + 1) w (nvs ++ [y0]) ((ts.take (k + 1)).map Pl.fstOf)) := show ChR _ _ _ _ _ from by rw [map_take_succ _ HX.out]; exact HN1.out.snoc r0
            have HV2 : Hid (ChR ok (m' + 1) w (vvs ++ [y1]) ((ts.take (k + 1)).map Pl.sndOf)) := show ChR _ _ _ _ _ from by rw [map_take_succ _ HX.out]; exact HV1.out.snoc r1
            obtain ⟨by0, rfl⟩ := r0.ptr
            obtain ⟨by1, rfl⟩ := r1.ptr
            clear hSx hvlx hAx zs h2 HP HN1 HV1 r0 r1
            have hwr := HL.out.below.size
            have hltG : w.heap.size < wr.heap.size := lt_of_some HL.out.out
            have aG : kn.ownBlock ≠ some w.heap.size := fun e => by have := (HL.out.nrow.lt _ e).1; omega
            have abu : kn.ownBlock ≠ some bu := fun e => by have := (HL.out.nrow.lt _ e).1; omega
            have agx : kn.ownBlock ≠ some gx := fun e => by have := (HL.out.nrow.lt _ e).1; omega
            have cx3' : wr.cell? ⟨bu, 3, none⟩ = some (.slice (some ⟨gx, offx, none⟩) 2 capx) := (q1 bu 3 hbu).trans cx3
            have z0' : wr.cell? ⟨gx, offx, none⟩ = some (.pointer (some ⟨by0, 0, none⟩)) := (q1 gx offx hgx).trans z0
            have fA : ∀ ob : Obj, (wr.alloc ob).frozen? ⟨w.heap.size, 3, none⟩ = false := fun ob => free_at ((Below.heap_alloc wr ob _ hltG).trans HL.out.out) 3
            have cA : ∀ ob : Obj, (wr.alloc ob).cell? ⟨w.heap.size, 3, none⟩ = some kn := fun ob => cells_at ((Below.heap_alloc wr ob _ hltG).trans HL.out.out) 3
            have q2 := bcellA HL.out.below
            go_wp2_with fail
            go_region_law ((refine step_append_lies _ (by rfl) _ _ _ (by rfl) (w.heap.size + 1) 135 i0 _ 1 8 Tryz.underlying237 hi0 hz0 hz1 hz2 rfl (by omega) kn k nvs (by rfl) ((HL.out.nrow.alloc _).drew) ⟨wr.heap.size, 0, none⟩ 1 1 [.pointer (some ⟨by0, 0, none⟩)] (by rfl) (by rfl) (World.news_of_block (cs := #[.pointer (some ⟨by0, 0, none⟩)]) (t := 135) (fr := (0, 0)) (heap_alloc_new wr _)) (by simp [Value.oneCell']) (by omega) (by unfold maxLen; omega) (by omega) (by simp; omega) (wr.heap.size + 1) (by simp) ?_; intro g3 cap3 w3 hown3 hgrow3 hat3 hlt3; have cG3 := (hgrow3.cell_far ⟨w.heap.size, 3, none⟩ (by simp; omega) (Ne.symm aG)).trans (cA _); have fG3 := (hgrow3.frozen_far ⟨w.heap.size, 3, none⟩ (by simp; omega) (Ne.symm aG)).trans (fA _)))
            all_goals
              have HL2 := (show Hid _ from HL.out.pushN hown3 (grown_of_drew hgrow3) hat3)
              clear cG3 fG3 hgrow3 hown3 hat3 hlt3 HL cG fG q1 q2 cA fA cx3' z0'
              generalize w3.setCell ⟨w.heap.size, 3, none⟩ (.slice (some ⟨g3, 0, none⟩) (k + 1) cap3) = W3 at *
              obtain ⟨q1, _⟩ := bcell HL2.out.below
              have hwr3 : w.heap.size < W3.heap.size := lt_of_some HL2.out.out
              go_wp2_with (first | (at_builtin; refine wpList_append_lies _ rfl _ _ 237 rfl (w.heap.size + 1) 135 i0 (.pointer none) 1 8 Tryz.underlying237 hi0 hz0 hz1 hz2 rfl (by decide) u6 k vvs rfl (HL2.out.vrow.alloc _) ⟨W3.heap.size, 0, none⟩ 1 1 [.pointer (some ⟨by1, 0, none⟩)] rfl rfl (cell_one_new _ _ _) (fun x hx => by simp at hx; subst hx; rfl) (by decide) (by unfold maxLen; omega) (by omega) (by simp; omega) (W3.heap.size + 1) (by simp) ?_; intro g4 cap4 w4 hown4 hgrow4 hat4 _))
              go_roundw
              case rel => exact ⟨k + 1, _, _, _, by omega, by go_num, HL2.out.pushV hown4 hgrow4 hat4, HP2, HN2, HV2⟩
              case measure => simp [intOf]; omega
          · have HT : Hid (Pl.letOk (Pl.isForm (m' + 1 + 1)) (.agg ts) bd = false) := by
              have hf : Pl.isPair (.agg xs) = false := by
                match xs, h2 with
                | [], _ => rfl
                | [_], _ => rfl
                | _ :: _ :: _ :: _, _ => rfl
              have := all_fail (f := Pl.isPair) HX.out hf
              simp [Hid, Pl.letOk, this]
            obtain ⟨aox, capx, rfl, _, _⟩ := hSx
            rw [hvlx] at cx3
            have hne : ((xs.length : Int) != 2) = true := by simp; omega
            clear hvlx hAx
            go_wp2_with fail
            go_ret
            exact ⟨HL.out.below, .inr ⟨HT.out, rfl⟩⟩
        · have HT : Hid (Pl.letOk (Pl.isForm (m + 1)) (.agg ts) bd = false) := by
            have hf : Pl.isPair x = false := by
              unfold Pl.isPair
              split
              · exact absurd ⟨_, rfl⟩ hxl
              · rfl
            have := all_fail (f := Pl.isPair) HX.out hf
            simp [Hid, Pl.letOk, this]
          obtain ⟨kk, hkk, hk0⟩ := HR.out.notList hxl
          rw [hkk] at cku
          have hk1 : (kk != [108, 105, 115, 116]) = true := by rw [bne, hk0]; rfl
          clear hkk hxl
          go_wp2_with fail
          go_ret
          exact ⟨HL.out.below, .inr ⟨HT.out, rfl⟩⟩
      · have hke : k = ts.length := by omega
        subst hke
        rw [List.take_length] at HP HN1 HV1
        have hnm : RepR (fun _ => True) (m + 1) wr (.pointer (some ⟨w.heap.size, 0, none⟩)) (.agg (ts.map Pl.fstOf)) := HL.out.names HN1.out (by simp) (by simpa using hlen)
        have HNm := (show Hid _ from hnm)
        clear hnm hk hlt
        have hwr := HL.out.below.size
        go_wp2_with fail
        refine (ref_lambda (m + 1) HF.out _ ok' _ _ _ (.agg (ts.map Pl.fstOf)) bd HNm.out (HBd.out.later HL.out.below)).mono ?_
        rintro e w2 ⟨hB2, hcase⟩
        have HB2 : Hid (Below w.heap.size w w2) := HL.out.below.trans (hB2.mono hwr)
        have HVr : Hid (w2.ownsRow (w.heap.size + 1) TP 1 u6 ts.length vvs) := HL.out.vrow.kept (grown_of_below none hB2) (by cases hv : Value.ownBlock u6 <;> simp)
        have HC2 := (show Hid _ from hcase)
        clear hB2 hcase HNm cG fG q1 HL
        have hsl := slOf_own HVr.out
        obtain ⟨aov, capv, rfl, _⟩ := id hsl
        have HSl := (show Hid _ from hsl)
        clear hsl
        have hsz2 := HB2.out.size
        rcases HC2.out with ⟨hlm, bh, rfl⟩ | ⟨hlm, rfl⟩
        · have HLm := (show Hid (Pl.lamOk (Pl.isForm (m + 1)) (.agg (ts.map Pl.fstOf)) bd = true) from hlm)
          clear hlm HC2
          go_wp2_with fail
          refine (ref_forms (m + 1) HF.out _ _ vvs (ts.map Pl.sndOf) HSl.out ((HV1.out.later HB2.out).all (Nat.le_succ _)) (by simpa using hlen)).mono ?_
          rintro e w3 ⟨hB3, hcase⟩
          have HB3 : Hid (Below w.heap.size w w3) := HB2.out.trans (hB3.mono hsz2)
          have hsz3 := HB3.out.size
          rcases hcase with ⟨hfs, rv, fs, rfl, hrow, hnil, hone⟩ | ⟨hfs, rv, rfl⟩
          · have HT : Hid (Pl.letOk (Pl.isForm (m + 1)) (.agg ts) bd = true) := by
              have h1 := HLm.out
              unfold Pl.lamOk at h1
              show Pl.letOk _ _ _ = true
              unfold Pl.letOk
              dsimp only at h1 ⊢
              rw [HP.out, h1, hfs]; rfl
            rw [List.length_map] at hrow hnil
            clear hfs hB3
            by_cases hz : ts.length = 0
            · have hv := hnil hz
              subst hv
              clear hnil hrow hone hz
              go_wp2_with (first | (at_builtin; refine wpList_append_own_none rfl _ _ 180 rfl w3.heap.size 69 i1 1 Tryz.underlying180 hi1 _ 1 _ rfl (own_one _ _ _) rfl ?_))
              go_ret
              exact ⟨(HB3.out.alloc hsz3 _).alloc (by simp; omega) _, .inl ⟨HT.out, _, rfl⟩⟩
            · obtain ⟨g, cap5, rfl, _, _⟩ := hrow.form (by omega)
              have HRw : Hid (w3.ownsRow w2.heap.size TF 1 (.slice (some ⟨g, 0, none⟩) ts.length cap5) ts.length fs) := hrow
              have hfl : fs.length = ts.length := by have := hrow.1; omega
              clear hrow hnil
              go_wp2_with (first | (at_builtin; refine wpList_append_lies _ rfl _ _ 180 rfl w3.heap.size 69 i1 (.pointer none) 1 8 Tryz.underlying180 hi1 hy0 hy1 hy2 rfl (by decide) (.slice (some ⟨w3.heap.size, 0, none⟩) 1 1) 1 _ rfl (own_one _ _ _) ⟨g, 0, none⟩ ts.length cap5 fs rfl (by omega) ((HRw.out.alloc _).cells rfl) hone (by omega) (by unfold maxLen; omega) (by omega) (by simp) (w3.heap.size + 1) (by simp) ?_; intro g6 cap6 w6 hown6 hgrow6 hat6 hlt6))
              go_ret
              refine ⟨Below.alloc ?_ ?_ _, .inl ⟨HT.out, _, rfl⟩⟩
              · exact (HB3.out.alloc hsz3 _).grown hgrow6 (by simp; omega) (fun j hj => by simp [Value.ownBlock] at hj; omega)
              · have := hgrow6.size; simp at this; omega
          · have HT : Hid (Pl.letOk (Pl.isForm (m + 1)) (.agg ts) bd = false) := by
              show Pl.letOk _ _ _ = false
              unfold Pl.letOk
              dsimp only
              rw [hfs, Bool.and_false]
            clear hB3 hfs
            go_wp2_with fail
            go_ret
            exact ⟨HB3.out, .inr ⟨HT.out, rfl⟩⟩
        · have HT : Hid (Pl.letOk (Pl.isForm (m + 1)) (.agg ts) bd = false) := by
            unfold Pl.lamOk at hlm
            show Pl.letOk _ _ _ = false
            unfold Pl.letOk
            dsimp only at hlm ⊢
            rw [hlm, Bool.and_false, Bool.false_and]
          clear hlm HC2
          go_wp2_with fail
          refine (ref_forms (m + 1) HF.out _ _ vvs (ts.map Pl.sndOf) HSl.out ((HV1.out.later HB2.out).all (Nat.le_succ _)) (by simpa using hlen)).mono ?_
          rintro e w3 ⟨hB3, hcase⟩
          have HB3 : Hid (Below w.heap.size w w3) := HB2.out.trans (hB3.mono hsz2)
          rcases hcase with ⟨hfs, rv, fs, rfl, hrow, hnil, hone⟩ | ⟨hfs, rv, rfl⟩
          · clear hB3 hfs hrow hnil hone
            go_wp2_with fail
            go_ret
            exact ⟨HB3.out, .inr ⟨HT.out, rfl⟩⟩
          · clear hB3 hfs
            go_wp2_with fail
            go_ret
            exact ⟨HB3.out, .inr ⟨HT.out, rfl⟩⟩
  · have HT : Hid (Pl.letOk (Pl.isForm n) ps bd = false) := by
      show Pl.letOk _ _ _ = false
      unfold Pl.letOk
      split
      · exact absurd ⟨_, rfl⟩ hls
      · rfl
    obtain ⟨kk, hkk, hk0⟩ := HN.out.notList hls
    rw [hkk] at ck
    have hk1 : (kk != [108, 105, 115, 116]) = true := by rw [bne, hk0]; rfl
    clear hkk hls
    go_enter Tryz.func165, Tryz.ntmps165
    go_wp2_with fail
    go_ret
    exact ⟨Below.refl _ _, .inr ⟨HT.out, rfl⟩⟩
end Go.Proofs.YtkgbdddkcjpgfaaGreatDoor
