/- The program's let. -/
import Derived.Test.YtkfbhjinmpdfnaaGreatDoorM22
namespace Go.Proofs.YtkfbhjinmpdfnaaGreatDoor
open Go.RowKit

def LamSaid (n : Nat) : Prop := ∀ (w : World) (v : Value) (a b : Tr), RepP OkA (n + 1) w v (.agg [.lit (.string Pl.lambdaW), a, b]) → Calls Tryz.prog 13 #[v] w fun e w' => FPost (Pl.lam2 (Pl.isForm n) [a, b]) w e w'
theorem own_one2 (w : World) (e : TypeId) {base : Nat} (h : base ≤ w.heap.size) (u : Value) : (w.alloc (.cells #[u] e)).ownsRow base e 1 (.slice (some ⟨w.heap.size, 0, none⟩) 1 1) 1 [u] :=
  ⟨rfl, .inr ⟨w.heap.size, 1, #[u], rfl, h, heap_alloc_new _ _, Nat.le_refl _, by unfold maxLen; omega, rfl, rfl⟩⟩
theorem let2_eq (f : Tr → Bool) (l : List Tr) (bd : Tr) (h : l.all Pl.isPair = true) : Pl.let2 f [.agg l, bd] = ((Pl.lam2 f [.agg (l.map Pl.fstOf), bd]) :: (l.map Pl.sndOf).map f).all id := by
  show (l.all Pl.isPair && (Pl.namesOk (l.map Pl.fstOf) && f bd) && (l.map Pl.sndOf).all f) = _
  rw [h, lam2_eq, List.all_cons, all_map_id]
  rfl
theorem let2_bad (f : Tr → Bool) (l : List Tr) (bd : Tr) (h : l.all Pl.isPair = false) : Pl.let2 f [.agg l, bd] = false := by
  show (l.all Pl.isPair && (Pl.namesOk (l.map Pl.fstOf) && f bd) && (l.map Pl.sndOf).all f) = _
  rw [h]; rfl
theorem let2_nolist (f : Tr → Bool) (ps bd : Tr) (h : ¬ ∃ l, ps = .agg l) : Pl.let2 f [ps, bd] = false := by
  show Pl.letOk f ps bd = false
  unfold Pl.letOk
  split
  · exact absurd ⟨_, rfl⟩ h
  · rfl
theorem isPair_no {x : Tr} (h : ¬ ∃ a b, x = .agg [a, b]) : Pl.isPair x = false := by
  unfold Pl.isPair
  split
  · exact absurd ⟨_, _, rfl⟩ h
  · rfl

set_option maxHeartbeats 4000000 in
set_option maxRecDepth 100000 in
theorem p_readLet (n : Nat) (hF : FSaid n) (hL : LamSaid n) (w : World) (sl : Value) (vs : List Value) (ts : List Tr) (hS : SlOf w sl vs) (hA : AllP n w vs ts) :
    Calls Tryz.prog 44 #[sl] w fun e w' => FPost (Pl.let2 (Pl.isForm n) ts) w e w' := by
  obtain ⟨i0, hi0, hz0, hz1, hz2⟩ := info_parts Tryz.infoPT
  have as1 := Tryz.asNumber_List
  have as2 := Tryz.asTruth_List
  have as3 := Tryz.asName_List
  have as4 := Tryz.asList_List
  have hvl := hA.1
  by_cases h2 : ts.length = 2
  · obtain ⟨ps, bd, rfl⟩ := two_of h2
    obtain ⟨u1, u2, rfl⟩ := two_of (hvl.trans h2)
    have r1 := hA.2 0 u1 ps rfl rfl
    have r2 := hA.2 1 u2 bd rfl rfl
    obtain ⟨g, off, cap, rfl, hcap, hg, k0, ks⟩ := hS.cell0
    have k1 := ks 0 _ rfl
    simp only [Nat.zero_add, List.length_cons, List.length_nil] at k1 hcap ⊢
    have HBd := (show Hid _ from r2)
    obtain ⟨T2, x2, rfl, _⟩ := r2.iface
    have HF := (show Hid (FSaid n) from hF)
    have HL := (show Hid (LamSaid n) from hL)
    clear hA hS hF hL r2 hvl h2 ks
    by_cases hls : ∃ l, ps = .agg l
    · obtain ⟨l, rfl⟩ := hls
      obtain ⟨m, rfl⟩ : ∃ m, n = m + 1 := by
        cases n with
        | zero => exact r1.elim
        | succ m => exact ⟨m, rfl⟩
      obtain ⟨sb, bs, rfl, hSb, hbl, hlen, hAb⟩ := r1.list
      obtain ⟨ao, capb, rfl, hcapb, hcell⟩ := hSb
      rw [hbl] at k0 hcapb
      have HV := (show Hid (bs.length = l.length) from hbl)
      have HC := (show Hid _ from hcell)
      have HA := (show Hid _ from hAb)
      clear hbl hcell hAb r1
      go_enter Tryz.func44, Tryz.ntmps44
      go_wp2_with fail
      go_loopw [6, 7, 31] (fun nS vS i wr => ∃ (k : Nat) (nvs vvs : List Value), k ≤ l.length ∧ i = .int .i64 k ∧ Hid (QInv w wr k k nS vS nvs vvs) ∧ Hid ((l.take k).all Pl.isPair = true) ∧ Hid (AllP m w nvs ((l.take k).map Pl.fstOf)) ∧ Hid (AllP m w vvs ((l.take k).map Pl.sndOf))) (fun _ _ i _ => l.length - (intOf i).toNat)
      case atStart => exact ⟨0, [], [], Nat.zero_le _, rfl, QInv.start w, by simp [Hid], AllP.nil m w, AllP.nil m w⟩
      case round =>
        obtain ⟨k, nvs, vvs, hk, rfl, HQ, HP, HN1, HV1⟩ := hrel
        have HB : Hid (Below w.heap.size w wr) := HQ.out.below
        by_cases hlt : k < l.length
        · obtain ⟨u, hu⟩ : ∃ u, bs[k]? = some u := ⟨bs[k]'(by have := HV.out; omega), List.getElem?_eq_getElem (by have := HV.out; omega)⟩
          obtain ⟨x, hx⟩ : ∃ x, l[k]? = some x := ⟨l[k], List.getElem?_eq_getElem hlt⟩
          obtain ⟨g1, off1, rfl, hg1, hc⟩ := HC.out k u hu
          have hc' : wr.cell? ⟨g1, off1 + k, none⟩ = some u := (HB.out.cell (p := ⟨g1, off1 + k, none⟩) hg1).trans hc
          have hr := HA.out k u x hu hx
          have HX := (show Hid _ from hx)
          clear hu hx hc
          have hlt2 : (k : Int) < (l.length : Int) := by omega
          have hwr := HB.out.size
          by_cases hxl : ∃ xs, x = .agg xs
          · obtain ⟨xs, rfl⟩ := hxl
            obtain ⟨m', rfl⟩ : ∃ m', m = m' + 1 := by
              cases m with
              | zero => exact hr.elim
              | succ m' => exact ⟨m', rfl⟩
            obtain ⟨sx, vx, rfl, hSx, hxl2, _, hAx⟩ := hr.list
            by_cases hx2 : xs.length = 2
            · obtain ⟨x0, x1, rfl⟩ := two_of hx2
              obtain ⟨y0, y1, rfl⟩ := two_of (hxl2.trans hx2)
              obtain ⟨gx, offx, capx, rfl, hcapx, hgx, z0, zs⟩ := hSx.cell0
              have z1 := zs 0 y1 rfl
              simp only [Nat.zero_add, List.length_cons, List.length_nil] at z1 hcapx hc'
              have rr0 : RepP OkA (m' + 1) w y0 x0 := RepP.up _ _ _ _ (Nat.le_succ _) (hAx 0 y0 x0 rfl rfl)
              have rr1 : RepP OkA (m' + 1) w y1 x1 := RepP.up _ _ _ _ (Nat.le_succ _) (hAx 1 y1 x1 rfl rfl)
              have HP2 : Hid ((l.take (k + 1)).all Pl.isPair = true) := all_take_succ HP.out HX.out rfl
              have HN2 : Hid (AllP (m' + 1) w (nvs ++ [y0]) ((l.take (k + 1)).map Pl.fstOf)) := show AllP _ _ _ _ from by rw [map_take_succ _ HX.out]; exact HN1.out.snoc rr0
              have HV2 : Hid (AllP (m' + 1) w (vvs ++ [y1]) ((l.take (k + 1)).map Pl.sndOf)) := show AllP _ _ _ _ from by rw [map_take_succ _ HX.out]; exact HV1.out.snoc rr1
              obtain ⟨Ty0, xy0, rfl, hy0⟩ := rr0.iface
              obtain ⟨Ty1, xy1, rfl, hy1⟩ := rr1.iface
              have z0' : wr.cell? ⟨gx, offx, none⟩ = some (.iface Ty0 xy0) := (HB.out.cell (p := ⟨gx, offx, none⟩) hgx).trans z0
              clear hSx hxl2 hAx zs hx2 HP HN1 HV1 rr0 rr1 hr
              go_wp2_with (first | (at_builtin; refine wpList_append_lies _ rfl _ _ 41 rfl w.heap.size 37 i0 .nilIface 1 16 Tryz.underlying41 hi0 hz0 hz1 hz2 rfl (by decide) u6 k nvs rfl (HQ.out.nrow.alloc _) ⟨wr.heap.size, 0, none⟩ 1 1 [.iface Ty0 xy0] rfl rfl (cell_one_new _ _ _) (fun y hy => by simp at hy; subst hy; exact hy0) (by decide) (by unfold maxLen; omega) (by omega) (by simp; omega) (wr.heap.size + 1) (by simp) ?_; intro g3 cap3 w3 hown3 hgrow3 hat3 _; have HQ2 := (show Hid _ from HQ.out.pushN hown3 hgrow3 hat3); have z1' : w3.cell? ⟨gx, offx + 1, none⟩ = some (.iface Ty1 xy1) := (HQ2.out.below.cell (p := ⟨gx, offx + 1, none⟩) hgx).trans z1; have hwr3 := HQ2.out.below.size; clear hown3 hgrow3 hat3) | (at_builtin; refine wpList_append_lies _ rfl _ _ 41 rfl w.heap.size 37 i0 .nilIface 1 16 Tryz.underlying41 hi0 hz0 hz1 hz2 rfl (by decide) u7 k vvs rfl (HQ2.out.vrow.alloc _) ⟨w3.heap.size, 0, none⟩ 1 1 [.iface Ty1 xy1] rfl rfl (cell_one_new _ _ _) (fun y hy => by simp at hy; subst hy; exact hy1) (by decide) (by unfold maxLen; omega) (by omega) (by simp; omega) (w3.heap.size + 1) (by simp) ?_; intro g4 cap4 w4 hown4 hgrow4 hat4 _))
              go_roundw
              case rel => exact ⟨k + 1, _, _, by omega, by go_num, HQ2.out.pushV hown4 hgrow4 hat4, HP2, HN2, HV2⟩
              case measure => simp [intOf]; omega
            · have HE : Hid (Pl.let2 (Pl.isForm (m' + 1 + 1)) [.agg l, bd] = false) := let2_bad _ _ _ (all_fail HX.out (isPair_no (by rintro ⟨a, b, e⟩; rw [DataW.agg.injEq] at e; subst e; exact hx2 rfl)))
              obtain ⟨aox, capx, rfl, _⟩ := hSx
              have hne : ((vx.length : Int) != 2) = true := by simp; omega
              clear hxl2 hAx hr hx2
              go_wp2_with (go_at_call 38; refine (p_noForm _ _).mono ?_; rintro e w' ⟨rfl, rfl⟩)
              go_ret2
              exact ⟨HB.out, .inr ⟨HE.out, _, _, rfl⟩⟩
          · have HE : Hid (Pl.let2 (Pl.isForm (m + 1)) [.agg l, bd] = false) := let2_bad _ _ _ (all_fail HX.out (isPair_no (by rintro ⟨a, b, e⟩; exact hxl ⟨_, e⟩)))
            obtain ⟨y, hy⟩ := hr.no_list hxl
            clear hr hxl
            rcases hy with rfl | rfl | rfl
            · go_wp2_with (go_at_call 38; refine (p_noForm _ _).mono ?_; rintro e w' ⟨rfl, rfl⟩)
              go_ret2
              exact ⟨HB.out, .inr ⟨HE.out, _, _, rfl⟩⟩
            · go_wp2_with (go_at_call 38; refine (p_noForm _ _).mono ?_; rintro e w' ⟨rfl, rfl⟩)
              go_ret2
              exact ⟨HB.out, .inr ⟨HE.out, _, _, rfl⟩⟩
            · go_wp2_with (go_at_call 38; refine (p_noForm _ _).mono ?_; rintro e w' ⟨rfl, rfl⟩)
              go_ret2
              exact ⟨HB.out, .inr ⟨HE.out, _, _, rfl⟩⟩
        · have hke : k = l.length := by omega
          subst hke
          rw [List.take_length] at HP HN1 HV1
          have k1' : wr.cell? ⟨g, off + 1, none⟩ = some (.iface T2 x2) := (HB.out.cell (p := ⟨g, off + 1, none⟩) hg).trans k1
          have HNm : Hid (RepP OkA (m + 1) wr (.iface 41 u6) (.agg (l.map Pl.fstOf))) := (HN1.out.later HB.out).rep (by simpa using HQ.out.nrow) (by simpa using hlen)
          have HBd2 : Hid (RepP OkA (m + 1) wr (.iface T2 x2) bd) := HBd.out.later HB.out
          have HE : Hid _ := let2_eq (Pl.isForm (m + 1)) l bd HP.out
          obtain ⟨aon, capn, rfl, _⟩ := slOf_own HQ.out.nrow
          have HVr : Hid (wr.ownsRow w.heap.size PT 1 u7 l.length vvs) := HQ.out.vrow
          have hvl : vvs.length = l.length := by have := HQ.out.vrow.1; omega
          have hnl : nvs.length = l.length := by have := HQ.out.nrow.1; omega
          rw [hnl] at HNm ⊢
          have HLm := (show Hid (RepP OkA (m + 1 + 1) (wr.alloc (.cells #[.iface 43 (.string ⟨#[108, 97, 109, 98, 100, 97]⟩), .iface 41 (.slice aon l.length capn), .iface T2 x2] PT (0, 0))) (.iface 41 (.slice (some ⟨wr.heap.size, 0, none⟩) 3 3)) (.agg [.lit (.string Pl.lambdaW), .agg (l.map Pl.fstOf), bd])) from rep_lambda HNm.out HBd2.out _ rfl)
          have hwr := HB.out.size
          clear hk hlt HNm HBd2 HP hnl HQ
          by_cases hz : l.length = 0
          · have hl0 : l = [] := List.eq_nil_of_length_eq_zero hz
            subst hl0
            obtain ⟨aov, capv, rfl, _⟩ := slOf_own HVr.out
            rw [hvl] at HVr ⊢
            have HS1 : Hid (∀ (o : Obj) (u : Value), SlOf ((wr.alloc o).alloc (.cells #[u] PT)) (.slice (some ⟨wr.heap.size + 1, 0, none⟩) 1 1) [u]) := fun o u => by
              have := slOf_own (own_one2 (wr.alloc o) PT (Nat.zero_le _) u)
              rwa [show (wr.alloc o).heap.size = wr.heap.size + 1 by simp] at this
            have HB3 : Hid (∀ o o2 : Obj, Below w.heap.size w ((wr.alloc o).alloc o2)) := fun o o2 => (HB.out.alloc hwr o).alloc (by simp; omega) o2
            go_wp2_with (first | (at_builtin; refine wpList_append_zero rfl _ _ 41 rfl 37 i0 Tryz.underlying41 hi0 ⟨wr.heap.size + 1, 0, none⟩ 1 1 (Nat.le_refl _) _ _ rfl rfl ?_))
            refine (p_readCall _ _ [_] [Pl.lam2 (Pl.isForm (m + 1)) [.agg ([].map Pl.fstOf), bd]] (HS1.out _ _) rfl (by simp) (fun v hv => by simp at hv; exact ⟨_, _, hv⟩) (fun i v r hv hr => ?_)).mono ?_
            · cases i with
              | zero =>
                simp at hv hr
                subst hv hr
                exact fun w' hb => HL.out w' _ _ _ (RepP.later (n := m + 1 + 1) HLm.out (((Below.refl _ _).alloc (Nat.le_refl _) _).trans (hb.mono (by simp))))
              | succ i => simp at hv
            · rintro e w5 ⟨hB5, ⟨hr, T, x, rfl⟩ | ⟨hr, v, es, rfl⟩⟩
              · have HR := (show Hid _ from HE.out.trans hr)
                have HB5 : Hid (Below w.heap.size w w5) := (HB3.out _ _).trans (hB5.mono (by simp; omega))
                clear hr hB5
                go_wp2_with fail
                go_ret2
                exact ⟨HB5.out, .inl ⟨HR.out, _, _, rfl⟩⟩
              · have HR := (show Hid _ from HE.out.trans hr)
                have HB5 : Hid (Below w.heap.size w w5) := (HB3.out _ _).trans (hB5.mono (by simp; omega))
                clear hr hB5
                unfold errV
                go_wp2_with fail
                go_ret2
                exact ⟨HB5.out, .inr ⟨HR.out, _, _, rfl⟩⟩
          · have hone : ∀ u ∈ vvs, u.oneCell' = true := fun u hu => by
              obtain ⟨T, x, rfl⟩ := HV1.out.iface u hu
              rfl
            obtain ⟨g7, cap7, rfl, _, _⟩ := HVr.out.form (by omega)
            have HO1 : Hid (∀ (o : Obj) (u : Value), ((wr.alloc o).alloc (.cells #[u] PT)).ownsRow (wr.heap.size + 1) PT 1 (.slice (some ⟨wr.heap.size + 1, 0, none⟩) 1 1) 1 [u]) := fun o u => by
              have e : (wr.alloc o).heap.size = wr.heap.size + 1 := by simp
              rw [← e]
              exact own_one2 (wr.alloc o) PT (Nat.le_refl _) u
            have HB3 : Hid (∀ o o2 : Obj, Below w.heap.size w ((wr.alloc o).alloc o2)) := fun o o2 => (HB.out.alloc hwr o).alloc (by simp; omega) o2
            have HB4 : Hid (∀ o o2 : Obj, Below (wr.alloc o).heap.size (wr.alloc o) ((wr.alloc o).alloc o2)) := fun o o2 => (Below.refl _ _).alloc (Nat.le_refl _) o2
            go_wp2_with (first | (at_builtin; refine wpList_append_lies _ rfl _ _ 41 rfl (wr.heap.size + 1) 37 i0 .nilIface 1 16 Tryz.underlying41 hi0 hz0 hz1 hz2 rfl (by decide) (.slice (some ⟨wr.heap.size + 1, 0, none⟩) 1 1) 1 _ rfl (HO1.out _ _) ⟨g7, 0, none⟩ l.length cap7 vvs rfl (by omega) (((HVr.out.alloc _).alloc _).cells rfl) hone (by omega) (by unfold maxLen; omega) (by omega) (by simp) (wr.heap.size + 1 + 1) (by simp) ?_; intro g6 cap6 w6 hown6 hgrow6 hat6 hlt6))
            have HB6 : Hid (Below w.heap.size w w6) := (HB3.out _ _).grown hgrow6 (by simp; omega) (fun j hj => by simp [Value.ownBlock] at hj; omega)
            have HB7 := (show Hid (Below (World.heap _).size _ w6) from (HB4.out _ _).grown hgrow6 (by simp) (fun j hj => by simp [Value.ownBlock] at hj ⊢; omega))
            have HS6 := (show Hid (SlOf w6 (.slice (some ⟨g6, 0, none⟩) (1 + l.length) cap6) (.iface 41 (.slice (some ⟨wr.heap.size, 0, none⟩) 3 3) :: vvs)) from slOf_own hown6)
            have hw6 := HB6.out.size
            clear hown6 hgrow6 hat6 hlt6
            refine (p_readCall _ _ (_ :: vvs) (Pl.lam2 (Pl.isForm (m + 1)) [.agg (l.map Pl.fstOf), bd] :: (l.map Pl.sndOf).map (Pl.isForm (m + 1))) HS6.out (by simp [hvl]) (by simp; omega) (fun v hv => ?_) (fun i v r hv hr => ?_)).mono ?_
            · rcases List.mem_cons.1 hv with h | h
              · exact ⟨_, _, h⟩
              · exact HV1.out.iface v h
            · cases i with
              | zero =>
                simp at hv hr
                subst hv hr
                exact fun w' hb => HL.out w' _ _ _ (RepP.later (n := m + 1 + 1) HLm.out (HB7.out.trans (hb.mono HB7.out.size)))
              | succ i =>
                rw [List.getElem?_cons_succ] at hv hr
                rw [List.getElem?_map, Option.map_eq_some_iff] at hr
                obtain ⟨x, hx, rfl⟩ := hr
                exact HF.out.call (RepP.up _ _ _ _ (Nat.le_succ _) ((HV1.out.2 i v x hv hx).later HB6.out))
            · rintro e w5 ⟨hB5, ⟨hr, T, x, rfl⟩ | ⟨hr, v, es, rfl⟩⟩
              · have HR := (show Hid _ from HE.out.trans hr)
                have HB5 : Hid (Below w.heap.size w w5) := HB6.out.trans (hB5.mono hw6)
                clear hr hB5
                go_wp2_with fail
                go_ret2
                exact ⟨HB5.out, .inl ⟨HR.out, _, _, rfl⟩⟩
              · have HR := (show Hid _ from HE.out.trans hr)
                have HB5 : Hid (Below w.heap.size w w5) := HB6.out.trans (hB5.mono hw6)
                clear hr hB5
                unfold errV
                go_wp2_with fail
                go_ret2
                exact ⟨HB5.out, .inr ⟨HR.out, _, _, rfl⟩⟩
    · have HE : Hid (Pl.let2 (Pl.isForm n) [ps, bd] = false) := let2_nolist _ _ _ hls
      obtain ⟨y, hy⟩ := r1.no_list hls
      clear r1 hls
      rcases hy with rfl | rfl | rfl
      · go_enter Tryz.func44, Tryz.ntmps44
        go_wp2_with (go_at_call 38; refine (p_noForm _ _).mono ?_; rintro e w' ⟨rfl, rfl⟩)
        go_ret2
        exact ⟨Below.refl _ _, .inr ⟨HE.out, _, _, rfl⟩⟩
      · go_enter Tryz.func44, Tryz.ntmps44
        go_wp2_with (go_at_call 38; refine (p_noForm _ _).mono ?_; rintro e w' ⟨rfl, rfl⟩)
        go_ret2
        exact ⟨Below.refl _ _, .inr ⟨HE.out, _, _, rfl⟩⟩
      · go_enter Tryz.func44, Tryz.ntmps44
        go_wp2_with (go_at_call 38; refine (p_noForm _ _).mono ?_; rintro e w' ⟨rfl, rfl⟩)
        go_ret2
        exact ⟨Below.refl _ _, .inr ⟨HE.out, _, _, rfl⟩⟩
  · have HE : Hid (Pl.let2 (Pl.isForm n) ts = false) := let2_not h2
    obtain ⟨ao, cap, rfl, _⟩ := hS
    have hne : ((vs.length : Int) != 2) = true := by simp; omega
    clear hA hF hL h2 hvl
    go_enter Tryz.func44, Tryz.ntmps44
    go_wp2_with (go_at_call 38; refine (p_noForm _ _).mono ?_; rintro e w' ⟨rfl, rfl⟩)
    go_ret2
    exact ⟨Below.refl _ _, .inr ⟨HE.out, _, _, rfl⟩⟩
end Go.Proofs.YtkfbhjinmpdfnaaGreatDoor
