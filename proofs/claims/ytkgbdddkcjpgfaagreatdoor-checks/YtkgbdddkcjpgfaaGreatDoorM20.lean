/- The program's reader: quote, if, begin, calls. -/
import Derived.Test.YtkgbdddkcjpgfaaGreatDoorM19
import Derived.BigQuiet
import Derived.Deep.RegionWith
import Derived.Deep.DeepCutAuto
namespace Go.Proofs.YtkgbdddkcjpgfaaGreatDoor
open Go.RowKit

theorem bel1 (w : World) (o : Obj) : Below w.heap.size w (w.alloc o) := (Below.refl _ _).alloc (Nat.le_refl _) _
theorem bigT_up {ok : Nat → Prop} {w : World} : ∀ (n m : Nat) (v : Value) (t : Tr), RepP ok n w v t → bigT n t → bigT m t
  | 0, _, _, _, h, _ => h.elim
  | _ + 1, 0, _, _, _, _ => trivial
  | n + 1, m + 1, v, t, h, hb => by
    match t, h, hb with
    | .lit (.int _ _), _, hb => exact hb
    | .lit (.bool _), _, _ => trivial
    | .lit (.string _), _, hb => exact hb
    | .agg ts, h, hb =>
      obtain ⟨sl, vs, _, _, h3, h4, _⟩ := h
      intro x hx
      obtain ⟨i, hi⟩ := List.mem_iff_getElem?.1 hx
      have hl : vs.length = ts.length := h3.1.trans (Nat.mul_one _)
      have hlt := (List.getElem?_eq_some_iff.1 hi).1
      exact bigT_up n m _ x (h4 i vs[i] x (List.getElem?_eq_getElem (by omega)) hi) (hb x hx)
theorem one_of {α : Type} {l : List α} (h : l.length = 1) : ∃ a, l = [a] := by
  match l, h with
  | [a], _ => exact ⟨a, rfl⟩
theorem two_of {α : Type} {l : List α} (h : l.length = 2) : ∃ a b, l = [a, b] := by
  match l, h with
  | [a, b], _ => exact ⟨a, b, rfl⟩
theorem three_of {α : Type} {l : List α} (h : l.length = 3) : ∃ a b c, l = [a, b, c] := by
  match l, h with
  | [a, b, c], _ => exact ⟨a, b, c, rfl⟩
abbrev AllD (M : Nat → Prop) (n : Nat) (w : World) (vs : List Value) (ts : List Tr) : Prop := All2 (RepP (fun k => ¬ M k) n w) vs ts
theorem AllD.iface {M : Nat → Prop} {n : Nat} {w : World} {vs : List Value} {ts : List Tr} (h : AllD M n w vs ts) : ∀ v ∈ vs, ∃ T x, v = .iface T x := by
  intro v hv
  obtain ⟨i, hi⟩ := List.mem_iff_getElem?.1 hv
  have hlt : i < ts.length := by have := (List.getElem?_eq_some_iff.1 hi).1; have := h.1; omega
  obtain ⟨T, x, rfl, _⟩ := (h.2 i v ts[i] hi (List.getElem?_eq_getElem hlt)).iface
  exact ⟨T, x, rfl⟩
set_option maxHeartbeats 1000000 in
set_option maxRecDepth 100000 in
theorem p_quote (n : Nat) (hn : n ≤ 1000) (M : Nat → Prop) (w : World) (s : Sg) (tb mb : Nat) (ps : List (Pl.PV × Pl.PV)) (sl : Value) (vs : List Value) (ts : List Tr) (k : Tr) (hR : Rdr M w s tb mb ps) (hS : DRow M w sl vs) (hA : AllD M n w vs ts) (hB : ∀ x ∈ ts, bigT n x) (o : Pl.FR) (ho : o = Pl.fmF (if ts.length == 1 then some (Pl.mkF .const [] (.agg (k :: ts)) [] []) else none) ps.length) :
    Calls Tryz.prog 150 #[rdV tb, sl] w fun e w' => FmPost M w s tb mb ps o 0 e w' := by
  have HR : Hid (Rdr M w s tb mb ps) := hR
  have hvl := hA.1
  unfold rdV
  by_cases h1 : ts.length = 1
  · obtain ⟨x, rfl⟩ := one_of h1
    obtain ⟨u, rfl⟩ := one_of (hvl.trans h1)
    have hr := hA.2 0 u x rfl rfl
    have HRp : Hid (RepP (fun k => ¬ M k) 1000 w u x) := RepP.up _ _ _ _ hn hr
    have HBg : Hid (bigT 1000 x) := bigT_up n 1000 u x hr (hB x (by simp))
    obtain ⟨T, y, rfl, _⟩ := hr.iface
    obtain ⟨g, off, cap, rfl, hcap, hg, c0, _⟩ := (Sl.slOf hS).cell0
    simp only [List.length_nil, Nat.zero_add] at hcap ⊢
    have HO : Hid (o = some (Pl.PF.mk .const [] (.agg [k, x]) (Pl.made 1000 ps.length x).1 [] [], (Pl.made 1000 ps.length x).2)) := show o = _ from by
      rw [ho]
      simp [Pl.fmF, Pl.mkF, Pl.settle_const, Pl.quoted]
    clear hS hA hB hR hr h1 hvl ho
    go_enter Tryz.func150, Tryz.ntmps150
    go_wp2_with fail
    have HR1 := HR.out.below (bel1 w (rdO tb))
    refine (p_of 1000 M _ _ s ps _ x HR1.pairs HR1.mlt (HRp.out.later (bel1 w (rdO tb))) HBg.out).mono ?_
    rintro e w2 ⟨v, t, rfl, k1, k2, k3, k4⟩
    have HK : Hid (RV t v (Pl.made 1000 ps.length x).1) := k1
    have HP : Hid (Rdr M w2 t tb mb (ps ++ (Pl.made 1000 ps.length x).2)) := show Rdr _ _ _ _ _ _ from ⟨by obtain ⟨l, rfl⟩ := k4; exact HR1.tab.keep (k3.block _ HR1.tab.lt.1) (k3.block _ HR1.tab.lt.2), k2, HR1.mmb, HR1.mtb, fun j hj => Nat.lt_of_lt_of_le (HR1.mlt j hj) k3.size⟩
    have HG : Hid (w.grownBy w2 (some mb)) := gm_below ((bel1 w _).trans (k3.mono (bel1 w _).size))
    have HT : Hid (SgR s t ∧ t.ns.length ≤ s.ns.length + 0) := ⟨k4.r, by obtain ⟨l, rfl⟩ := k4; exact Nat.le_refl _⟩
    obtain ⟨T2, y2, rfl⟩ := k1.iface
    clear k1 k2 k3 k4 HR1 c0
    go_wp2_with fail
    go_ret2
    exact ⟨HG.out, t, HT.out.1, HT.out.2, .inl ⟨_, _, HO.out, rfl, HP.out, .const _ true [] (.agg [k, x]) _ [] [] HK.out rfl⟩⟩
  · have HE : Hid (o = none) := show o = none from by
      rw [ho, if_neg (by simpa using h1)]
      rfl
    obtain ⟨ao, cap, rfl, _⟩ := Sl.slOf hS
    have hne : ((vs.length : Int) != 1) = true := by simp; omega
    clear hS hA hB hR h1 hvl ho
    go_enter Tryz.func150, Tryz.ntmps150
    go_wp2_with (go_at_call 149; refine (p_noForm _ _).mono ?_; rintro e w' ⟨rfl, rfl⟩)
    go_ret2
    exact ⟨gm_below (bel1 w _), s, SgR.refl _, Nat.le_add_right _ _, .inr ⟨HE.out, rfl, HR.out.below (bel1 w _), _, _, rfl⟩⟩
/- Forms out of a row of data. -/
theorem forms_of (n : Nat) (hF : FSaid n) (M : Nat → Prop) (w : World) (s : Sg) (tb mb : Nat) (ps : List (Pl.PV × Pl.PV)) (sl : Value) (vs : List Value) (ts : List Tr) (hR : Rdr M w s tb mb ps) (hS : DRow M w sl vs) (hA : AllD M n w vs ts) (hB : ∀ x ∈ ts, bigT n x) (hlen : ts.length ≤ 1000) (hz : s.ns.length + (ts.map (Pl.tsz n)).sum ≤ NsMax) :
    Calls Tryz.prog 189 #[rdV tb, sl] w fun e w' => FmsPost M w s tb mb ps ((Pl.allF (Pl.formOf n) ts).map fun l => Pl.settleL l ps.length) ts.length (ts.map (Pl.tsz n)).sum e w' := by
  have := p_forms M w s tb mb ps sl vs (ts.map fun t => Pl.fmF (Pl.formOf n t)) (ts.map (Pl.tsz n)) hR hS (by rw [hA.1]; simp) (by simp) (by simp; omega) hz hA.iface (by
    intro i v F z hv hf hz
    rw [List.getElem?_map, Option.map_eq_some_iff] at hf hz
    obtain ⟨t, ht, rfl⟩ := hf
    obtain ⟨t', ht', rfl⟩ := hz
    rw [ht] at ht'
    obtain rfl := Option.some.inj ht'
    exact hF M w v t (hA.2 i v t hv ht) (hB t (List.mem_of_getElem? ht)))
  rw [Pl.seqL_eq, List.length_map] at this
  exact this
theorem sl_forms {M : Nat → Prop} {w : World} {s : Sg} {v : Value} {us : List Value} {fs : List Pl.PF} {n : Nat} (h : Sl M w TForm 1 v n us) (hl : us.length = n) (ha : All2 (RFm M w s) us fs) : Sl M w TForm 1 v fs.length us := by rw [← ha.1, hl]; exact h
set_option maxHeartbeats 1000000 in
set_option maxRecDepth 100000 in
theorem p_begin (n : Nat) (hF : FSaid n) (M : Nat → Prop) (w : World) (s : Sg) (tb mb : Nat) (ps : List (Pl.PV × Pl.PV)) (sl : Value) (vs : List Value) (ts : List Tr) (hR : Rdr M w s tb mb ps) (hS : DRow M w sl vs) (hA : AllD M n w vs ts) (hB : ∀ x ∈ ts, bigT n x) (hlen : ts.length ≤ 1000) (hz : s.ns.length + (ts.map (Pl.tsz n)).sum ≤ NsMax) (o : Pl.FR) (ho : o = Pl.fmF (if !ts.isEmpty then (Pl.allF (Pl.formOf n) ts).map fun l => Pl.mkF .begin [] .nil l [] else none) ps.length) :
    Calls Tryz.prog 152 #[rdV tb, sl] w fun e w' => FmPost M w s tb mb ps o (ts.map (Pl.tsz n)).sum e w' := by
  have HR : Hid (Rdr M w s tb mb ps) := hR
  have HB1 := bel1 w (rdO tb)
  have HC : Hid (Calls Tryz.prog 189 #[rdV tb, sl] (w.alloc (rdO tb)) fun e w' => FmsPost M (w.alloc (rdO tb)) s tb mb ps ((Pl.allF (Pl.formOf n) ts).map fun l => Pl.settleL l ps.length) ts.length (ts.map (Pl.tsz n)).sum e w') :=
    forms_of n hF M _ s tb mb ps sl vs ts (hR.below HB1) (Sl.stp (Stp.of_below HB1) hS) (hA.mono (fun _ _ h => h.go (Stp.of_below HB1))) hB hlen hz
  have hvl := hA.1
  obtain ⟨ao, cap, rfl, _⟩ := Sl.slOf hS
  unfold rdV at HC ⊢
  by_cases h0 : ts.length = 0
  · have HE : Hid (o = none) := show o = none from by
      obtain rfl := List.eq_nil_of_length_eq_zero h0
      exact ho
    have hz : ((vs.length : Int) == 0) = true := beq_iff_eq.2 (by omega)
    clear hS hA hB hR h0 hvl HC HB1 hF ho
    go_enter Tryz.func152, Tryz.ntmps152
    go_wp2_with (go_at_call 149; refine (p_noForm _ _).mono ?_; rintro e w' ⟨rfl, rfl⟩)
    go_ret2
    exact ⟨gm_below (bel1 w _), s, SgR.refl _, Nat.le_add_right _ _, .inr ⟨HE.out, rfl, HR.out.below (bel1 w _), _, _, rfl⟩⟩
  · have HE : Hid (o = ((Pl.allF (Pl.formOf n) ts).map fun l => Pl.settleL l ps.length).map fun r => (Pl.mkF .begin [] .nil r.1 [], r.2)) := show o = _ from by
      rw [ho, show ts.isEmpty = false from by cases ts <;> simp_all]
      cases Pl.allF (Pl.formOf n) ts with
      | none => rfl
      | some l => simp [Pl.fmF, Pl.mkF, Pl.settle_other]
    have HL : Hid (1 ≤ ts.length ∧ ts.length ≤ 1000) := ⟨by omega, hlen⟩
    have hz : ((vs.length : Int) == 0) = false := beq_eq_false_iff_ne.2 (by omega)
    have HG1 : Hid (Below w.heap.size w (w.alloc (rdO tb))) := HB1
    clear hS hA hB hR h0 hvl HB1 hF ho
    go_enter Tryz.func152, Tryz.ntmps152
    go_wp2_with fail
    refine Calls.mono HC.out ?_
    rintro e w2 ⟨hg, t, hsg, hnl, ⟨r, v, us, hr, rfl, hrd, hsl, hul, hall⟩ | ⟨hr, hpb, hrd, v, es, rfl⟩⟩
    · have HT : Hid (SgR s t ∧ t.ns.length ≤ s.ns.length + (ts.map (Pl.tsz n)).sum) := ⟨hsg, hnl⟩
      have HG : Hid (w.grownBy w2 (some mb)) := gm_trans (gm_below HG1.out) hg
      have HX : Hid (Rdr M w2 t tb mb (ps ++ r.2) ∧ RFm M w2 t (.iface 347 (.agg #[v])) (Pl.mkF .begin [] .nil r.1 [])) := ⟨hrd, .begin v us [] .nil .nothing r.1 [] (sl_forms hsl hul hall) hall.1 hall.2 (by rw [← hall.1, hul]; exact HL.out.1) (by rw [← hall.1, hul]; have := HL.out.2; omega)⟩
      have HO : Hid (o = some (Pl.mkF .begin [] .nil r.1 [], r.2)) := show _ = _ from by rw [HE.out, hr]; rfl
      obtain ⟨_, ao2, cap2, rfl, _⟩ := hsl
      clear hg hsg hnl hr hrd hul hall
      go_wp2_with fail
      go_ret2
      exact ⟨HG.out, t, HT.out.1, HT.out.2, .inl ⟨_, _, HO.out, rfl, HX.out.1, HX.out.2⟩⟩
    · have HT : Hid (SgR s t ∧ t.ns.length ≤ s.ns.length + (ts.map (Pl.tsz n)).sum) := ⟨hsg, hnl⟩
      have HG : Hid (w.grownBy w2 (some mb)) := gm_trans (gm_below HG1.out) hg
      have HT2 : Hid (t.pb = s.pb ∧ Rdr M w2 t tb mb ps) := ⟨hpb, hrd⟩
      have HE2 : Hid (o = none) := show _ = _ from by rw [HE.out, hr]; rfl
      clear hg hsg hnl hr hrd hpb
      unfold errV
      go_wp2_with fail
      go_ret2
      exact ⟨HG.out, t, HT.out.1, HT.out.2, .inr ⟨HE2.out, HT2.out.1, HT2.out.2, _, _, rfl⟩⟩
end Go.Proofs.YtkgbdddkcjpgfaaGreatDoor

/- The program's reader: if, calls, a name and a form. -/
namespace Go.Proofs.YtkgbdddkcjpgfaaGreatDoor
open Go.RowKit

theorem belN (w : World) (n : Nat) : Below w.heap.size w (w.drewN n) := ⟨rfl, rfl, rfl, Nat.le_refl _, fun _ _ => rfl⟩
set_option maxHeartbeats 1000000 in
set_option maxRecDepth 100000 in
theorem p_call (M : Nat → Prop) (w : World) (s : Sg) (tb mb : Nat) (ps : List (Pl.PV × Pl.PV)) (sl : Value) (vs : List Value) (Fs : List (Nat → Pl.FR)) (zs : List Nat) (hR : Rdr M w s tb mb ps) (hS : DRow M w sl vs) (hl : vs.length = Fs.length) (hzl : zs.length = Fs.length) (hlen : Fs.length ≤ 2000) (hpos : 1 ≤ Fs.length) (hz : s.ns.length + zs.sum ≤ NsMax) (hv1 : ∀ v ∈ vs, ∃ T x, v = .iface T x)
    (hF : ∀ (i : Nat) (v : Value) (F : Nat → Pl.FR) (z : Nat), vs[i]? = some v → Fs[i]? = some F → zs[i]? = some z → FCall M w v F z) (o : Pl.FR) (ho : o = (Pl.seqL Fs ps.length).map fun r => (Pl.mkF .call [] .nil r.1 [], r.2)) :
    Calls Tryz.prog 156 #[rdV tb, sl] w fun e w' => FmPost M w s tb mb ps o zs.sum e w' := by
  have HR : Hid (Rdr M w s tb mb ps) := hR
  have HB1 := bel1 w (rdO tb)
  have HC : Hid (Calls Tryz.prog 189 #[rdV tb, sl] (w.alloc (rdO tb)) fun e w' => FmsPost M (w.alloc (rdO tb)) s tb mb ps (Pl.seqL Fs ps.length) Fs.length zs.sum e w') :=
    p_forms M _ s tb mb ps sl vs Fs zs (hR.below HB1) (Sl.stp (Stp.of_below HB1) hS) hl hzl hlen hz hv1 (fun i v F z h1 h2 h3 => (hF i v F z h1 h2 h3).go (Stp.of_below HB1))
  obtain ⟨ao, cap, rfl, _⟩ := Sl.slOf hS
  unfold rdV at HC ⊢
  have HO : Hid (o = (Pl.seqL Fs ps.length).map fun r => (Pl.mkF .call [] .nil r.1 [], r.2)) := ho
  have HL : Hid (1 ≤ Fs.length ∧ Fs.length ≤ 2000) := ⟨hpos, hlen⟩
  have HG1 : Hid (Below w.heap.size w (w.alloc (rdO tb))) := HB1
  clear hS hR HB1 hF ho hl hzl hlen hz hv1
  go_enter Tryz.func156, Tryz.ntmps156
  go_wp2_with fail
  refine Calls.mono HC.out ?_
  rintro e w2 ⟨hg, t, hsg, hnl, ⟨r, v, us, hr, rfl, hrd, hsl, hul, hall⟩ | ⟨hr, hpb, hrd, v, es, rfl⟩⟩
  · have HT : Hid (SgR s t ∧ t.ns.length ≤ s.ns.length + zs.sum) := ⟨hsg, hnl⟩
    have HG : Hid (w.grownBy w2 (some mb)) := gm_trans (gm_below HG1.out) hg
    have HX : Hid (Rdr M w2 t tb mb (ps ++ r.2) ∧ RFm M w2 t (.iface 349 (.agg #[v])) (Pl.mkF .call [] .nil r.1 [])) := ⟨hrd, .call v us [] .nil .nothing r.1 [] (sl_forms hsl hul hall) hall.1 hall.2 (by rw [← hall.1, hul]; exact HL.out.1) (by rw [← hall.1, hul]; exact HL.out.2)⟩
    have HO2 : Hid (o = some (Pl.mkF .call [] .nil r.1 [], r.2)) := show _ = _ from by rw [HO.out, hr]; rfl
    obtain ⟨_, ao2, cap2, rfl, _⟩ := hsl
    clear hg hsg hnl hr hrd hul hall
    go_wp2_with fail
    go_ret2
    exact ⟨HG.out, t, HT.out.1, HT.out.2, .inl ⟨_, _, HO2.out, rfl, HX.out.1, HX.out.2⟩⟩
  · have HT : Hid (SgR s t ∧ t.ns.length ≤ s.ns.length + zs.sum) := ⟨hsg, hnl⟩
    have HG : Hid (w.grownBy w2 (some mb)) := gm_trans (gm_below HG1.out) hg
    have HT2 : Hid (t.pb = s.pb ∧ Rdr M w2 t tb mb ps) := ⟨hpb, hrd⟩
    have HE2 : Hid (o = none) := show _ = _ from by rw [HO.out, hr]; rfl
    clear hg hsg hnl hr hrd hpb
    unfold errV
    go_wp2_with fail
    go_ret2
    exact ⟨HG.out, t, HT.out.1, HT.out.2, .inr ⟨HE2.out, HT2.out.1, HT2.out.2, _, _, rfl⟩⟩
set_option maxHeartbeats 2000000 in
set_option maxRecDepth 100000 in
theorem p_ifForm (n : Nat) (hF : FSaid n) (M : Nat → Prop) (w : World) (s : Sg) (tb mb : Nat) (ps : List (Pl.PV × Pl.PV)) (sl : Value) (vs : List Value) (ts : List Tr) (hR : Rdr M w s tb mb ps) (hS : DRow M w sl vs) (hA : AllD M n w vs ts) (hB : ∀ x ∈ ts, bigT n x) (hlen : ts.length ≤ 1000) (hz : s.ns.length + (ts.map (Pl.tsz n)).sum ≤ NsMax) (o : Pl.FR) (ho : o = Pl.fmF (if ts.length == 3 then (Pl.allF (Pl.formOf n) ts).map fun l => Pl.mkF .iff [] .nil l [] else none) ps.length) :
    Calls Tryz.prog 151 #[rdV tb, sl] w fun e w' => FmPost M w s tb mb ps o (ts.map (Pl.tsz n)).sum e w' := by
  have HR : Hid (Rdr M w s tb mb ps) := hR
  have HB1 := bel1 w (rdO tb)
  have HC : Hid (Calls Tryz.prog 189 #[rdV tb, sl] (w.alloc (rdO tb)) fun e w' => FmsPost M (w.alloc (rdO tb)) s tb mb ps ((Pl.allF (Pl.formOf n) ts).map fun l => Pl.settleL l ps.length) ts.length (ts.map (Pl.tsz n)).sum e w') :=
    forms_of n hF M _ s tb mb ps sl vs ts (hR.below HB1) (Sl.stp (Stp.of_below HB1) hS) (hA.mono (fun _ _ h => h.go (Stp.of_below HB1))) hB hlen hz
  have hvl := hA.1
  obtain ⟨ao, cap, rfl, _⟩ := Sl.slOf hS
  unfold rdV at HC ⊢
  by_cases h0 : ts.length = 3
  · have HE : Hid (o = ((Pl.allF (Pl.formOf n) ts).map fun l => Pl.settleL l ps.length).map fun r => (Pl.mkF .iff [] .nil r.1 [], r.2)) := show o = _ from by
      rw [ho, if_pos (by simpa using h0)]
      cases Pl.allF (Pl.formOf n) ts with
      | none => rfl
      | some l => simp [Pl.fmF, Pl.mkF, Pl.settle_other]
    have hz : ((vs.length : Int) != 3) = false := by simp; omega
    have HL : Hid (ts.length = 3) := h0
    have HG1 : Hid (Below w.heap.size w (w.alloc (rdO tb))) := HB1
    clear hS hA hB hR h0 hvl HB1 hF ho
    go_enter Tryz.func151, Tryz.ntmps151
    go_wp2_with fail
    refine Calls.mono HC.out ?_
    rintro e w2 ⟨hg, t, hsg, hnl, ⟨r, v, us, hr, rfl, hrd, hsl, hul, hall⟩ | ⟨hr, hpb, hrd, v, es, rfl⟩⟩
    · have HT : Hid (SgR s t ∧ t.ns.length ≤ s.ns.length + (ts.map (Pl.tsz n)).sum) := ⟨hsg, hnl⟩
      have HG : Hid (w.grownBy w2 (some mb)) := gm_trans (gm_below HG1.out) hg
      have hul3 := hul.trans HL.out
      obtain ⟨a, b, c, rfl⟩ := three_of hul3
      obtain ⟨x, y, z, hxyz⟩ := three_of (hall.1.symm.trans hul3)
      rw [hxyz] at hall
      have h1 := hall.2 0 a x rfl rfl
      have h2 := hall.2 1 b y rfl rfl
      have h3 := hall.2 2 c z rfl rfl
      have HX : Hid (Rdr M w2 t tb mb (ps ++ r.2) ∧ RFm M w2 t (.iface 335 (.agg #[a, b, c])) (Pl.mkF .iff [] .nil r.1 [])) := ⟨hrd, by rw [hxyz]; exact .iff a b c x y z [] .nil .nothing [] h1 h2 h3⟩
      have HO : Hid (o = some (Pl.mkF .iff [] .nil r.1 [], r.2)) := show _ = _ from by rw [HE.out, hr]; rfl
      obtain ⟨Ta, xa, rfl⟩ := h1.iface
      obtain ⟨Tb, xb, rfl⟩ := h2.iface
      obtain ⟨Tc, xc, rfl⟩ := h3.iface
      have hsl3 : Sl M w2 TForm 1 v 3 [.iface Ta xa, .iface Tb xb, .iface Tc xc] := by rw [HL.out] at hsl; exact hsl
      obtain ⟨g, off, cap3, rfl, hcap3, hg3, k0, ks⟩ := (Sl.slOf (vs := [.iface Ta xa, .iface Tb xb, .iface Tc xc]) hsl3).cell0
      have k1 := ks 0 _ rfl
      have k2 := ks 1 _ rfl
      simp only [Nat.zero_add, List.length_cons, List.length_nil] at k1 k2 hcap3 ⊢
      clear hg hsg hnl hr hrd hul hall h1 h2 h3 ks hsl hsl3 hxyz hul3
      go_wp2_with fail
      go_quiet (fail)
      go_wp2_with fail
      go_ret2
      exact ⟨⟨HG.out.os, HG.out.tape, HG.out.output, HG.out.size, HG.out.block⟩, t, HT.out.1, HT.out.2, .inl ⟨_, _, HO.out, rfl, HX.out.1.below (belN _ _), HX.out.2.go (Stp.of_below (belN _ _)) (Sg.Le.refl _)⟩⟩
    · have HT : Hid (SgR s t ∧ t.ns.length ≤ s.ns.length + (ts.map (Pl.tsz n)).sum) := ⟨hsg, hnl⟩
      have HG : Hid (w.grownBy w2 (some mb)) := gm_trans (gm_below HG1.out) hg
      have HT2 : Hid (t.pb = s.pb ∧ Rdr M w2 t tb mb ps) := ⟨hpb, hrd⟩
      have HE2 : Hid (o = none) := show _ = _ from by rw [HE.out, hr]; rfl
      clear hg hsg hnl hr hrd hpb
      unfold errV
      go_wp2_with fail
      go_ret2
      exact ⟨HG.out, t, HT.out.1, HT.out.2, .inr ⟨HE2.out, HT2.out.1, HT2.out.2, _, _, rfl⟩⟩
  · have HE : Hid (o = none) := show o = none from by
      rw [ho, if_neg (by simpa using h0)]
      rfl
    have hz : ((vs.length : Int) != 3) = true := by simp; omega
    clear hS hA hB hR h0 hvl HC HB1 hF ho
    go_enter Tryz.func151, Tryz.ntmps151
    go_wp2_with (go_at_call 149; refine (p_noForm _ _).mono ?_; rintro e w' ⟨rfl, rfl⟩)
    go_ret2
    exact ⟨gm_below (bel1 w _), s, SgR.refl _, Nat.le_add_right _ _, .inr ⟨HE.out, rfl, HR.out.below (bel1 w _), _, _, rfl⟩⟩
end Go.Proofs.YtkgbdddkcjpgfaaGreatDoor
