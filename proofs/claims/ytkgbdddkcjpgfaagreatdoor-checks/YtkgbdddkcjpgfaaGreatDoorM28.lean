/- The program's syntax.Read. -/
import Derived.Test.YtkgbdddkcjpgfaaGreatDoorM27
namespace Go.Proofs.YtkgbdddkcjpgfaaGreatDoor
open Go.RowKit

theorem topOf_some (n : Nat) (t : Tr) : (Pl.topOf n t).isSome = Pl.isTop n t := by
  have hf : (fun x => (Pl.formOf n x).isSome) = Pl.isForm n := funext (Pl.formOf_some n)
  unfold Pl.topOf
  split
  · rename_i h r
    show _ = if h = Pl.defineW then Pl.asgOk (Pl.isForm n) r else Pl.isForm (n + 1) _
    split
    · rw [Pl.asgF_some, hf]
    · exact Pl.formOf_some _ _
  · rename_i hno
    rw [Pl.formOf_some]
    unfold Pl.isTop
    split
    · rename_i h r
      exact absurd rfl (hno h r)
    · rfl
theorem topOf_define (n : Nat) (r : List Tr) : Pl.topOf n (.agg (.lit (.string Pl.defineW) :: r)) = Pl.asgF .define (Pl.formOf n) r := by simp [Pl.topOf]
theorem kwOf_define (r : List Tr) : kwOf (.lit (.string Pl.defineW) :: r) = [100, 101, 102, 105, 110, 101] := rfl
theorem topOf_list {n : Nat} {ts : List Tr} (h : ¬ kwOf ts = [100, 101, 102, 105, 110, 101]) : Pl.topOf n (.agg ts) = Pl.formOf (n + 1) (.agg ts) := by
  unfold Pl.topOf
  split
  · rename_i h' r heq
    rw [DataW.agg.injEq] at heq
    subst heq
    rw [if_neg]
    rintro rfl
    exact h (kwOf_define r)
  · rfl
theorem topOf_atom {n : Nat} {t : Tr} (h : ¬ ∃ ts, t = .agg ts) : Pl.topOf n t = Pl.formOf (n + 1) t := by
  unfold Pl.topOf
  split
  · exact absurd ⟨_, rfl⟩ h
  · rfl
theorem kwOf_is {ts : List Tr} (h : kwOf ts = [100, 101, 102, 105, 110, 101]) : ∃ r, ts = .lit (.string Pl.defineW) :: r := by
  unfold kwOf at h
  cases hk : Pl.headKw ts with
  | none => rw [hk] at h; simp at h
  | some k =>
    rw [hk] at h
    dsimp only at h
    subst h
    unfold Pl.headKw at hk
    split at hk
    · split at hk
      · obtain rfl := Option.some.inj hk; exact ⟨_, rfl⟩
      · simp at hk
    · simp at hk
/- What reading an input comes to. -/
def RdQ (M : Nat → Prop) (w : World) (s : Sg) (tb mb : Nat) (ps : List (Pl.PV × Pl.PV)) (bs : Pl.Byt) (v ev : Value) (w' : World) : Prop :=
  w.grownBy w' (some mb) ∧ ∃ t, SgR s t ∧ t.ns.length ≤ s.ns.length + 300 ∧
    ((∃ c es, Pl.check bs = c ∧ 0 < c ∧ c ≤ 5 ∧ ev = errV es c ∧ t.pb = s.pb ∧ Rdr M w' t tb mb ps) ∨
     (∃ f, Pl.check bs = 0 ∧ Pl.readF bs = some f ∧ ev = .nilIface ∧ Rdr M w' t tb mb (ps ++ (Pl.settle f ps.length).2) ∧ RFm M w' t v (Pl.settle f ps.length).1))
theorem RdQ.of_fm {M : Nat → Prop} {w : World} {s : Sg} {tb mb : Nat} {ps : List (Pl.PV × Pl.PV)} {bs : Pl.Byt} {m z : Nat} {t : Tr} {o : Pl.FR} {v ev : Value} {w' : World} (h : FmQ M w s tb mb ps o z v ev w') (ho : o = Pl.fmF (Pl.topOf m t) ps.length) (hz : z ≤ 300) (hch : Pl.check bs = if Pl.isTop m t = true then 0 else 5) (hrd : Pl.readF bs = Pl.topOf m t) : RdQ M w s tb mb ps bs v ev w' := by
  obtain ⟨h1, u, h2, h3, ⟨r, h4, rfl, h5, h6⟩ | ⟨h4, h5, h6, es, rfl⟩⟩ := h
  · refine ⟨h1, u, h2, by omega, .inr ?_⟩
    rw [ho] at h4
    unfold Pl.fmF at h4
    obtain ⟨f, hf, rfl⟩ := Option.map_eq_some_iff.1 h4
    refine ⟨f, ?_, hrd.trans hf, rfl, h5, h6⟩
    rw [hch, ← topOf_some, hf]
    rfl
  · refine ⟨h1, u, h2, by omega, .inl ⟨5, es, ?_, by omega, by omega, rfl, h5, h6⟩⟩
    rw [ho] at h4
    unfold Pl.fmF at h4
    rw [hch, ← topOf_some, Option.map_eq_none_iff.1 h4]
    rfl
theorem readF_of {bs : Pl.Byt} {l : List (List UInt8)} {p : Pl.PR} (h : okSplit bs = some l) (hp : Pl.pd l.length l = some p) : Pl.readF bs = Pl.topOf (l.length - 1) p.t := by
  unfold Pl.readF
  rw [(okSplit_is h).1]
  dsimp only
  rw [hp]
theorem check_short {bs : List UInt8} (h : Pl.check bs ≠ 1) : bs.length ≤ 300 := by
  by_cases hl : 300 < bs.length
  · exact absurd (check_long hl) h
  · omega
set_option maxHeartbeats 2000000 in
set_option maxRecDepth 100000 in
theorem p_sread (b : ByteArray) (M : Nat → Prop) (w : World) (s : Sg) (tb mb : Nat) (ps : List (Pl.PV × Pl.PV)) (hR : Rdr M w s tb mb ps) (hge : GE w) (hz : s.ns.length + 300 ≤ NsMax) :
    Calls Tryz.prog 40 #[.string b, .pointer (some ⟨tb, 0, none⟩)] w fun e w' => ∃ v ev, e = .returned (.tuple #[v, ev]) ∧ RdQ M w s tb mb ps b.data.toList v ev w' := by
  have as1 := Tryz.asNumber_List
  have as2 := Tryz.asTruth_List
  have as3 := Tryz.asName_List
  have as4 := Tryz.asList_List
  have HR : Hid (Rdr M w s tb mb ps) := hR
  have HZ : Hid (s.ns.length + 300 ≤ NsMax) := hz
  clear hR hz
  go_enter Tryz.func40, Tryz.ntmps40
  go_wp2_with fail
  refine (p_dread b w hge).mono ?_
  rintro e w1 ⟨hB1, hcase⟩
  have HB1 := (show Hid (Below _ _ _) from hB1)
  clear hB1 hge
  rcases hcase with ⟨c, es, hc, hc0, hc5, rfl⟩ | ⟨l, p, v, hs, hl, hp, hgr, hch, rfl, hrep⟩
  · have HC := (show Hid _ from hc)
    clear hc
    unfold errV
    go_wp2_with fail
    go_ret2
    exact ⟨_, _, rfl, gm_below HB1.out, s, SgR.refl _, Nat.le_add_right _ _, .inl ⟨c, _, HC.out, hc0, hc5, rfl, rfl, HR.out.below HB1.out⟩⟩
  · have hrf := readF_of hs hp
    have hok := Pl.pd_ok _ _ _ hp
    have hbl : ∀ t ∈ l, t.length ≤ 300 := fun t ht => by
      have h1 : Pl.check b.data.toList ≠ 1 := by rw [hch]; split <;> simp
      have h2 := check_short h1
      have h3 := (Pl.toks_size (okSplit_is hs).1).2 t ht
      omega
    have hbig := hok.big hgr hbl
    have hwds := hok.words
    obtain ⟨n, hn⟩ := pd_pos2 hp
    rw [hn] at hrep hbig hwds
    rw [hn, Nat.add_sub_cancel] at hch hrf
    have hn300 : n + 1 ≤ 300 := by omega
    have hrep1 : RepP (fun k => ¬ M k) (n + 1) w1 v p.t := RepP.mono (fun k _ hk hm => by have := HR.out.mlt k hm; omega) _ _ _ hrep
    have HCh : Hid (Pl.check b.data.toList = (if Pl.isTop n p.t = true then 0 else 5) ∧ Pl.readF b.data.toList = Pl.topOf n p.t) := ⟨hch, hrf⟩
    have HB2 : Hid (Below w.heap.size w (w1.alloc (rdO tb))) := HB1.out.alloc HB1.out.size _
    have hB3 : Below w1.heap.size w1 (w1.alloc (rdO tb)) := bel1 _ _
    have hR2 : Rdr M (w1.alloc (rdO tb)) s tb mb ps := HR.out.below HB2.out
    have hz2 : s.ns.length + Pl.tsz (n + 1) p.t ≤ NsMax := by have := HZ.out; omega
    have hz3 : Pl.tsz (n + 1) p.t ≤ 300 := by omega
    have hform : (Pl.topOf n p.t = Pl.formOf (n + 1) p.t) → Hid (Calls Tryz.prog 67 #[.agg #[.pointer (some ⟨tb, 0, none⟩)], v] (w1.alloc (rdO tb)) fun e w' => ∃ v ev, e = .returned (.tuple #[v, ev]) ∧ Hid (RdQ M w s tb mb ps b.data.toList v ev w')) := fun ht => show Calls _ _ _ _ _ from
      (f_said (n + 1) (by omega) M w1 v p.t hrep1 hbig M (w1.alloc (rdO tb)) s tb mb ps (Stp.of_below hB3) hR2 hz2).mono (fun e w' h => by
        obtain ⟨v, ev, h1, h2⟩ := h.one
        exact ⟨v, ev, h1, RdQ.of_fm (h2.from_ HB2.out) (by rw [ht]) hz3 HCh.out.1 HCh.out.2⟩)
    have cw : (w1.alloc (rdO tb)).cell? ⟨w1.heap.size, 0, none⟩ = some (.pointer (some ⟨tb, 0, none⟩)) := cells_at (heap_alloc_new w1 (rdO tb)) 0
    clear hch hrf hp hs hn hl hok hbl hrep hwds hgr
    by_cases hls : ∃ ts, p.t = .agg ts
    · obtain ⟨ts, hts⟩ := hls
      rw [hts] at hrep1 hform hbig hz2 hz3
      obtain ⟨sl, vs, rfl, hS, hA, hlen⟩ := hrep1.drow
      have hkw := kw_call (tb := tb) hS hA
      by_cases hk : kwOf ts = [100, 101, 102, 105, 110, 101]
      · obtain ⟨r, rfl⟩ := kwOf_is hk
        match vs, hA.1 with
        | u :: us, _ =>
          rw [hk] at hkw
          obtain ⟨g, off, cap, rfl, hcap, hg, c0, _⟩ := (Sl.slOf hS).cell0
          have HK := (show Hid (∀ L c, L = us.length + 1 → c = cap → Calls Tryz.prog 65 #[.slice (some ⟨g, off, none⟩) L c] (w1.alloc (rdO tb)) fun e w' => e = .returned (.string ⟨([100, 101, 102, 105, 110, 101] : List UInt8).toArray⟩) ∧ w1.alloc (rdO tb) = w') from by rintro _ _ rfl rfl; exact hkw)
          have hS2 : DRow M (w1.alloc (rdO tb)).drew (.slice (some ⟨g, off, none⟩) (us.length + 1) cap) (u :: us) := Sl.stp (Stp.of_below (hB3.drew)) hS
          have hsum : (r.map (Pl.tsz n)).sum ≤ Pl.tsz (n + 1) (.agg (.lit (.string Pl.defineW) :: r)) := by
            show _ ≤ ((.lit (.string Pl.defineW) :: r).map (Pl.tsz n)).sum
            simp
          have HD : Hid (∀ (ao : Option Addr) (L c : Nat), L = us.length → us.length ≤ c → (us.length ≠ 0 → ao = some ⟨g, off + 1, none⟩) → Calls Tryz.prog 66 #[.agg #[.pointer (some ⟨tb, 0, none⟩)], .slice ao L c] (w1.alloc (rdO tb)).drew fun e w' => ∃ v ev, e = .returned (.tuple #[v, ev]) ∧ Hid (RdQ M w s tb mb ps b.data.toList v ev w')) := fun ao L c h0 h1 h2 => by
            subst h0
            exact (p_define n (f_said n (by omega)) M _ s tb mb ps _ us r (hR2.below (Below.refl _ _).drew) (Sl.tail1 hS2 us.length rfl ao c h1 h2) (AllD.below (AllD.tail hA) hB3.drew) (fun x hx => hbig x (List.mem_cons_of_mem _ hx)) (by omega) _ rfl).mono (fun e w' h => by
              obtain ⟨v, ev, h1, h2⟩ := h.one
              refine ⟨v, ev, h1, RdQ.of_fm (h2.from_ HB2.out.drew) ?_ (Nat.le_trans hsum hz3) HCh.out.1 HCh.out.2⟩
              rw [hts, topOf_define])
          clear hkw hk hA hS hrep1 hform hts hS2 hR2 hB3 hbig
          obtain ⟨c, rfl⟩ : ∃ c, cap = c + 1 := ⟨cap - 1, by omega⟩
          rcases c with _ | c
          all_goals clear HCh as1 as2 as3 HR HZ HB1 HB2
          all_goals
          go_wp2_with (go_at_call 65; refine (HK.out _ _ (by omega) (by omega)).mono ?_; rintro e w' ⟨rfl, rfl⟩)
          go_region_with (go_at_call 66; refine (HD.out _ _ _ (by omega) (by omega) (by intro hh; first | rfl | (exfalso; omega))).mono ?_; rintro e w2 ⟨v, ev, rfl, HQ⟩)
          all_goals
            go_wp2_with fail
            go_ret2
            exact ⟨_, _, rfl, HQ.out⟩
      · have HF := hform (topOf_list hk)
        have hk1 : (kwOf ts == [100, 101, 102, 105, 110, 101]) = false := by simpa using hk
        obtain ⟨ao, cap, rfl, _⟩ := Sl.slOf hS
        have HK := (show Hid _ from hkw)
        generalize kwOf ts = kk at *
        clear hkw hk hA hS hrep1 hform hts hR2 hB3 hbig
        go_wp2_with (go_at_call 65; refine (Calls.mono HK.out) ?_; rintro e w' ⟨rfl, rfl⟩)
        refine Calls.mono HF.out ?_
        rintro e w3 ⟨v9, ev9, rfl, HQ⟩
        go_wp2_with fail
        go_ret2
        exact ⟨_, _, rfl, HQ.out⟩
    · have HF := hform (topOf_atom hls)
      obtain ⟨y, hy⟩ := RepP.no_list hrep1 hls
      clear hrep1 hls hform hR2 hB3 hbig
      rcases hy with rfl | rfl | rfl
      · go_wp2_with fail
        refine Calls.mono HF.out ?_
        rintro e w3 ⟨v9, ev9, rfl, HQ⟩
        go_wp2_with fail
        go_ret2
        exact ⟨_, _, rfl, HQ.out⟩
      · go_wp2_with fail
        refine Calls.mono HF.out ?_
        rintro e w3 ⟨v9, ev9, rfl, HQ⟩
        go_wp2_with fail
        go_ret2
        exact ⟨_, _, rfl, HQ.out⟩
      · go_wp2_with fail
        refine Calls.mono HF.out ?_
        rintro e w3 ⟨v9, ev9, rfl, HQ⟩
        go_wp2_with fail
        go_ret2
        exact ⟨_, _, rfl, HQ.out⟩
end Go.Proofs.YtkgbdddkcjpgfaaGreatDoor
