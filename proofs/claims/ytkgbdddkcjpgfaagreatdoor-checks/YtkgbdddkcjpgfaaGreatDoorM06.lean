/- The reference's datum behind an opening bracket: what the loop keeps. -/
import Derived.Test.YtkgbdddkcjpgfaaGreatDoorM05
import Derived.Deep.AppendLies
namespace Go.Proofs.YtkgbdddkcjpgfaaGreatDoor
open Go.RowKit

theorem RepR.ptr {ok : Nat → Prop} {n : Nat} {w : World} {v : Value} {t : Tr} (h : RepR ok n w v t) : ∃ b, v = .pointer (some ⟨b, 0, none⟩) := by
  cases n with
  | zero => exact h.elim
  | succ n => obtain ⟨b, hv, _⟩ := h; exact ⟨b, hv⟩
structure LInv (n : Nat) (w wr : World) (b G : Nat) (L : Value) (all r : List (List UInt8)) (dp de : Nat) (g : Bool) (q : List (List UInt8)) (kids : Value) (ts : List Tr) (vs : List Value) (dpk : Nat) (gk : Bool) : Prop where
  suf : q <:+ all
  len : ts.length + q.length ≤ r.length
  lf : Pl.LF (Pl.pd n) r ts dpk gk q
  rd : Rd wr b L ((all.length - q.length : Nat) : Int) ((max dp (de + 1 + dpk) : Nat) : Int) (g || gk)
  toks : ToksAt wr L all
  out : wr.heap[G]? = some (.cells #[kLst, .int .i64 0, kNil, kids] TD (0, 0))
  row : wr.ownsRow (G + 1) TP 1 kids ts.length vs
  kid : ∀ (i : Nat) (u : Value) (x : Tr), vs[i]? = some u → ts[i]? = some x → RepR (fun k => G < k ∧ kids.ownBlock ≠ some k) n wr u x
  grown : w.grownBy wr (some b)
  sizeG : w.heap.size ≤ G
  bG : b < w.heap.size

theorem LInv.start {n : Nat} {w w1 : World} {b : Nat} {L : Value} {all r : List (List UInt8)} {dp de : Nat} {g : Bool} (hsuf : r <:+ all) (hR : Rd w1 b L ((all.length - r.length : Nat) : Int) ((max dp (de + 1) : Nat) : Int) g) (hT : ToksAt w1 L all)
    (hg : w.grownBy w1 (some b)) (hb : b < w.heap.size) (o : Obj) (ho : o = .cells #[kLst, .int .i64 0, kNil, .slice none 0 0] TD (0, 0)) (G : Nat) (hG : G = w1.heap.size) :
    LInv n w (w1.alloc o) b G L all r dp de g r (.slice none 0 0) [] [] 0 false where
  suf := hsuf
  len := by simp
  lf := Pl.LF.start _ _
  rd := (hR.alloc o).cast rfl (by omega) (by simp)
  toks := World.ownsRow.alloc hT o
  out := by rw [heap_new_of hG, ho]
  row := World.ownsRow_nil _ _ _ _
  kid := fun i u x hu => by simp at hu
  grown := grown_trans hg (World.grownBy_alloc _ _ _)
  sizeG := by rw [hG]; exact hg.size
  bG := hb

theorem LInv.ltG {n : Nat} {w wr : World} {b G : Nat} {L : Value} {all r : List (List UInt8)} {dp de : Nat} {g : Bool} {q : List (List UInt8)} {kids : Value} {ts : List Tr} {vs : List Value} {dpk : Nat} {gk : Bool} (h : LInv n w wr b G L all r dp de g q kids ts vs dpk gk) : G < wr.heap.size := lt_of_some h.out

theorem LInv.drewN {n : Nat} {w wr : World} {b G : Nat} {L : Value} {all r : List (List UInt8)} {dp de : Nat} {g : Bool} {q : List (List UInt8)} {kids : Value} {ts : List Tr} {vs : List Value} {dpk : Nat} {gk : Bool} (h : LInv n w wr b G L all r dp de g q kids ts vs dpk gk) (m : Nat) : LInv n w (wr.drewN m) b G L all r dp de g q kids ts vs dpk gk :=
  ⟨h.suf, h.len, h.lf, h.rd, h.toks, h.out, h.row, fun i u x hu hx => RepR.drewN (h.kid i u x hu hx), grown_drewN h.grown m, h.sizeG, h.bG⟩
theorem toks_cell {w : World} {G cap : Nat} {all : List (List UInt8)} (h : ToksAt w (.slice (some ⟨G, 0, none⟩) all.length cap) all) {i : Nat} {t : List UInt8} (hi : all[i]? = some t) : w.cell? ⟨G, i, none⟩ = some (.string ⟨t.toArray⟩) := by
  have hx : (all.map strV)[i]? = some (strV t) := by rw [List.getElem?_map, hi]; rfl
  have := h.cells (g := G) rfl i (strV t) hx
  rwa [show (⟨G, 0, none⟩ : Addr).add i = ⟨G, i, none⟩ from by rw [Addr.add_lit, Nat.zero_add]] at this
/- How many tokens are left, as the world tells it. -/
def mOf (all : List (List UInt8)) (b : Nat) (wr : World) : Nat := all.length - (intOf ((wr.cell? ⟨b, 1, none⟩).getD undef)).toNat
theorem LInv.m {n : Nat} {w wr : World} {b G : Nat} {L : Value} {all r : List (List UInt8)} {dp de : Nat} {g : Bool} {q : List (List UInt8)} {kids : Value} {ts : List Tr} {vs : List Value} {dpk : Nat} {gk : Bool} (h : LInv n w wr b G L all r dp de g q kids ts vs dpk gk) : mOf all b wr = q.length := by
  unfold mOf
  rw [h.rd.cells.2.1]
  have := h.suf.length_le
  simp [intOf]
  omega

/- Behind the call for one datum more. -/
structure LMid (n : Nat) (w w2 : World) (b G : Nat) (L : Value) (all r : List (List UInt8)) (dp de : Nat) (g : Bool) (t : List UInt8) (q0 : List (List UInt8)) (kids : Value) (ts : List Tr) (vs : List Value) (p : Pl.PR) (v : Value) (dpk : Nat) (gk : Bool) : Prop where
  suf : p.q <:+ all
  len : ts.length + 1 + p.q.length ≤ r.length
  lf : Pl.LF (Pl.pd n) r (ts ++ [p.t]) (max dpk p.dp) (gk || p.gr) p.q
  rd : Rd w2 b L ((all.length - p.q.length : Nat) : Int) ((max dp (de + 1 + max dpk p.dp) : Nat) : Int) (g || (gk || p.gr))
  toks : ToksAt w2 L all
  out : w2.heap[G]? = some (.cells #[kLst, .int .i64 0, kNil, kids] TD (0, 0))
  row : w2.ownsRow (G + 1) TP 1 kids ts.length vs
  kid : ∀ (i : Nat) (u : Value) (x : Tr), vs[i]? = some u → ts[i]? = some x → RepR (fun k => G < k ∧ kids.ownBlock ≠ some k) n w2 u x
  new : RepR (fun k => G < k ∧ kids.ownBlock ≠ some k) n w2 v p.t
  grown : w.grownBy w2 (some b)
  sizeG : w.heap.size ≤ G
  bG : b < w.heap.size
  lenq : q0.length < q0.length + 1 ∧ t = t
  q_lt : p.q.length < q0.length + 1

theorem LInv.call {n : Nat} {w wr w2 : World} {b G : Nat} {L : Value} {all r : List (List UInt8)} {dp de : Nat} {g : Bool} {t : List UInt8} {q0 : List (List UInt8)} {kids : Value} {ts : List Tr} {vs : List Value} {dpk : Nat} {gk : Bool} {p : Pl.PR} {v : Value}
    (h : LInv n w wr b G L all r dp de g (t :: q0) kids ts vs dpk gk) (ht : ¬ t = [41]) (hp : Pl.pd n (t :: q0) = some p) (hg : wr.grownBy w2 (some b)) (hrep : RepR (fun k => wr.heap.size ≤ k) n w2 v p.t)
    (hrd : Rd w2 b L ((all.length - p.q.length : Nat) : Int) ((max (max dp (de + 1 + dpk)) (de + 1 + p.dp) : Nat) : Int) ((g || gk) || p.gr)) :
    LMid n w w2 b G L all r dp de g t q0 kids ts vs p v dpk gk := by
  have htl := Pl.pd_tail n _ _ hp
  have hneb : some G ≠ some b := by have := h.sizeG; have := h.bG; intro e; simp only [Option.some.injEq] at e; omega
  have hTR : ∀ ok, KeepD ok wr w2 := fun ok => KeepD.of_grown hg h.rd (by decide) (by decide)
  have hlen := h.len
  have hq := htl.2
  simp only [List.length_cons] at hlen hq
  refine ⟨htl.1.trans h.suf, by omega, h.lf.more ht hp htl.2, hrd.cast rfl (by omega) (by rw [Bool.or_assoc]), h.toks.keep hg h.rd, ?_, ?_, ?_, ?_, grown_trans h.grown hg, h.sizeG, h.bG, ⟨by omega, rfl⟩, hq⟩
  · exact (hg.block G h.ltG hneb).trans h.out
  · refine h.row.kept hg ?_
    by_cases hk : kids.ownBlock = some b
    · have := (h.row.lt b hk).1; have := h.sizeG; have := h.bG; omega
    · exact .inr hk
  · exact fun i u x hu hx => RepR.keep (hTR _) _ _ _ (h.kid i u x hu hx)
  · refine RepR.mono (fun k _ hk => ?_) _ _ _ hrep
    have := h.ltG
    refine ⟨by omega, fun e => ?_⟩
    have := (h.row.lt k e).2
    omega

/- Behind the append and the store. -/
theorem LMid.push {n : Nat} {w w2 w3 : World} {b G : Nat} {L : Value} {all r : List (List UInt8)} {dp de : Nat} {g : Bool} {t : List UInt8} {q0 : List (List UInt8)} {kids : Value} {ts : List Tr} {vs : List Value} {dpk : Nat} {gk : Bool} {p : Pl.PR} {v : Value} {o : Obj} {g' cap' : Nat}
    (h : LMid n w w2 b G L all r dp de g t q0 kids ts vs p v dpk gk) (hown : w3.ownsRow (G + 1) TP 1 (.slice (some ⟨g', 0, none⟩) (ts.length + 1) cap') (ts.length + 1) (vs ++ [v])) (hg : (w2.alloc o).grownBy w3 kids.ownBlock) (hat : kids.ownBlock = some g' ∨ g' = w2.heap.size + 1) :
    w3.cell? ⟨G, 3, none⟩ = some kids ∧ w3.frozen? ⟨G, 3, none⟩ = false ∧ LInv n w (w3.setCell ⟨G, 3, none⟩ (.slice (some ⟨g', 0, none⟩) (ts.length + 1) cap')) b G L all r dp de g p.q (.slice (some ⟨g', 0, none⟩) (ts.length + 1) cap') (ts ++ [p.t]) (vs ++ [v]) (max dpk p.dp) (gk || p.gr) := by
  have hltG : G < w2.heap.size := lt_of_some h.out
  have hbG := h.bG
  have hsG := h.sizeG
  have hrl := h.row.lt
  have hneG : some G ≠ kids.ownBlock := fun e => by have := (hrl G e.symm).1; omega
  have hneB : some b ≠ kids.ownBlock := fun e => by have := (hrl b e.symm).1; omega
  have hob : ∀ k, k < w2.heap.size → some k ≠ kids.ownBlock → w3.heap[k]? = w2.heap[k]? := fun k hk hne => (hg.block k (by simp; omega) hne).trans (Below.heap_alloc _ _ _ hk)
  have hout3 : w3.heap[G]? = some (.cells #[kLst, .int .i64 0, kNil, kids] TD (0, 0)) := (hob G hltG hneG).trans h.out
  generalize hk' : Value.slice (some ⟨g', 0, none⟩) (ts.length + 1) cap' = kids' at *
  have hkb : kids'.ownBlock = some g' := by rw [← hk']; rfl
  have hblk : ∀ k, k ≠ G → (w3.setCell ⟨G, 3, none⟩ kids').heap[k]? = w3.heap[k]? := fun k hk => Below.heap_setCell _ _ _ _ hk
  have hbl : b < w2.heap.size := lt_of_some h.rd
  have hsz3 : w2.heap.size ≤ w3.heap.size := by have := hg.size; simp at this; omega
  have hgG : G < g' := by have := (hown.lt g' hkb).1; omega
  have hkeep : KeepD (fun k => G < k ∧ kids.ownBlock ≠ some k) w2 (w3.setCell ⟨G, 3, none⟩ kids') := fun k cur e hok _ hk => by
    rw [hblk k (by omega), hob k (lt_of_some hk) (fun e => hok.2 e.symm)]; exact hk
  have hrep : ∀ (u : Value) (x : Tr), RepR (fun k => G < k ∧ kids.ownBlock ≠ some k) n w2 u x → RepR (fun k => G < k ∧ kids'.ownBlock ≠ some k) n (w3.setCell ⟨G, 3, none⟩ kids') u x := by
    intro u x hr
    have h1 : RepR (fun k => (G < k ∧ kids.ownBlock ≠ some k) ∧ kids'.ownBlock ≠ some k) n w2 u x := by
      refine RepR.mono (fun k hk hok => ⟨hok, ?_⟩) _ _ _ hr
      rw [hkb]
      intro e
      obtain rfl := Option.some.inj e
      rcases hat with h1 | h1
      · exact hok.2 h1
      · omega
    have h2 := RepR.keep (hkeep.mono (ok' := fun k => (G < k ∧ kids.ownBlock ≠ some k) ∧ kids'.ownBlock ≠ some k) (fun k hok => hok.1)) _ _ _ h1
    exact RepR.mono (fun k _ hok => ⟨hok.1.1, hok.2⟩) _ _ _ h2
  have hrow3 : (w3.setCell ⟨G, 3, none⟩ kids').ownsRow (G + 1) TP 1 kids' (ts.length + 1) (vs ++ [v]) := ownsRow_setCell_below hown (by show G < G + 1; omega) _
  have hTok : ToksAt (w3.setCell ⟨G, 3, none⟩ kids') L all := by
    refine ⟨h.toks.1, ?_⟩
    rcases h.toks.2 with hn | ⟨x, cap, cur, hv, h0, hx, rest⟩
    · exact .inl hn
    · refine .inr ⟨x, cap, cur, hv, h0, ?_, rest⟩
      have hxG : x ≠ G := by
        intro e; subst e; rw [h.out] at hx
        simp only [Option.some.injEq, Obj.cells.injEq] at hx
        have := hx.2.1
        simp [TD] at this
      have hxk : some x ≠ kids.ownBlock := by
        intro e
        rcases h.row.2 with ⟨hv, _⟩ | ⟨y, _, _, hv, _, hy, _⟩
        · rw [hv] at e; simp [Value.ownBlock] at e
        · rw [hv] at e
          simp only [Value.ownBlock, Option.some.injEq] at e
          subst e; rw [hy] at hx
          simp only [Option.some.injEq, Obj.cells.injEq] at hx
          have := hx.2.1
          simp [TP] at this
      rw [hblk x hxG, hob x (lt_of_some hx) hxk]; exact hx
  refine ⟨cells_at hout3 3, free_at hout3 3, ⟨h.suf, by have := h.len; simp; omega, h.lf, ?_, hTok, ?_, ?_, ?_, ?_, h.sizeG, h.bG⟩⟩
  · show (w3.setCell _ _).heap[b]? = _
    rw [hblk b (by omega), hob b hbl hneB]; exact h.rd
  · rw [set_block hout3 3 kids']; rfl
  · simpa using hrow3
  · intro i u x hu hx
    by_cases hi : i < vs.length
    · have hvl := h.row.1
      rw [List.getElem?_append_left hi] at hu
      rw [List.getElem?_append_left (by omega)] at hx
      exact hrep u x (h.kid i u x hu hx)
    · have hvl := h.row.1
      have e : i = vs.length := by
        have := (List.getElem?_eq_some_iff.1 hu).1
        simp at this
        omega
      subst e
      rw [List.getElem?_append_right (Nat.le_refl _)] at hu
      rw [List.getElem?_append_right (by omega)] at hx
      simp at hu
      have e2 : vs.length - ts.length = 0 := by omega
      rw [e2] at hx
      simp at hx
      subst hu hx
      exact hrep _ _ h.new
  · refine ⟨?_, ?_, ?_, ?_, ?_⟩
    · exact hg.os.trans h.grown.os
    · exact hg.tape.trans h.grown.tape
    · exact hg.output.trans h.grown.output
    · have := h.grown.size; rw [set_size]; omega
    · intro k hk hne
      have hs2 := h.grown.size
      rw [hblk k (by omega), hob k (by omega) (fun e => by have := (hrl k e.symm).1; omega)]
      exact h.grown.block k hk hne

/- The bracket is closed: the list that was gathered. -/
theorem LInv.done {n : Nat} {w wr : World} {b G : Nat} {L : Value} {all r : List (List UInt8)} {dp de : Nat} {g : Bool} {q : List (List UInt8)} {kids : Value} {ts : List Tr} {vs : List Value} {dpk : Nat} {gk : Bool} (h : LInv n w wr b G L all r dp de g q kids ts vs dpk gk) (hr : r.length ≤ 1000) (x : Int) :
    RepR (fun k => w.heap.size ≤ k) (n + 1) (wr.setCell ⟨b, 1, none⟩ (.int .i64 x)) (.pointer (some ⟨G, 0, none⟩)) (.agg ts) := by
  have hk : ∀ ok, KeepD ok wr (wr.setCell ⟨b, 1, none⟩ (.int .i64 x)) := fun ok => KeepD.of_grown (grown_set _ _ _ _) h.rd (by decide) (by decide)
  have hsG := h.sizeG
  refine RepR.keep (hk _) _ _ _ ⟨G, rfl, hsG, kids, vs, h.out, ?_, ?_, ?_, by have := h.len; omega⟩
  · intro r hr
    have := (h.row.lt r hr).1
    omega
  · exact ⟨h.row.1, h.row.2.imp id (fun ⟨g, cap, cur, a, b, c⟩ => ⟨g, cap, cur, a, Nat.zero_le _, c⟩)⟩
  · intro i u y hu hy
    exact RepR.mono (fun k _ hok => by have := hok.1; omega) _ _ _ (h.kid i u y hu hy)
end Go.Proofs.YtkgbdddkcjpgfaaGreatDoor

/- The reference's datum behind an opening bracket; and all cases of datum. -/
namespace Go.Proofs.YtkgbdddkcjpgfaaGreatDoor
open Go.RowKit
theorem Tryz.infoPD : (Tryz.prog.info? 135).map (fun i => (i.zero, i.size, i.bytes)) = some (some (.pointer none), 1, 8) := by kernel_rfl
set_option maxHeartbeats 1000000 in
set_option maxRecDepth 100000 in
theorem ref_datum_open (n : Nat) (ih : DatSaid n) (w : World) (b : Nat) (L : Value) (all : List (List UInt8)) (r : List (List UInt8)) (dp de : Nat) (g : Bool) (hR : Rd w b L ((all.length - ([40] :: r).length : Nat) : Int) (dp : Int) g) (hT : ToksAt w L all) (hsuf : [40] :: r <:+ all) (hln : ([40] :: r).length ≤ n + 1) (hall : all.length ≤ 1000) (hdel : de + ([40] :: r).length ≤ 2000) (hde : de ≤ dp) (hsz : ∀ t ∈ all, t.length ≤ 1000) :
    Calls Tryz.prog 72 #[.pointer (some ⟨b, 0, none⟩), .int .i64 de] w fun e w' => DatPost (n + 1) w b L all dp de g ([40] :: r) e w' := by
  obtain ⟨i0, hi0, hz0, hz1, hz2⟩ := info_parts Tryz.infoPD
  have hsz' := hsz
  have HI : Hid (DatSaid n) := ih
  clear ih
  obtain ⟨t, ht⟩ : ∃ t : List UInt8, t = [40] := ⟨_, rfl⟩
  rw [← ht] at hR hsuf
  obtain ⟨ao, cap, rfl, hcap, hcell⟩ := toks_shape hT
  obtain ⟨hi, hg⟩ := Pl.suffix_get hsuf rfl
  obtain ⟨G, rfl, hc⟩ := hcell _ t (by rw [List.getElem?_eq_getElem hi, hg])
  obtain ⟨c0, c1, c2, c3⟩ := hR.cells
  have f1 := free_at hR 1
  have f2 := free_at hR 2
  generalize hpos : all.length - (t :: r).length = pos at *
  have HP : Hid (pos + 1 = all.length - r.length) := by have := suf_len hsuf; rw [← hpos]; exact this
  have HR := (show Hid (Rd w b _ _ _ _) from hR)
  have hsz0 : t.length ≤ 1000 := hsz t (hsuf.subset (by simp))
  have HT := (show Hid (ToksAt w _ all) from hT)
  clear hpos hg hT hcell hR hsz
  subst ht
  have hsz := hsz'
  clear hsz' hsz0
  have hr1 : r.length ≤ 1000 := by have := hsuf.length_le; simp at this; omega
  have hge : decide (all.length ≤ pos) = false := by simp; omega
  by_cases hd : dp < de + 1
  · have hd1 : decide ((dp : Int) < (de : Int) + 1) = true := by simp; omega
    go_enter Tryz.func72, Tryz.ntmps72
    go_wp2_with fail
    go_quiet (fail)
    go_wp2_with fail
    go_quiet (fail)
    go_wp2_with fail
    go_loopw [8] (fun _ wr => ∃ q kids ts vs dpk gk, Hid (LInv n w wr b w.heap.size (.slice (some ⟨G, 0, none⟩) all.length cap) all r dp de g q kids ts vs dpk gk)) (fun _ wr => mOf all b wr)
    case atStart => exact ⟨_, _, _, _, _, _, LInv.start ((List.suffix_cons _ _).trans hsuf) ((((HR.out.drewN _).set1 _).set2 _).cast (by have := HP.out; omega) (by omega) rfl) (HT.out.keep (grown_trans (grown_d w _ (some b)) (grown_trans (grown_set _ _ _ _) (grown_set _ _ _ _))) HR.out) (grown_trans (grown_d w _ (some b)) (grown_trans (grown_set _ _ _ _) (grown_set _ _ _ _))) (lt_of_some HR.out) _ rfl _ (by simp)⟩
    case round =>
      obtain ⟨q, kids, ts, vs, dpk, gk, HL⟩ := hrel
      clear c0 c1 c2 c3 f1 f2 hc HR HT hi HP
      obtain ⟨c0, c1, c2, c3⟩ := HL.out.rd.cells
      have f1 := free_at HL.out.rd 1
      have hG0 := cells_at HL.out.out 3
      have hql := HL.out.suf.length_le
      generalize hpos : all.length - q.length = ps at *
      cases q with
      | nil =>
        have hp0 : ps = all.length := by simp at hpos; omega
        subst hp0
        have hg0 : decide ((all.length : Int) < (all.length : Int)) = false := by simp
        have hpd : Hid (Pl.pd (n + 1) ([40] :: r) = none) := by show Pl.pd _ _ = _; rw [Pl.pd_open n _ r rfl, HL.out.lf.none_]; rfl
        clear hpos
        go_wp2_with fail
        go_quiet (fail)
        go_wp2_with fail
        go_quiet (fail)
        go_wp2_with fail
        go_ret
        refine ⟨grown_drewN (grown_drewN HL.out.grown _) _, ?_⟩
        rw [hpd.out]; rfl
      | cons t q0 =>
        have hsl := suf_len HL.out.suf
        have hlt : ps < all.length := by simp at hpos hql; omega
        have hgt : all[ps]? = some t := by
          obtain ⟨hi2, hg2⟩ := Pl.suffix_get HL.out.suf rfl
          rw [← hpos, List.getElem?_eq_getElem hi2, hg2]
        have hct := toks_cell HL.out.toks hgt
        have hlt2 : (ps : Int) < (all.length : Int) := by omega
        have HPS : Hid (ps + 1 = all.length - q0.length) := by rw [← hpos]; exact hsl
        clear hgt hsl hlt
        by_cases h41 : t = [41]
        · subst h41
          have hpd : Hid (Pl.pd (n + 1) ([40] :: r) = some ⟨.agg ts, q0, dpk + 1, gk⟩) := by show Pl.pd _ _ = _; rw [Pl.pd_open n _ r rfl, HL.out.lf.close]; rfl
          clear hpos
          go_wp2_with fail
          go_quiet (fail)
          go_wp2_with fail
          go_quiet (fail)
          go_wp2_with fail
          go_ret
          refine dat_done hpd.out (grown_trans (grown_drewN HL.out.grown _) (grown_set _ _ _ _)) ((HL.out.drewN _).done hr1 _) ((HL.out.rd.drewN _).set1 _) ?_ ?_ ?_
          · have := HPS.out; dsimp only; omega
          · dsimp only; omega
          · rfl
        · have e41 : (t == [41]) = false := by simpa using h41
          have n41 : (t != [41]) = true := by simpa using h41
          have hln2 := HL.out.len
          simp only [List.length_cons] at hln2 hln hdel
          go_wp2_with fail
          go_quiet (fail)
          go_wp2_with fail
          refine (HI.out _ b (.slice (some ⟨G, 0, none⟩) all.length cap) all (t :: q0) (max dp (de + 1 + dpk)) (de + 1) (g || gk) ((HL.out.rd.drewN _).cast (by simp only [List.length_cons]) rfl rfl) ((HL.out.drewN _).toks) HL.out.suf (by simp; omega) hall (by simp; omega) (by omega) hsz _ (by omega)).mono ?_
          rintro e w2 ⟨hgr, hpost⟩
          clear c0 c1 c2 c3 f1 hG0 hct
          cases hp : Pl.pd n (t :: q0) with
          | none =>
            rw [hp] at hpost
            dsimp only at hpost
            subst hpost
            have hpd : Hid (Pl.pd (n + 1) ([40] :: r) = none) := by show Pl.pd _ _ = _; rw [Pl.pd_open n _ r rfl, HL.out.lf.fail h41 hp]; rfl
            have HG : Hid (w.grownBy w2 (some b)) := grown_trans (grown_drewN HL.out.grown _) hgr
            clear hp hgr hpos
            go_wp2_with fail
            go_ret
            refine ⟨HG.out, ?_⟩
            rw [hpd.out]; rfl
          | some p =>
            rw [hp] at hpost
            obtain ⟨v, rfl, hrep, hRd2⟩ := hpost
            have HM := (show Hid _ from (HL.out.drewN _).call h41 hp hgr hrep hRd2)
            obtain ⟨vb, rfl⟩ := hrep.ptr
            have hm0 : mOf all b wr = (t :: q0).length := HL.out.m
            clear hp hgr hRd2 hpos HL
            have cg2 := cells_at HM.out.out 3
            have fg2 := free_at HM.out.out 3
            have hsw2 : w.heap.size < w2.heap.size := lt_of_some HM.out.out
            have hqlt := HM.out.q_lt
            go_wp2_with (first | (at_builtin; refine wpList_append_lies _ rfl _ _ 237 rfl (w.heap.size + 1) 135 i0 (.pointer none) 1 8 Tryz.underlying237 hi0 hz0 hz1 hz2 rfl (by decide) kids ts.length vs rfl (HM.out.row.alloc _) ⟨w2.heap.size, 0, none⟩ 1 1 [.pointer (some ⟨vb, 0, none⟩)] rfl rfl (cell_one_new _ _ _) (fun x hx => by simp at hx; subst hx; rfl) (by decide) (by unfold maxLen; omega) (by omega) (by simp; omega) (w2.heap.size + 1) (by simp) ?_; intro g' cap' w3 hown' hgrow3 hat3 _; obtain ⟨cg3, fg3, hL3⟩ := HM.out.push hown' hgrow3 hat3; have HL3 := (show Hid _ from hL3); clear hL3))
            go_roundw
            case rel => exact ⟨_, _, _, _, _, _, HL3⟩
            case measure => rw [HL3.out.m, hm0]; simp; omega
  · go_enter Tryz.func72, Tryz.ntmps72
    go_wp2_with fail
    go_quiet (fail)
    go_wp2_with fail
    go_quiet (fail)
    go_wp2_with fail
    go_loopw [8] (fun _ wr => ∃ q kids ts vs dpk gk, Hid (LInv n w wr b w.heap.size (.slice (some ⟨G, 0, none⟩) all.length cap) all r dp de g q kids ts vs dpk gk)) (fun _ wr => mOf all b wr)
    case atStart => exact ⟨_, _, _, _, _, _, LInv.start ((List.suffix_cons _ _).trans hsuf) (((HR.out.drewN _).set1 _).cast (by have := HP.out; omega) (by omega) rfl) (HT.out.keep (grown_trans (grown_d w _ (some b)) (grown_set _ _ _ _)) HR.out) (grown_trans (grown_d w _ (some b)) (grown_set _ _ _ _)) (lt_of_some HR.out) _ rfl _ (by simp)⟩
    case round =>
      obtain ⟨q, kids, ts, vs, dpk, gk, HL⟩ := hrel
      clear c0 c1 c2 c3 f1 f2 hc HR HT hi HP
      obtain ⟨c0, c1, c2, c3⟩ := HL.out.rd.cells
      have f1 := free_at HL.out.rd 1
      have hG0 := cells_at HL.out.out 3
      have hql := HL.out.suf.length_le
      generalize hpos : all.length - q.length = ps at *
      cases q with
      | nil =>
        have hp0 : ps = all.length := by simp at hpos; omega
        subst hp0
        have hg0 : decide ((all.length : Int) < (all.length : Int)) = false := by simp
        have hpd : Hid (Pl.pd (n + 1) ([40] :: r) = none) := by show Pl.pd _ _ = _; rw [Pl.pd_open n _ r rfl, HL.out.lf.none_]; rfl
        clear hpos
        go_wp2_with fail
        go_quiet (fail)
        go_wp2_with fail
        go_quiet (fail)
        go_wp2_with fail
        go_ret
        refine ⟨grown_drewN (grown_drewN HL.out.grown _) _, ?_⟩
        rw [hpd.out]; rfl
      | cons t q0 =>
        have hsl := suf_len HL.out.suf
        have hlt : ps < all.length := by simp at hpos hql; omega
        have hgt : all[ps]? = some t := by
          obtain ⟨hi2, hg2⟩ := Pl.suffix_get HL.out.suf rfl
          rw [← hpos, List.getElem?_eq_getElem hi2, hg2]
        have hct := toks_cell HL.out.toks hgt
        have hlt2 : (ps : Int) < (all.length : Int) := by omega
        have HPS : Hid (ps + 1 = all.length - q0.length) := by rw [← hpos]; exact hsl
        clear hgt hsl hlt
        by_cases h41 : t = [41]
        · subst h41
          have hpd : Hid (Pl.pd (n + 1) ([40] :: r) = some ⟨.agg ts, q0, dpk + 1, gk⟩) := by show Pl.pd _ _ = _; rw [Pl.pd_open n _ r rfl, HL.out.lf.close]; rfl
          clear hpos
          go_wp2_with fail
          go_quiet (fail)
          go_wp2_with fail
          go_quiet (fail)
          go_wp2_with fail
          go_ret
          refine dat_done hpd.out (grown_trans (grown_drewN HL.out.grown _) (grown_set _ _ _ _)) ((HL.out.drewN _).done hr1 _) ((HL.out.rd.drewN _).set1 _) ?_ ?_ ?_
          · have := HPS.out; dsimp only; omega
          · dsimp only; omega
          · rfl
        · have e41 : (t == [41]) = false := by simpa using h41
          have n41 : (t != [41]) = true := by simpa using h41
          have hln2 := HL.out.len
          simp only [List.length_cons] at hln2 hln hdel
          go_wp2_with fail
          go_quiet (fail)
          go_wp2_with fail
          refine (HI.out _ b (.slice (some ⟨G, 0, none⟩) all.length cap) all (t :: q0) (max dp (de + 1 + dpk)) (de + 1) (g || gk) ((HL.out.rd.drewN _).cast (by simp only [List.length_cons]) rfl rfl) ((HL.out.drewN _).toks) HL.out.suf (by simp; omega) hall (by simp; omega) (by omega) hsz _ (by omega)).mono ?_
          rintro e w2 ⟨hgr, hpost⟩
          clear c0 c1 c2 c3 f1 hG0 hct
          cases hp : Pl.pd n (t :: q0) with
          | none =>
            rw [hp] at hpost
            dsimp only at hpost
            subst hpost
            have hpd : Hid (Pl.pd (n + 1) ([40] :: r) = none) := by show Pl.pd _ _ = _; rw [Pl.pd_open n _ r rfl, HL.out.lf.fail h41 hp]; rfl
            have HG : Hid (w.grownBy w2 (some b)) := grown_trans (grown_drewN HL.out.grown _) hgr
            clear hp hgr hpos
            go_wp2_with fail
            go_ret
            refine ⟨HG.out, ?_⟩
            rw [hpd.out]; rfl
          | some p =>
            rw [hp] at hpost
            obtain ⟨v, rfl, hrep, hRd2⟩ := hpost
            have HM := (show Hid _ from (HL.out.drewN _).call h41 hp hgr hrep hRd2)
            obtain ⟨vb, rfl⟩ := hrep.ptr
            have hm0 : mOf all b wr = (t :: q0).length := HL.out.m
            clear hp hgr hRd2 hpos HL
            have cg2 := cells_at HM.out.out 3
            have fg2 := free_at HM.out.out 3
            have hsw2 : w.heap.size < w2.heap.size := lt_of_some HM.out.out
            have hqlt := HM.out.q_lt
            go_wp2_with (first | (at_builtin; refine wpList_append_lies _ rfl _ _ 237 rfl (w.heap.size + 1) 135 i0 (.pointer none) 1 8 Tryz.underlying237 hi0 hz0 hz1 hz2 rfl (by decide) kids ts.length vs rfl (HM.out.row.alloc _) ⟨w2.heap.size, 0, none⟩ 1 1 [.pointer (some ⟨vb, 0, none⟩)] rfl rfl (cell_one_new _ _ _) (fun x hx => by simp at hx; subst hx; rfl) (by decide) (by unfold maxLen; omega) (by omega) (by simp; omega) (w2.heap.size + 1) (by simp) ?_; intro g' cap' w3 hown' hgrow3 hat3 _; obtain ⟨cg3, fg3, hL3⟩ := HM.out.push hown' hgrow3 hat3; have HL3 := (show Hid _ from hL3); clear hL3))
            go_roundw
            case rel => exact ⟨_, _, _, _, _, _, HL3⟩
            case measure => rw [HL3.out.m, hm0]; simp; omega

theorem ref_datum : ∀ n : Nat, DatSaid n
  | 0 => by
    intro w b L all l dp de g hR hT hsuf hl hall hdel hde hsz x hx
    obtain rfl := List.eq_nil_of_length_eq_zero (Nat.le_zero.1 hl)
    subst hx
    exact ref_datum_end 0 w b L all dp de g hR hT
  | n + 1 => by
    intro w b L all l dp de g hR hT hsuf hl hall hdel hde hsz x hx
    subst hx
    cases l with
    | nil => exact ref_datum_end (n + 1) w b L all dp de g hR hT
    | cons t r =>
      by_cases h40 : t = [40]
      · subst h40; exact ref_datum_open n (ref_datum n) w b L all r dp de g hR hT hsuf hl hall hdel hde hsz
      by_cases h39 : t = [39]
      · subst h39; exact ref_datum_quote n (ref_datum n) w b L all r dp de g hR hT hsuf hl hall hdel hde hsz
      · exact ref_datum_atom n w b L all t r dp de g hR hT hsuf hall hsz hde h40 h39
end Go.Proofs.YtkgbdddkcjpgfaaGreatDoor
