/- Plain functions on bytes: digits, the bytes of words. Nothing of the program. -/
import GoSem.ClaimWide
namespace Go.Proofs.YtkgbdddkcjpgfaaGreatDoor
namespace Pl
def isDig (c : UInt8) : Bool := decide (48 ≤ c.toNat) && decide (c.toNat ≤ 57)
def signs : List UInt8 := [43, 45, 42, 47, 60, 61, 62, 63, 33]
def low (c : UInt8) : Bool := decide (97 ≤ c.toNat) && decide (c.toNat ≤ 122)
def inW (c : UInt8) : Bool := decide (c ∈ signs) || (low c || isDig c)

theorem low_yes (c : UInt8) (h1 : (97 : Int) ≤ c.toNat) (h2 : (c.toNat : Int) ≤ 122) : low c = true := by simp [low]; omega
theorem low_no (c : UInt8) (h : ¬ ((97 : Int) ≤ c.toNat ∧ (c.toNat : Int) ≤ 122)) : low c = false := by
  simp only [low, Bool.and_eq_false_iff, decide_eq_false_iff_not]; omega
theorem inW_sign (c : UInt8) (h : c ∈ signs) : inW c = true := by simp [inW, h]
theorem inW_else (c : UInt8) (h : c ∉ signs) : inW c = (low c || isDig c) := by simp [inW, h]

/- The signs one by one. -/
def bytesOf (l : List UInt8) : ByteArray := ⟨l.toArray⟩
theorem sign_at (k : Nat) (h : k < 9) : (ByteArray.mk #[43, 45, 42, 47, 60, 61, 62, 63, 33])[k]'h = signs[k]'h := rfl
theorem toNat_beq (a b : UInt8) : ((a.toNat : Int) == (b.toNat : Int)) = (a == b) := by
  by_cases h : a = b
  · subst h; simp
  · have : ¬ (a.toNat : Int) = b.toNat := fun e => h (UInt8.toNat_inj.1 (by omega))
    rw [beq_eq_false_iff_ne.2 this, beq_eq_false_iff_ne.2 h]
theorem take_step {α : Type} (l : List α) (c : α) (k : Nat) (h : k < l.length) (hn : c ∉ l.take k) (hc : ¬ l[k] = c) : c ∉ l.take (k + 1) := by
  rw [List.take_succ_eq_append_getElem h]
  simp only [List.mem_append, List.mem_singleton, not_or]
  exact ⟨hn, fun e => hc e.symm⟩
end Pl
end Go.Proofs.YtkgbdddkcjpgfaaGreatDoor

/- Plain functions on bytes: the tokens of a text. Nothing of the program. -/
namespace Go.Proofs.YtkgbdddkcjpgfaaGreatDoor
namespace Pl
def blank (c : UInt8) : Bool := c == 32 || c == 10
def punct (c : UInt8) : Bool := c == 40 || c == 41 || c == 39
def tkF : Nat → List UInt8 → Option (List (List UInt8))
  | 0, _ => some []
  | _ + 1, [] => some []
  | n + 1, c :: r =>
    if blank c then tkF n r
    else if c == 35 then
      match r with
      | [] => none
      | d :: q => if d == 116 || d == 102 then (tkF n q).map ([c, d] :: ·) else none
    else if inW c then (tkF n (r.dropWhile inW)).map ((c :: r.takeWhile inW) :: ·)
    else if punct c then (tkF n r).map ([c] :: ·)
    else none
theorem dropWhile_le (p : UInt8 → Bool) (l : List UInt8) : (l.dropWhile p).length ≤ l.length := (List.dropWhile_sublist p).length_le
theorem tkF_enough : ∀ (n m : Nat) (l : List UInt8), l.length ≤ n → l.length ≤ m → tkF n l = tkF m l
  | 0, 0, _, _, _ => rfl
  | 0, m + 1, [], _, _ => rfl
  | 0, m + 1, _ :: _, h, _ => by simp at h
  | n + 1, 0, [], _, _ => rfl
  | n + 1, 0, _ :: _, _, h => by simp at h
  | n + 1, m + 1, [], _, _ => rfl
  | n + 1, m + 1, c :: r, hn, hm => by
    simp only [List.length_cons] at hn hm
    have h1 := tkF_enough n m r (by omega) (by omega)
    have h2 := dropWhile_le inW r
    have h3 := tkF_enough n m (r.dropWhile inW) (by omega) (by omega)
    unfold tkF
    rw [h1, h3]
    cases r with
    | nil => rfl
    | cons d q =>
      simp only [List.length_cons] at hn hm
      dsimp only
      rw [tkF_enough n m q (by omega) (by omega)]
def toks (l : List UInt8) : Option (List (List UInt8)) := tkF l.length l
theorem tkF_toks (n : Nat) (l : List UInt8) (h : l.length ≤ n) : tkF n l = toks l := tkF_enough _ _ _ h (Nat.le_refl _)
theorem toks_nil : toks [] = some [] := rfl
theorem toks_blank (c : UInt8) (r : List UInt8) (h : blank c = true) : toks (c :: r) = toks r := by
  simp [toks, tkF, h]
theorem toks_hash0 : toks [35] = none := by decide
theorem toks_hash (d : UInt8) (q : List UInt8) (h : (d == 116 || d == 102) = true) : toks (35 :: d :: q) = (toks q).map ([35, d] :: ·) := by
  have hb : blank 35 = false := by decide
  show tkF (q.length + 1 + 1) (35 :: d :: q) = _
  unfold tkF
  dsimp only
  rw [tkF_toks _ q (by omega)]
  simp only [hb, h]; rfl
theorem toks_hashno (d : UInt8) (q : List UInt8) (h : (d == 116 || d == 102) = false) : toks (35 :: d :: q) = none := by
  have hb : blank 35 = false := by decide
  show tkF (q.length + 1 + 1) (35 :: d :: q) = _
  unfold tkF
  simp only [hb, h]; rfl
theorem inW_noblank (c : UInt8) (h : inW c = true) : blank c = false ∧ (c == 35) = false := by
  by_cases h0 : blank c = true
  · simp only [blank, Bool.or_eq_true, beq_iff_eq] at h0
    rcases h0 with rfl | rfl <;> exact absurd h (by decide)
  · refine ⟨by simpa using h0, ?_⟩
    by_cases h1 : c = 35
    · subst h1; exact absurd h (by decide)
    · simpa using h1
theorem toks_word (c : UInt8) (r : List UInt8) (h : inW c = true) : toks (c :: r) = (toks (r.dropWhile inW)).map ((c :: r.takeWhile inW) :: ·) := by
  obtain ⟨h1, h2⟩ := inW_noblank c h
  show tkF (r.length + 1) (c :: r) = _
  unfold tkF
  rw [tkF_toks _ (r.dropWhile inW) (dropWhile_le _ _)]
  simp [h1, h2, h]
theorem toks_punct (c : UInt8) (r : List UInt8) (h0 : inW c = false) (h : punct c = true) : toks (c :: r) = (toks r).map ([c] :: ·) := by
  have h1 : blank c = false ∧ (c == 35) = false := by
    simp only [punct, Bool.or_eq_true, beq_iff_eq] at h
    rcases h with (rfl | rfl) | rfl <;> decide
  show tkF (r.length + 1) (c :: r) = _
  unfold tkF
  rw [tkF_toks _ r (Nat.le_refl _)]
  simp [h1.1, h1.2, h, h0]
theorem toks_bad (c : UInt8) (r : List UInt8) (h0 : blank c = false) (h1 : (c == 35) = false) (h2 : inW c = false) (h3 : punct c = false) : toks (c :: r) = none := by
  show tkF (r.length + 1) (c :: r) = _
  unfold tkF
  simp [h0, h1, h2, h3]

/- What is left behind k bytes, with what stands ahead of it. -/
def From (l : List UInt8) (pre : List (List UInt8)) (k : Nat) : Prop := toks l = (toks (l.drop k)).map (pre ++ ·)
theorem From.start (l : List UInt8) : From l [] 0 := by unfold From; simp
theorem From.end_ {l : List UInt8} {pre : List (List UInt8)} {k : Nat} (h : From l pre k) (hk : l.length ≤ k) : toks l = some pre := by
  rw [h, List.drop_of_length_le hk, toks_nil]; simp
theorem drop_at {α : Type} (l : List α) (k : Nat) (h : k < l.length) : l.drop k = l[k] :: l.drop (k + 1) := List.drop_eq_getElem_cons h
theorem From.blank {l : List UInt8} {pre : List (List UInt8)} {k : Nat} (h : From l pre k) (hk : k < l.length) (hb : Pl.blank l[k] = true) : From l pre (k + 1) := by
  unfold From at *; rw [h, drop_at l k hk, toks_blank _ _ hb]
theorem From.none_ {l : List UInt8} {pre : List (List UInt8)} {k : Nat} (h : From l pre k) (hn : toks (l.drop k) = none) : toks l = none := by rw [h, hn]; rfl
theorem From.more {l : List UInt8} {pre : List (List UInt8)} {k m : Nat} {t : List UInt8} (h : From l pre k) (hn : toks (l.drop k) = (toks (l.drop m)).map (t :: ·)) : From l (pre ++ [t]) m := by
  unfold From at *; rw [h, hn]
  cases toks (l.drop m) <;> simp
theorem take_of_all (p : UInt8 → Bool) : ∀ (l : List UInt8) (m : Nat), m ≤ l.length → (∀ j (h : j < l.length), j < m → p l[j] = true) → (∀ h : m < l.length, p (l[m]) = false) → l.takeWhile p = l.take m ∧ l.dropWhile p = l.drop m
  | [], m, _, _, _ => by simp
  | c :: r, 0, _, _, h2 => by
    have := h2 (by simp)
    simp at this
    simp [List.takeWhile, List.dropWhile, this]
  | c :: r, m + 1, hm, h1, h2 => by
    have h0 : p c = true := h1 0 (by simp) (by omega)
    have ih := take_of_all p r m (by simpa using hm) (fun j h hj => by have := h1 (j + 1) (by simpa using h) (by omega); simpa using this) (fun h => by have := h2 (by simpa using h); simpa using this)
    simp [List.takeWhile, List.dropWhile, h0, ih.1, ih.2]
theorem From.word {l : List UInt8} {pre : List (List UInt8)} {k m : Nat} (h : From l pre k) (hk : k < l.length) (hw : inW l[k] = true) (hkm : k + 1 ≤ m) (hm : m ≤ l.length)
    (h1 : ∀ j (h : j < l.length), k < j → j < m → inW l[j] = true) (h2 : ∀ h : m < l.length, inW l[m] = false) : From l (pre ++ [(l.drop k).take (m - k)]) m := by
  refine h.more ?_
  have hd := drop_at l k hk
  have ht := take_of_all inW (l.drop (k + 1)) (m - (k + 1)) (by simp; omega)
    (fun j hj hjm => by
      rw [List.getElem_drop]
      exact h1 _ (by simp at hj; omega) (by omega) (by omega))
    (fun hj => by
      rw [List.getElem_drop]
      have e : k + 1 + (m - (k + 1)) = m := by omega
      simp only [e]
      exact h2 (by simp at hj; omega))
  rw [hd, toks_word _ _ hw, ht.1, ht.2]
  have e1 : m - k = (m - (k + 1)) + 1 := by omega
  have e2 : List.drop (m - (k + 1)) (List.drop (k + 1) l) = l.drop m := by rw [List.drop_drop]; congr 1; omega
  rw [e1, e2, List.take_succ_cons]
end Pl
end Go.Proofs.YtkgbdddkcjpgfaaGreatDoor

/- Plain functions on bytes: numbers and names. Nothing of the program. -/
namespace Go.Proofs.YtkgbdddkcjpgfaaGreatDoor
namespace Pl
def big : Nat := 1099511627776
def minus (w : List UInt8) : Bool := decide (1 < w.length) && (w.headD 0 == 45)
def digs (w : List UInt8) : List UInt8 := if minus w then w.drop 1 else w
def isNum (w : List UInt8) : Bool := (digs w).all isDig
def noDig (w : List UInt8) : Bool := w.all (fun c => !isDig c)
def natV (ds : List UInt8) : Nat := ds.foldl (fun a c => 10 * a + (c.toNat - 48)) 0
def sval (w : List UInt8) : Int := if minus w then -(natV (digs w) : Int) else (natV (digs w) : Int)
def great (w : List UInt8) : Bool := decide (big < natV (digs w))
/- The reference's fold: what is too great starts anew. -/
def stepN (a : Nat × Bool) (c : UInt8) : Nat × Bool := if big < 10 * a.1 + (c.toNat - 48) then (0, true) else (10 * a.1 + (c.toNat - 48), a.2)
def foldN (ds : List UInt8) : Nat × Bool := ds.foldl stepN (0, false)
theorem natV_snoc (ds : List UInt8) (c : UInt8) : natV (ds ++ [c]) = 10 * natV ds + (c.toNat - 48) := by simp [natV]
theorem foldN_snoc (ds : List UInt8) (c : UInt8) : foldN (ds ++ [c]) = stepN (foldN ds) c := by simp [foldN]
theorem foldN_le (ds : List UInt8) : (foldN ds).1 ≤ big := by
  have key : ∀ (r : List UInt8) (a : Nat × Bool), a.1 ≤ big → (r.foldl stepN a).1 ≤ big := by
    intro r
    induction r with
    | nil => intro a h; exact h
    | cons c r ih =>
      intro a h
      refine ih _ ?_
      unfold stepN
      split
      · simp
      · simp only; omega
  exact key ds (0, false) (by simp)
theorem foldN_all : ∀ (n : Nat) (ds : List UInt8), ds.length = n → (natV ds ≤ big → foldN ds = (natV ds, false)) ∧ (big < natV ds → (foldN ds).2 = true)
  | 0, ds, h => by
    obtain rfl := List.eq_nil_of_length_eq_zero h
    exact ⟨fun _ => rfl, fun h => by simp [natV] at h⟩
  | n + 1, ds, h => by
    have hne : ds ≠ [] := fun e => by simp [e] at h
    obtain ⟨r, c, rfl⟩ : ∃ r c, ds = r ++ [c] := ⟨ds.dropLast, ds.getLast hne, (List.dropLast_concat_getLast hne).symm⟩
    have ih := foldN_all n r (by simpa using h)
    rw [natV_snoc, foldN_snoc]
    by_cases hb : natV r ≤ big
    · rw [ih.1 hb]
      unfold stepN
      constructor
      · intro h1; simp only; rw [if_neg (by omega)]
      · intro h1; simp only; rw [if_pos (by omega)]
    · have h2 := ih.2 (by omega)
      constructor
      · intro h1; omega
      · intro _; unfold stepN; split
        · rfl
        · exact h2
theorem foldN_great (ds : List UInt8) : (foldN ds).2 = decide (big < natV ds) := by
  have h := foldN_all _ ds rfl
  by_cases hb : natV ds ≤ big
  · rw [h.1 hb]; simp; omega
  · rw [h.2 (by omega)]; simp; omega
theorem foldN_val (ds : List UInt8) (h : natV ds ≤ big) : (foldN ds).1 = natV ds := by rw [(foldN_all _ ds rfl).1 h]
theorem take_snoc (l : List UInt8) (k : Nat) (h : k < l.length) : l.take (k + 1) = l.take k ++ [l[k]] := List.take_succ_eq_append_getElem h
theorem all_of {p : UInt8 → Bool} (l : List UInt8) (h : ∀ j (h : j < l.length), p l[j] = true) : l.all p = true := by
  rw [List.all_eq_true]
  intro x hx
  obtain ⟨j, hj, rfl⟩ := List.getElem_of_mem hx
  exact h j hj
theorem not_all {p : UInt8 → Bool} (l : List UInt8) (j : Nat) (hj : j < l.length) (h : p l[j] = false) : l.all p = false := by
  rw [List.all_eq_false]
  exact ⟨l[j], List.getElem_mem _, by simp [h]⟩
theorem isDig_le (c : UInt8) (h : isDig c = true) : 48 ≤ c.toNat ∧ c.toNat ≤ 57 := by simpa [isDig] using h
theorem all_get {p : UInt8 → Bool} (l : List UInt8) (h : l.all p = true) (j : Nat) (hj : j < l.length) : p l[j] = true := List.all_eq_true.1 h _ (List.getElem_mem _)
theorem head_get (l : List UInt8) (h : 0 < l.length) : l.headD 0 = l[0] := by cases l <;> simp at h ⊢
end Pl
end Go.Proofs.YtkgbdddkcjpgfaaGreatDoor

/- Plain functions: the datum that tokens write. Nothing of the program. -/
namespace Go.Proofs.YtkgbdddkcjpgfaaGreatDoor
namespace Pl
abbrev Tok := List UInt8
abbrev Tre := DataW Unit
def tOpen : Tok := [40]
def tClose : Tok := [41]
def tQuote : Tok := [39]
def tTrue : Tok := [35, 116]
def tFalse : Tok := [35, 102]
def quoteW : List UInt8 := [113, 117, 111, 116, 101]
structure PR where
  t : Tre
  q : List Tok
  dp : Nat
  gr : Bool
structure PL where
  ts : List Tre
  q : List Tok
  dp : Nat
  gr : Bool
def pw (t : Tok) : Option (Tre × Bool) :=
  if isNum t then some (.lit (.int .i64 (sval t)), great t) else if noDig t then some (.lit (.string t), false) else none
def pls (f : List Tok → Option PR) : Nat → List Tok → Option PL
  | 0, _ => none
  | _ + 1, [] => none
  | k + 1, t :: r =>
    if t = tClose then some ⟨[], r, 0, false⟩
    else match f (t :: r) with
      | none => none
      | some p => (pls f k p.q).map fun l => ⟨p.t :: l.ts, l.q, max p.dp l.dp, p.gr || l.gr⟩
theorem pls_cons (f : List Tok → Option PR) (k : Nat) (t : Tok) (r : List Tok) : pls f (k + 1) (t :: r) = if t = tClose then some ⟨[], r, 0, false⟩ else match f (t :: r) with
    | none => none
    | some p => (pls f k p.q).map fun l => ⟨p.t :: l.ts, l.q, max p.dp l.dp, p.gr || l.gr⟩ := rfl
def pd : Nat → List Tok → Option PR
  | 0, _ => none
  | _ + 1, [] => none
  | n + 1, t :: r =>
    if t = tClose then none
    else if t = tTrue then some ⟨.lit (.bool true), r, 0, false⟩
    else if t = tFalse then some ⟨.lit (.bool false), r, 0, false⟩
    else if t = tQuote then (pd n r).map fun p => ⟨.agg [.lit (.string quoteW), p.t], p.q, p.dp + 1, p.gr⟩
    else if t = tOpen then (pls (pd n) r.length r).map fun p => ⟨.agg p.ts, p.q, p.dp + 1, p.gr⟩
    else (pw t).map fun p => ⟨p.1, r, 0, p.2⟩

theorem pd_close (n : Nat) (t : Tok) (r : List Tok) (h : t = [41]) : pd (n + 1) (t :: r) = none := by subst h; rfl
theorem pd_true (n : Nat) (t : Tok) (r : List Tok) (h : t = [35, 116]) : pd (n + 1) (t :: r) = some ⟨.lit (.bool true), r, 0, false⟩ := by subst h; rfl
theorem pd_false (n : Nat) (t : Tok) (r : List Tok) (h : t = [35, 102]) : pd (n + 1) (t :: r) = some ⟨.lit (.bool false), r, 0, false⟩ := by subst h; rfl
theorem pd_quote (n : Nat) (t : Tok) (r : List Tok) (h : t = [39]) : pd (n + 1) (t :: r) = (pd n r).map fun p => ⟨.agg [.lit (.string quoteW), p.t], p.q, p.dp + 1, p.gr⟩ := by subst h; rfl
theorem pd_open (n : Nat) (t : Tok) (r : List Tok) (h : t = [40]) : pd (n + 1) (t :: r) = (pls (pd n) r.length r).map fun p => ⟨.agg p.ts, p.q, p.dp + 1, p.gr⟩ := by subst h; rfl
theorem pd_word (n : Nat) (t : Tok) (r : List Tok) (h1 : ¬ t = [41]) (h2 : ¬ t = [35, 116]) (h3 : ¬ t = [35, 102]) (h4 : ¬ t = [39]) (h5 : ¬ t = [40]) : pd (n + 1) (t :: r) = (pw t).map fun p => ⟨p.1, r, 0, p.2⟩ := by
  show (if t = tClose then none else if t = tTrue then _ else if t = tFalse then _ else if t = tQuote then _ else if t = tOpen then _ else _) = _
  rw [if_neg (show ¬ t = tClose from h1), if_neg (show ¬ t = tTrue from h2), if_neg (show ¬ t = tFalse from h3), if_neg (show ¬ t = tQuote from h4), if_neg (show ¬ t = tOpen from h5)]
/- What is left is a tail, shorter. -/
def Tail (q l : List Tok) : Prop := q <:+ l ∧ q.length < l.length
theorem Tail.cons (t : Tok) (r : List Tok) : Tail r (t :: r) := ⟨List.suffix_cons t r, by simp⟩
theorem Tail.trans {a b c : List Tok} (h : Tail a b) (k : Tail b c) : Tail a c := ⟨h.1.trans k.1, by have := h.2; have := k.2; omega⟩
theorem pls_tail (f : List Tok → Option PR) (hf : ∀ l p, f l = some p → Tail p.q l) : ∀ (k : Nat) (l : List Tok) (p : PL), pls f k l = some p → Tail p.q l
  | 0, _, _, h => by simp [pls] at h
  | _ + 1, [], _, h => by simp [pls] at h
  | k + 1, t :: r, p, h => by
    unfold pls at h
    split at h
    · obtain rfl := Option.some.inj h
      exact Tail.cons t r
    · cases hp : f (t :: r) with
      | none => rw [hp] at h; simp at h
      | some p1 =>
        rw [hp] at h
        simp only [Option.map_eq_some_iff] at h
        obtain ⟨l, hl, rfl⟩ := h
        exact (pls_tail f hf k p1.q l hl).trans (hf _ _ hp)
theorem pd_tail : ∀ (n : Nat) (l : List Tok) (p : PR), pd n l = some p → Tail p.q l
  | 0, _, _, h => by simp [pd] at h
  | _ + 1, [], _, h => by simp [pd] at h
  | n + 1, t :: r, p, h => by
    unfold pd at h
    split at h
    · simp at h
    split at h
    · obtain rfl := Option.some.inj h; exact Tail.cons t r
    split at h
    · obtain rfl := Option.some.inj h; exact Tail.cons t r
    split at h
    · simp only [Option.map_eq_some_iff] at h
      obtain ⟨p1, hp, rfl⟩ := h
      exact (pd_tail n r p1 hp).trans (Tail.cons t r)
    split at h
    · simp only [Option.map_eq_some_iff] at h
      obtain ⟨p1, hp, rfl⟩ := h
      exact (pls_tail (pd n) (pd_tail n) _ r p1 hp).trans (Tail.cons t r)
    · simp only [Option.map_eq_some_iff] at h
      obtain ⟨p1, hp, rfl⟩ := h
      exact Tail.cons t r
/- A loop over a list's data: what was gathered, and what is still to come. -/
def LF (f : List Tok → Option PR) (r0 : List Tok) (ts : List Tre) (dp : Nat) (gr : Bool) (q : List Tok) : Prop :=
  ∃ k, q.length ≤ k ∧ pls f r0.length r0 = (pls f k q).map fun l => ⟨ts ++ l.ts, l.q, max dp l.dp, gr || l.gr⟩
theorem LF.start (f : List Tok → Option PR) (r0 : List Tok) : LF f r0 [] 0 false r0 := ⟨r0.length, Nat.le_refl _, by cases pls f r0.length r0 <;> simp⟩
theorem LF.close {f : List Tok → Option PR} {r0 : List Tok} {ts : List Tre} {dp : Nat} {gr : Bool} {r : List Tok} (h : LF f r0 ts dp gr (tClose :: r)) : pls f r0.length r0 = some ⟨ts, r, dp, gr⟩ := by
  obtain ⟨k, hk, h⟩ := h
  cases k with
  | zero => simp at hk
  | succ k => rw [h]; unfold pls; simp
theorem LF.none_ {f : List Tok → Option PR} {r0 : List Tok} {ts : List Tre} {dp : Nat} {gr : Bool} (h : LF f r0 ts dp gr []) : pls f r0.length r0 = none := by
  obtain ⟨k, hk, h⟩ := h
  rw [h]
  cases k <;> simp [pls]
theorem LF.fail {f : List Tok → Option PR} {r0 : List Tok} {ts : List Tre} {dp : Nat} {gr : Bool} {t : Tok} {r : List Tok} (h : LF f r0 ts dp gr (t :: r)) (ht : ¬ t = tClose) (hf : f (t :: r) = none) : pls f r0.length r0 = none := by
  obtain ⟨k, hk, h⟩ := h
  cases k with
  | zero => simp at hk
  | succ k => rw [h]; unfold pls; simp [ht, hf]
theorem LF.more {f : List Tok → Option PR} {r0 : List Tok} {ts : List Tre} {dp : Nat} {gr : Bool} {t : Tok} {r : List Tok} {p : PR} (h : LF f r0 ts dp gr (t :: r)) (ht : ¬ t = tClose) (hf : f (t :: r) = some p) (hl : p.q.length < (t :: r).length) : LF f r0 (ts ++ [p.t]) (max dp p.dp) (gr || p.gr) p.q := by
  obtain ⟨k, hk, h⟩ := h
  cases k with
  | zero => simp at hk
  | succ k =>
    simp only [List.length_cons] at hk hl
    refine ⟨k, by omega, ?_⟩
    rw [h, pls_cons, if_neg ht, hf]
    dsimp only
    cases pls f k p.q <;> simp [Nat.max_assoc, Bool.or_assoc]
/- Places in a list of tokens. -/
theorem suffix_get {all l : List Tok} {t : Tok} {r : List Tok} (h : l <:+ all) (hl : l = t :: r) : ∃ hi : all.length - l.length < all.length, all[all.length - l.length] = t := by
  subst hl
  obtain ⟨pre, rfl⟩ := h
  refine ⟨by simp, ?_⟩
  simp
end Pl
end Go.Proofs.YtkgbdddkcjpgfaaGreatDoor

/- Plain functions: which data are forms. Nothing of the program. -/
namespace Go.Proofs.YtkgbdddkcjpgfaaGreatDoor
namespace Pl
def ifW : List UInt8 := [105, 102]
def lambdaW : List UInt8 := [108, 97, 109, 98, 100, 97]
def setW : List UInt8 := [115, 101, 116, 33]
def defineW : List UInt8 := [100, 101, 102, 105, 110, 101]
def beginW : List UInt8 := [98, 101, 103, 105, 110]
def letW : List UInt8 := [108, 101, 116]
def kws : List (List UInt8) := [quoteW, ifW, lambdaW, setW, defineW, beginW, letW]
def kwB (s : List UInt8) : Bool := decide (s ∈ kws)
def isName : Tre → Bool
  | .lit (.string s) => !kwB s
  | _ => false
def strOf : Tre → List UInt8
  | .lit (.string s) => s
  | _ => []
def namesOk (l : List Tre) : Bool := l.all isName && decide ((l.map strOf).Nodup)
def isPair : Tre → Bool
  | .agg [_, _] => true
  | _ => false
def fstOf : Tre → Tre
  | .agg (a :: _) => a
  | _ => .nil
def sndOf : Tre → Tre
  | .agg (_ :: b :: _) => b
  | _ => .nil
def lamOk (f : Tre → Bool) (ns body : Tre) : Bool :=
  match ns with
  | .agg l => namesOk l && f body
  | _ => false
def letOk (f : Tre → Bool) (ps body : Tre) : Bool :=
  match ps with
  | .agg l => l.all isPair && (namesOk (l.map fstOf) && f body) && (l.map sndOf).all f
  | _ => false
def asgOk (f : Tre → Bool) (r : List Tre) : Bool :=
  match r with
  | [n, e] => isName n && f e
  | _ => false
def lam2 (f : Tre → Bool) (r : List Tre) : Bool :=
  match r with
  | [n, e] => lamOk f n e
  | _ => false
def let2 (f : Tre → Bool) (r : List Tre) : Bool :=
  match r with
  | [n, e] => letOk f n e
  | _ => false
def keyForm (f : Tre → Bool) (h : List UInt8) (r : List Tre) : Bool :=
  if h = quoteW then r.length == 1
  else if h = ifW then r.length == 3 && r.all f
  else if h = beginW then !r.isEmpty && r.all f
  else if h = setW then asgOk f r
  else if h = lambdaW then lam2 f r
  else if h = letW then let2 f r
  else false
/- The keyword with which a list begins, or none. -/
def headKw : List Tre → Option (List UInt8)
  | .lit (.string h) :: _ => if kwB h then some h else none
  | _ => none
def listForm (f : Tre → Bool) (ks : List Tre) : Bool :=
  match ks with
  | [] => false
  | k :: r => match headKw (k :: r) with
    | some h => keyForm f h r
    | none => f k && r.all f
def isForm : Nat → Tre → Bool
  | 0, _ => false
  | n + 1, t => match t with
    | .lit (.int _ _) => true
    | .lit (.bool _) => true
    | .lit (.string s) => !kwB s
    | .agg ks => listForm (isForm n) ks
    | _ => false
def isTop (n : Nat) (t : Tre) : Bool :=
  match t with
  | .agg (.lit (.string h) :: r) => if h = defineW then asgOk (isForm n) r else isForm (n + 1) t
  | _ => isForm (n + 1) t
theorem kwB_sound (s : List UInt8) : kwB s = true ↔ s ∈ kws := by simp [kwB]
end Pl
end Go.Proofs.YtkgbdddkcjpgfaaGreatDoor

/- Plain functions: the error with which a text is read. Nothing of the program. -/
namespace Go.Proofs.YtkgbdddkcjpgfaaGreatDoor
namespace Pl
def goodTok (t : Tok) : Bool := !(inW (t.headD 0)) || (isNum t || noDig t)
def check (bs : List UInt8) : Nat :=
  if 300 < bs.length then 1
  else match toks bs with
    | none => 2
    | some l =>
      if l.all goodTok = false then 2
      else match pd l.length l with
        | none => 2
        | some p =>
          if p.q ≠ [] then 2
          else if 20 < p.dp then 3
          else if p.gr = true then 4
          else if isTop (l.length - 1) p.t = true then 0 else 5
/- Tokens are not empty, and no longer than the text. -/
theorem tkF_size : ∀ (n : Nat) (bs : List UInt8) (l : List Tok), tkF n bs = some l → l.length ≤ bs.length ∧ ∀ t ∈ l, 0 < t.length ∧ t.length ≤ bs.length
  | 0, _, _, h => by obtain rfl := Option.some.inj h; simp
  | _ + 1, [], _, h => by obtain rfl := Option.some.inj h; simp
  | n + 1, c :: r, l, h => by
    unfold tkF at h
    split at h
    · have ih := tkF_size n r l h
      refine ⟨by simp; omega, fun t ht => ⟨(ih.2 t ht).1, by have := (ih.2 t ht).2; simp; omega⟩⟩
    split at h
    · cases r with
      | nil => simp at h
      | cons d q =>
        dsimp only at h
        split at h
        · simp only [Option.map_eq_some_iff] at h
          obtain ⟨l1, h1, rfl⟩ := h
          have ih := tkF_size n q l1 h1
          refine ⟨by simp; omega, fun t ht => ?_⟩
          rcases List.mem_cons.1 ht with rfl | ht
          · simp
          · exact ⟨(ih.2 t ht).1, by have := (ih.2 t ht).2; simp; omega⟩
        · simp at h
    split at h
    · simp only [Option.map_eq_some_iff] at h
      obtain ⟨l1, h1, rfl⟩ := h
      have ih := tkF_size n _ l1 h1
      have hd := dropWhile_le inW r
      have hta : (r.takeWhile inW).length ≤ r.length := (List.takeWhile_sublist inW).length_le
      refine ⟨by simp; omega, fun t ht => ?_⟩
      rcases List.mem_cons.1 ht with rfl | ht
      · simp; omega
      · exact ⟨(ih.2 t ht).1, by have := (ih.2 t ht).2; simp; omega⟩
    split at h
    · simp only [Option.map_eq_some_iff] at h
      obtain ⟨l1, h1, rfl⟩ := h
      have ih := tkF_size n r l1 h1
      refine ⟨by simp; omega, fun t ht => ?_⟩
      rcases List.mem_cons.1 ht with rfl | ht
      · simp
      · exact ⟨(ih.2 t ht).1, by have := (ih.2 t ht).2; simp; omega⟩
    · simp at h
theorem toks_size {bs : List UInt8} {l : List Tok} (h : toks bs = some l) : l.length ≤ bs.length ∧ ∀ t ∈ l, 0 < t.length ∧ t.length ≤ bs.length := tkF_size _ _ _ h
end Pl
end Go.Proofs.YtkgbdddkcjpgfaaGreatDoor
