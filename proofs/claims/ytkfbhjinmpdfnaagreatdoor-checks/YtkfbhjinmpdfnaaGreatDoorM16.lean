/-
  DERIVED: THE SHELF's CONTRACTS AT THIS DUMP, IN PLAIN WORDS (tools/lay-plain.mjs out of 'TryzShelf.lean', which tools/lay-shelf.mjs wrote): THE SAME DECLARATIONS UNDER THE SAME NAMES: 'import', 'namespace', 'open', 'def', 'theorem' AND NOTHING ELSE: no command of the shelf's: FOR A HAND-IN. Each laying: the table of numbers ('.._ren') and one theorem, a field a fact of the dump's own or the kernel's comparison; each contract: ONE APPLICATION.
-/
import Derived.Shelf.Strconv.ParseIntPublic10
import Derived.Test.YtkfbhjinmpdfnaaGreatDoorProg
import Derived.Test.YtkfbhjinmpdfnaaGreatDoorM15
import Derived.Lib.ParseIntB
import Derived.Lib.AtoiErrMem
namespace Go.Proofs
open Go.Shelf
def Tryz.laysC174_ren : Go.Shelf.Ren := ⟨fun | 174 => 68 | 247 => 74 | 245 => 75 | 287 => 79 | 279 => 80 | 280 => 81 | 281 => 82 | 282 => 83 | 321 => 85 | 322 => 86 | 316 => 87 | 171 => 89 | 205 => 88 | 243 => 90 | 246 => 91 | 283 => 92 | 284 => 93 | 285 => 94 | 286 => 95 | 129 => 97 | 317 => 96 | 318 => 98 | 319 => 99 | 320 => 100 | 337 => 101 | 338 => 102 | n => n, fun | 9 => 9 | 3 => 3 | 2 => 2 | 75 => 29 | 85 => 147 | 4 => 4 | 167 => 154 | 5 => 5 | 53 => 155 | 175 => 156 | 46 => 158 | 168 => 159 | 37 => 163 | 0 => 0 | 210 => 166 | 21 => 21 | 127 => 168 | 145 => 171 | 143 => 169 | 171 => 173 | 173 => 176 | 212 => 180 | 51 => 181 | 20 => 20 | 213 => 182 | 232 => 186 | 233 => 187 | 80 => 188 | n => n, fun | 15 => 1 | 16 => 2 | 17 => 4 | 18 => 5 | 19 => 6 | n => n⟩
theorem Tryz.laysC174 : Go.Proofs.LaysC.n174 Tryz.prog Tryz.laysC174_ren := {
  mixed := by kernel_rfl
  f129 := Tryz.func97.trans (congrArg some (by kernel_rfl))
  f171 := Tryz.func89.trans (congrArg some (by kernel_rfl))
  f174 := Tryz.func68.trans (congrArg some (by kernel_rfl))
  f205 := Tryz.func88.trans (congrArg some (by kernel_rfl))
  f243 := Tryz.func90.trans (congrArg some (by kernel_rfl))
  f245 := Tryz.func75.trans (congrArg some (by kernel_rfl))
  f246 := Tryz.func91.trans (congrArg some (by kernel_rfl))
  f247 := Tryz.func74.trans (congrArg some (by kernel_rfl))
  f279 := Tryz.func80.trans (congrArg some (by kernel_rfl))
  f280 := Tryz.func81.trans (congrArg some (by kernel_rfl))
  f281 := Tryz.func82.trans (congrArg some (by kernel_rfl))
  f282 := Tryz.func83.trans (congrArg some (by kernel_rfl))
  f283 := Tryz.func92.trans (congrArg some (by kernel_rfl))
  f284 := Tryz.func93.trans (congrArg some (by kernel_rfl))
  f285 := Tryz.func94.trans (congrArg some (by kernel_rfl))
  f286 := Tryz.func95.trans (congrArg some (by kernel_rfl))
  f287 := Tryz.func79.trans (congrArg some (by kernel_rfl))
  f316 := Tryz.func87.trans (congrArg some (by kernel_rfl))
  f317 := Tryz.func96.trans (congrArg some (by kernel_rfl))
  f318 := Tryz.func98.trans (congrArg some (by kernel_rfl))
  f319 := Tryz.func99.trans (congrArg some (by kernel_rfl))
  f320 := Tryz.func100.trans (congrArg some (by kernel_rfl))
  f321 := Tryz.func85.trans (congrArg some (by kernel_rfl))
  f322 := Tryz.func86.trans (congrArg some (by kernel_rfl))
  f337 := Tryz.func101.trans (congrArg some (by kernel_rfl))
  f338 := Tryz.func102.trans (congrArg some (by kernel_rfl))
  t0 := Tryz.underlying0
  a0 := Tryz.isAgg0
  z0 := Tryz.sizeOf0
  v0 := Tryz.zeroValue0
  t2 := Tryz.underlying2
  a2 := Tryz.isAgg2
  z2 := Tryz.sizeOf2
  v2 := Tryz.zeroValue2
  t3 := Tryz.underlying3
  a3 := Tryz.isAgg3
  z3 := Tryz.sizeOf3
  v3 := Tryz.zeroValue3
  t4 := Tryz.underlying4
  a4 := Tryz.isAgg4
  z4 := Tryz.sizeOf4
  v4 := Tryz.zeroValue4
  t5 := Tryz.underlying5
  a5 := Tryz.isAgg5
  z5 := Tryz.sizeOf5
  v5 := Tryz.zeroValue5
  t9 := Tryz.underlying9
  a9 := Tryz.isAgg9
  z9 := Tryz.sizeOf9
  v9 := Tryz.zeroValue9
  t20 := Tryz.underlying20
  a20 := Tryz.isAgg20
  z20 := Tryz.sizeOf20
  v20 := Tryz.zeroValue20
  t21 := Tryz.underlying21
  a21 := Tryz.isAgg21
  z21 := Tryz.sizeOf21
  v21 := Tryz.zeroValue21
  t37 := Tryz.underlying163
  a37 := Tryz.isAgg163
  z37 := Tryz.sizeOf163
  v37 := Tryz.zeroValue163
  t46 := Tryz.underlying158
  a46 := Tryz.isAgg158
  z46 := Tryz.sizeOf158
  v46 := Tryz.zeroValue158
  t51 := Tryz.underlying181
  a51 := Tryz.isAgg181
  z51 := Tryz.sizeOf181
  v51 := Tryz.zeroValue181
  t53 := Tryz.underlying155
  a53 := Tryz.isAgg155
  z53 := Tryz.sizeOf155
  v53 := Tryz.zeroValue155
  t75 := Tryz.underlying29
  a75 := Tryz.isAgg29
  z75 := Tryz.sizeOf29
  v75 := Tryz.zeroValue29
  t85 := Tryz.underlying147
  a85 := Tryz.isAgg147
  z85 := Tryz.sizeOf147
  v85 := Tryz.zeroValue147
  t127 := Tryz.underlying168
  a127 := Tryz.isAgg168
  z127 := Tryz.sizeOf168
  v127 := Tryz.zeroValue168
  t143 := Tryz.underlying169
  a143 := Tryz.isAgg169
  z143 := Tryz.sizeOf169
  v143 := Tryz.zeroValue169
  t145 := Tryz.underlying171
  a145 := Tryz.isAgg171
  z145 := Tryz.sizeOf171
  v145 := Tryz.zeroValue171
  t167 := Tryz.underlying154
  a167 := Tryz.isAgg154
  z167 := Tryz.sizeOf154
  v167 := Tryz.zeroValue154
  t168 := Tryz.underlying159
  a168 := Tryz.isAgg159
  z168 := Tryz.sizeOf159
  v168 := Tryz.zeroValue159
  t171 := Tryz.underlying173
  a171 := Tryz.isAgg173
  z171 := Tryz.sizeOf173
  v171 := Tryz.zeroValue173
  t173 := Tryz.underlying176
  a173 := Tryz.isAgg176
  z173 := Tryz.sizeOf176
  v173 := Tryz.zeroValue176
  t175 := Tryz.underlying156
  a175 := Tryz.isAgg156
  z175 := Tryz.sizeOf156
  v175 := Tryz.zeroValue156
  t210 := Tryz.underlying166
  a210 := Tryz.isAgg166
  z210 := Tryz.sizeOf166
  v210 := Tryz.zeroValue166
  t212 := Tryz.underlying180
  a212 := Tryz.isAgg180
  z212 := Tryz.sizeOf180
  v212 := Tryz.zeroValue180
  t213 := Tryz.underlying182
  a213 := Tryz.isAgg182
  z213 := Tryz.sizeOf182
  t232 := Tryz.underlying186
  a232 := Tryz.isAgg186
  z232 := Tryz.sizeOf186
  v232 := Tryz.zeroValue186
  t233 := Tryz.underlying187
  a233 := Tryz.isAgg187
  z233 := Tryz.sizeOf187
  v233 := Tryz.zeroValue187
  g15 := by kernel_rfl
  g16 := by kernel_rfl
  g17 := by kernel_rfl
  g18 := by kernel_rfl
  g19 := by kernel_rfl
  t80 := Tryz.underlying188
  a80 := Tryz.isAgg188
  z80 := Tryz.sizeOf188
  v80 := Tryz.zeroValue188
  i0 := by kernel_rfl
  i2 := by kernel_rfl
  i3 := by kernel_rfl
  i4 := by kernel_rfl
  i5 := by kernel_rfl
  i9 := by kernel_rfl
  i20 := by kernel_rfl
  i21 := by kernel_rfl
  i37 := by kernel_rfl
  i46 := by kernel_rfl
  i51 := by kernel_rfl
  i53 := by kernel_rfl
  i75 := by kernel_rfl
  i80 := by kernel_rfl
  i85 := by kernel_rfl
  i127 := by kernel_rfl
  i143 := by kernel_rfl
  i145 := by kernel_rfl
  i167 := by kernel_rfl
  i168 := by kernel_rfl
  i171 := by kernel_rfl
  i173 := by kernel_rfl
  i175 := by kernel_rfl
  i210 := by kernel_rfl
  i212 := by kernel_rfl
  i232 := by kernel_rfl
  i233 := by kernel_rfl
  m15 := by kernel_rfl
  m16 := by kernel_rfl
  m17 := by kernel_rfl
  m18 := by kernel_rfl
  m19 := by kernel_rfl
  c0 := by kernel_rfl
  c2 := by kernel_rfl
  c3 := by kernel_rfl
  c4 := by kernel_rfl
  c5 := by kernel_rfl
  c9 := by kernel_rfl
  c20 := by kernel_rfl
  c21 := by kernel_rfl
  c37 := by kernel_rfl
  c46 := by kernel_rfl
  c51 := by kernel_rfl
  c53 := by kernel_rfl
  c75 := by kernel_rfl
  c80 := by kernel_rfl
  c85 := by kernel_rfl
  c127 := by kernel_rfl
  c143 := by kernel_rfl
  c145 := by kernel_rfl
  c167 := by kernel_rfl
  c168 := by kernel_rfl
  c171 := by kernel_rfl
  c173 := by kernel_rfl
  c175 := by kernel_rfl
  c210 := by kernel_rfl
  c212 := by kernel_rfl
  c213 := by kernel_rfl
  c232 := by kernel_rfl
  c233 := by kernel_rfl }
open Go.RowKit in
/-- strconv.ParseInt(s, 10, 64), AT EVERY STRING THAT SPELLS AN int64 ('Lib.parseIntB 64 s.data.toList = .ok v'): v, AND NO ERROR. (LAID: no walk: one application.) -/
theorem Tryz.strconv_ParseInt_10_at64_ok (s : ByteArray) (hmax : s.size ≤ 9223372036854775806) (v : Int) (h : Lib.parseIntB 64 s.data.toList = .ok v) (w : World) :
    Calls Tryz.prog 68 #[.string s, .int .i64 10, .int .i64 64] w fun e w' => e = .returned (.tuple #[.int .i64 v, .nilIface]) ∧ (w' = w ∨ ∃ t, w' = Lib.bytesWorld w 5 t) := Any.strconv_ParseInt_10_at64_ok Tryz.laysC174 s hmax v h w
open Go.RowKit in
/-- strconv.ParseInt(s, 10, 64), AT EVERY NUMERAL THAT NO int64 HOLDS: THE GREATEST OR THE LEAST int64, BY THE SIGN ('Lib.intSat 64'), AND AN ERROR THAT IS NOT nil: a *NumError in a new block N: {Func: "ParseInt", Num: s's bytes, Err: what the variable ErrRange holds}. Of what was there nothing has turned. (LAID: no walk: one application.) -/
theorem Tryz.strconv_ParseInt_10_at64_range (s : ByteArray) (hlim : s.size ≤ 281474976710656) (h : Lib.parseIntB 64 s.data.toList = .range) (ev : Value) (w : World) (hv : w.cell? ⟨2, 0, none⟩ = some ev) (hev : ev = .nilIface ∨ ∃ te pe, ev = .iface te pe) :
    Calls Tryz.prog 68 #[.string s, .int .i64 10, .int .i64 64] w fun e w' => ∃ N, e = .returned (.tuple #[.int .i64 (Lib.intSat 64 s.data.toList), .iface 159 (.pointer (some ⟨N, 0, none⟩))]) ∧ w.heap.size ≤ N ∧ w'.heap[N]? = some (.cells #[.string ⟨#[80, 97, 114, 115, 101, 73, 110, 116]⟩, .string s, ev] 166 (0, 0)) ∧ Below w.heap.size w w' := Any.strconv_ParseInt_10_at64_range Tryz.laysC174 s hlim h ev w hv hev
end Go.Proofs

/- The program's numbers, by strconv.ParseInt. -/
namespace Go.Proofs.YtkfbhjinmpdfnaaGreatDoor
open Go.RowKit

def stp (a : Nat) (c : UInt8) : Nat := 10 * a + (c.toNat - 48)
theorem stp_ge (l : List UInt8) : ∀ a : Nat, a ≤ l.foldl stp a := by
  induction l with
  | nil => intro a; exact Nat.le_refl _
  | cons c r ih => intro a; refine Nat.le_trans ?_ (ih _); unfold stp; omega
theorem uintM (l : List UInt8) : ∀ a : Nat, l.all Pl.isDig = true → Lib.parseUintM (2 ^ 64 - 1) a l = .ok (l.foldl stp a) ∨ (Lib.parseUintM (2 ^ 64 - 1) a l = .range ∧ Pl.big < l.foldl stp a) := by
  induction l with
  | nil => intro a _; exact .inl rfl
  | cons c r ih =>
    intro a hd
    simp only [List.all_cons, Bool.and_eq_true] at hd
    have hc := Pl.isDig_le c hd.1
    have e : (c :: r).foldl stp a = r.foldl stp (stp a c) := rfl
    have hge := stp_ge r (stp a c)
    unfold Lib.parseUintM
    rw [if_pos hc, e]
    have e2 : a * 10 + (c.toNat - 48) = stp a c := by unfold stp; omega
    rw [e2]
    by_cases h1 : 1844674407370955162 ≤ a
    · rw [if_pos h1]
      exact .inr ⟨rfl, by unfold Pl.big; unfold stp at hge ⊢; omega⟩
    · rw [if_neg h1]
      by_cases h2 : 2 ^ 64 - 1 < stp a c
      · rw [if_pos h2]
        exact .inr ⟨rfl, by unfold Pl.big; omega⟩
      · rw [if_neg h2]
        exact ih _ hd.2
theorem natV_stp (l : List UInt8) : Pl.natV l = l.foldl stp 0 := rfl
theorem intB (t : List UInt8) (hn : Pl.isNum t = true) (ht : t ≠ []) : Lib.parseIntB 64 t = .ok (Pl.sval t) ∨ (Lib.parseIntB 64 t = .range ∧ Pl.big < Pl.natV (Pl.digs t)) := by
  cases t with
  | nil => exact absurd rfl ht
  | cons c r =>
    unfold Lib.parseIntB
    by_cases hc : c = 45
    · subst hc
      have hr : r ≠ [] := by
        rintro rfl
        exact absurd hn (by decide)
      have hm : Pl.minus (45 :: r) = true := by
        cases r with
        | nil => exact absurd rfl hr
        | cons d q => simp [Pl.minus]
      have hdg : Pl.digs (45 :: r) = r := by unfold Pl.digs; rw [hm]; rfl
      have hall : r.all Pl.isDig = true := by unfold Pl.isNum at hn; rwa [hdg] at hn
      have hsv : Pl.sval (45 :: r) = -(Pl.natV r : Int) := by unfold Pl.sval; rw [hm, hdg]; rfl
      have hp : Lib.parseUintB 64 r = Lib.parseUintM (2 ^ 64 - 1) 0 r := by unfold Lib.parseUintB; rw [if_neg hr]
      have h45 : ((45 : UInt8).toNat = 43 ∨ (45 : UInt8).toNat = 45) := .inr rfl
      simp only [h45, if_true, hp, hdg, hsv, natV_stp]
      rcases uintM r 0 hall with h | ⟨h, hb⟩
      · rw [h]
        dsimp only
        rw [if_neg (by simp)]
        by_cases h3 : 2 ^ (64 - 1) < r.foldl stp 0
        · rw [if_pos ⟨rfl, h3⟩]
          exact .inr ⟨rfl, by unfold Pl.big; omega⟩
        · rw [if_neg (fun h => h3 h.2)]
          exact .inl rfl
      · rw [h]; exact .inr ⟨rfl, hb⟩
    · have hm : Pl.minus (c :: r) = false := by simp [Pl.minus, hc]
      have hdg : Pl.digs (c :: r) = c :: r := by unfold Pl.digs; rw [hm]; rfl
      have hall : (c :: r).all Pl.isDig = true := by unfold Pl.isNum at hn; rwa [hdg] at hn
      have hsv : Pl.sval (c :: r) = (Pl.natV (c :: r) : Int) := by unfold Pl.sval; rw [hm, hdg]; rfl
      have hcd := Pl.isDig_le c (by simp only [List.all_cons, Bool.and_eq_true] at hall; exact hall.1)
      have hp : Lib.parseUintB 64 (c :: r) = Lib.parseUintM (2 ^ 64 - 1) 0 (c :: r) := rfl
      have h43 : ¬ c.toNat = 43 := by omega
      have h45 : ¬ c.toNat = 45 := by omega
      simp only [h43, h45, or_self, if_false, hp, hdg, hsv, natV_stp, not_false_eq_true, true_and, false_and]
      rcases uintM (c :: r) 0 hall with h | ⟨h, hb⟩
      · rw [h]
        dsimp only
        by_cases h3 : 2 ^ (64 - 1) ≤ (c :: r).foldl stp 0
        · rw [if_pos h3]
          exact .inr ⟨rfl, by unfold Pl.big; omega⟩
        · rw [if_neg h3]
          exact .inl rfl
      · rw [h]; exact .inr ⟨rfl, hb⟩

/- The variable that ParseInt's error for what is too great comes from. -/
def GE (w : World) : Prop := ∃ ev, w.cell? ⟨2, 0, none⟩ = some ev ∧ (ev = .nilIface ∨ ∃ te pe, ev = .iface te pe)
theorem GE.lt {w : World} (h : GE w) : 2 < w.heap.size := by obtain ⟨ev, h, _⟩ := h; exact World.block_lt_of_cell? w _ h
theorem GE.below {w w' : World} (h : GE w) (hb : Below w.heap.size w w') : GE w' := by
  have hl := h.lt
  obtain ⟨ev, hc, he⟩ := h
  exact ⟨ev, (hb.cell (p := ⟨2, 0, none⟩) hl).trans hc, he⟩
theorem GE.grown {w w' : World} {b : Nat} (h : GE w) (hg : w.grownBy w' (some b)) (hb : 2 < b) : GE w' := by
  have hl := h.lt
  obtain ⟨ev, hc, he⟩ := h
  refine ⟨ev, (World.cell?_of_block (w := w) (hg.block 2 hl (by simp; omega))).trans hc, he⟩


set_option maxHeartbeats 1000000 in
set_option maxRecDepth 100000 in
theorem p_number (w : World) (b : Nat) (rest : Value) (dep dpst : Int) (g : Bool) (s : ByteArray) (h : PRd w b rest dep dpst g) (hG : GE w) (hs : s.size ≤ 1000) (hs1 : 0 < s.size) (hn : Pl.isNum s.data.toList = true) :
    Calls Tryz.prog 58 #[.pointer (some ⟨b, 0, none⟩), .string s] w fun e w' => ∃ k : Int, e = .returned (.int .i64 k) ∧ (inBig (Pl.sval s.data.toList) → k = Pl.sval s.data.toList) ∧ w.grownBy w' (some b) ∧ PRd w' b rest dep dpst (g || Pl.great s.data.toList) := by
  have hne : s.data.toList ≠ [] := fun e => by have : s.data.toList.length = s.size := by simp
                                               rw [e] at this; simp at this; omega
  obtain ⟨ev, hev, hev2⟩ := hG
  rcases intB _ hn hne with ho | ⟨ho, hbig⟩
  · have HO := (show Hid _ from ho)
    have HH := (show Hid (PRd w b rest dep dpst g) from h)
    have f3 := free_at h 3
    clear ho h hev hev2 hne
    go_enter Tryz.func58, Tryz.ntmps58
    go_wp2_with fail
    refine (Tryz.strconv_ParseInt_10_at64_ok s (by omega) _ HO.out _).mono ?_
    rintro e w1 ⟨rfl, hw1⟩
    have hB : Below w.heap.size w w1 := by
      rcases hw1 with rfl | ⟨t, rfl⟩
      · exact Below.refl _ _
      · exact Lib.bytesWorld_below _ _ _
    have HG1 : Hid (w.grownBy w1 (some b)) := grown_of_below _ hB
    have HH1 : Hid (PRd w1 b rest dep dpst g) := HH.out.below hB
    have f1 := free_at HH1.out 3
    have c1 := HH1.out.cells.2.2.2
    have HSv : Hid (∀ X : Int, X = Pl.sval s.data.toList → (Pl.great s.data.toList = true ↔ (1099511627776 < X ∨ X < -1099511627776))) := by
      intro X hX
      subst hX
      unfold Pl.great Pl.sval Pl.big
      rw [decide_eq_true_eq]
      split <;> omega
    generalize hX : Pl.sval s.data.toList = X at *
    have HX := (show Hid (Pl.sval s.data.toList = X) from hX)
    clear hX hB hw1 HH HO f3 hn
    by_cases h1 : 1099511627776 < X
    · have HE : Hid (Pl.great s.data.toList = true) := (HSv.out X rfl).2 (.inl h1)
      go_wp2_with fail
      go_ret
      refine ⟨X, rfl, fun _ => HX.out.symm, grown_trans HG1.out (grown_set _ _ _ _), ?_⟩
      rw [HE.out, Bool.or_true]
      exact HH1.out.set3 true
    · by_cases h2 : X < -1099511627776
      · have HE : Hid (Pl.great s.data.toList = true) := (HSv.out X rfl).2 (.inr h2)
        go_wp2_with fail
        go_ret
        refine ⟨X, rfl, fun _ => HX.out.symm, grown_trans HG1.out (grown_set _ _ _ _), ?_⟩
        rw [HE.out, Bool.or_true]
        exact HH1.out.set3 true
      · have HE : Hid (Pl.great s.data.toList = false) := show Pl.great _ = false from by
          cases hq : Pl.great s.data.toList with
          | false => rfl
          | true => have := (HSv.out X rfl).1 hq; omega
        go_wp2_with fail
        go_ret
        refine ⟨X, rfl, fun _ => HX.out.symm, HG1.out, ?_⟩
        rw [HE.out, Bool.or_false]
        exact HH1.out
  · have HO := (show Hid _ from ho)
    have HH := (show Hid (PRd w b rest dep dpst g) from h)
    have HE : Hid (Pl.great s.data.toList = true) := show Pl.great _ = true from by unfold Pl.great; simpa using hbig
    have HNB : Hid (¬ inBig (Pl.sval s.data.toList)) := by
      unfold inBig Pl.sval
      intro hh
      split at hh <;> omega
    have HEv := (show Hid (w.cell? ⟨2, 0, none⟩ = some ev) from hev)
    clear ho h hev hne hbig hn
    go_enter Tryz.func58, Tryz.ntmps58
    go_wp2_with fail
    refine (Tryz.strconv_ParseInt_10_at64_range s (by omega) HO.out ev _ HEv.out hev2).mono ?_
    rintro e w1 ⟨N, rfl, _, _, hB⟩
    have HG1 : Hid (w.grownBy w1 (some b)) := grown_of_below _ hB
    have HH1 : Hid (PRd w1 b rest dep dpst g) := HH.out.below hB
    have f1 := free_at HH1.out 3
    have c1 := HH1.out.cells.2.2.2
    clear hB HH HO hev2
    go_wp2_with fail
    go_ret
    refine ⟨_, rfl, fun h => absurd h HNB.out, grown_trans HG1.out (grown_set _ _ _ _), ?_⟩
    rw [HE.out, Bool.or_true]
    exact HH1.out.set3 true
end Go.Proofs.YtkfbhjinmpdfnaaGreatDoor
