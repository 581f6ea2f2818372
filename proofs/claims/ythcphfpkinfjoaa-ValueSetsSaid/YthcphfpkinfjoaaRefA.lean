/-
  What rune1, Runes and Good of the document's own answers (package introitref1) answer: the same plain functions as package utf.
  Conditions: the string is no longer than the form's own bound on lengths.
-/
import Derived.Test.YthcphfpkinfjoaaUtfM
namespace Go.Proofs.Ythcphfpkinfjoaa
open Go.RowKit

def uRune : List UInt8 → Nat × Nat
  | [] => (0, 0)
  | c :: t => match uPoint c t with
    | some (r, u) => (r, 1 + t.length - u.length)
    | none => (0, 0)
theorem uRune_none {c : UInt8} {t : List UInt8} (h : uPoint c t = none) : uRune (c :: t) = (0, 0) := by simp [uRune, h]
theorem uRune_some {c : UInt8} {t : List UInt8} {r : Nat} {u : List UInt8} (h : uPoint c t = some (r, u)) : uRune (c :: t) = (r, 1 + t.length - u.length) := by simp [uRune, h]

/-- The two answers of rune1. -/
def Rune (l : List UInt8) (w : World) (e : Ending) (w' : World) : Prop := e = .returned (.tuple #[.int .i64 ((uRune l).1 : Int), .int .i64 ((uRune l).2 : Int)]) ∧ w = w'
theorem Rune.mk {l : List UInt8} {w : World} {a b : Nat} {x y : Int} (h : uRune l = (a, b)) (hx : x = (a : Int)) (hy : y = (b : Int)) : Rune l w (.returned (.tuple #[.int .i64 x, .int .i64 y])) w := by
  subst hx hy; unfold Rune; rw [h]; exact ⟨rfl, rfl⟩

theorem drop_at (s : ByteArray) (i : Nat) (h : i < s.size) : s.data.toList.drop i = s[i] :: s.data.toList.drop (i + 1) := by
  rw [List.drop_eq_getElem_cons (by simpa using h)]; rfl
theorem or_six64 (q : Nat) (c : UInt8) (hq : q < 8388608) : bits .or .i64 ((q : Int) * 64) (wrap64 (bits .and .u8 (c.toNat : Int) 63)) = ((q * 64 + c.toNat % 64 : Nat) : Int) := by
  have hc : c.toNat < 256 := c.toNat_lt
  rw [u8_and63 _ (by omega) (by omega), show wrap64 ((c.toNat : Int) % 64) = (c.toNat : Int) % 64 by unfold wrap64; omega]
  have e := bits_join .i64 63 (by decide) (fun n h0 h1 => wrap_small n h0 (by simpa using h1)) 6 ((q : Int) * 64) ((c.toNat : Int) % 64) (by omega) (by omega) (by omega) (by omega) (by omega) (by omega)
  rw [e]; omega
theorem mask31 (m : Nat) (h : m < 256) : bits .and .i64 (m : Int) 31 = ((m % 32 : Nat) : Int) := by
  have e := bits_mask .i64 63 (by decide) (fun n h0 h1 => wrap_small n h0 (by simpa using h1)) 5 (by decide) (m : Int) (by omega) (by omega)
  have e2 : bits .and .i64 (m : Int) 31 = (m : Int) % 32 := e
  rw [e2]; omega
theorem mask15' (m : Nat) (h : m < 256) : bits .and .i64 (m : Int) 15 = ((m % 16 : Nat) : Int) := by
  have e := bits_mask .i64 63 (by decide) (fun n h0 h1 => wrap_small n h0 (by simpa using h1)) 4 (by decide) (m : Int) (by omega) (by omega)
  have e2 : bits .and .i64 (m : Int) 15 = (m : Int) % 16 := e
  rw [e2]; omega
theorem mask7 (m : Nat) (h : m < 256) : bits .and .i64 (m : Int) 7 = ((m % 8 : Nat) : Int) := by
  have e := bits_mask .i64 63 (by decide) (fun n h0 h1 => wrap_small n h0 (by simpa using h1)) 3 (by decide) (m : Int) (by omega) (by omega)
  have e2 : bits .and .i64 (m : Int) 7 = (m : Int) % 8 := e
  rw [e2]; omega

set_option maxRecDepth 100000 in
set_option maxHeartbeats 1000000 in
theorem rune_nil (s : ByteArray) (w : World) (h : s.data.toList = []) : Calls Try.prog 103 #[.string s] w (Rune s.data.toList w) := by
  have H := Lib.hid h
  have hz : s.size = 0 := by have := congrArg List.length h; rw [Array.length_toList] at this; exact this
  have hz' : ((s.size : Int) == 0) = true := by simp [hz]
  clear h hz
  go_enter Try.func103, Try.ntmps103
  go_wp2
  go_ret2
  rw [H.out]
  exact Rune.mk (a := 0) (b := 0) rfl rfl rfl

theorem uPoint_low {c : UInt8} (t : List UInt8) (h1 : 128 ≤ c.toNat) (h2 : c.toNat < 194) : uPoint c t = none := by
  unfold uPoint
  rw [if_neg (by omega)]
  by_cases h3 : c.toNat < 192
  · rw [if_pos h3]
  rw [if_neg h3, if_pos (by omega)]
  cases ht : uTail 1 (c.toNat % 32) 128 t with
  | none => rfl
  | some p =>
    obtain ⟨q, u⟩ := p
    obtain ⟨_, _, _, _, _, hc, hl⟩ := uTail_loc ht
    cases t with
    | nil => simp [uCont] at hc
    | cons x t =>
      simp only [uCont] at hc
      split at hc
      · simp only [Option.some.injEq, Prod.mk.injEq] at hc; omega
      · simp at hc
theorem uCont_ge : ∀ (n r : Nat) (l : List UInt8) (q : Nat) (u : List UInt8), uCont n r l = some (q, u) → r * 64 ^ n ≤ q
  | 0, r, l, q, u, h => by simp only [uCont, Option.some.injEq, Prod.mk.injEq] at h; omega
  | n + 1, r, [], q, u, h => by simp [uCont] at h
  | n + 1, r, c :: t, q, u, h => by
    simp only [uCont] at h
    split at h
    · have h1 := uCont_ge n _ t q u h
      have h2 : r * 64 * 64 ^ n ≤ (r * 64 + c.toNat % 64) * 64 ^ n := Nat.mul_le_mul_right _ (by omega)
      rw [Nat.pow_succ, Nat.mul_comm (64 ^ n) 64, ← Nat.mul_assoc]
      omega
    · simp at h
theorem uPoint_top {c : UInt8} (t : List UInt8) (h1 : 245 ≤ c.toNat) : uPoint c t = none := by
  unfold uPoint
  rw [if_neg (by omega), if_neg (by omega), if_neg (by omega), if_neg (by omega)]
  by_cases h3 : c.toNat < 248
  · rw [if_pos h3]
    cases ht : uTail 3 (c.toNat % 8) 65536 t with
    | none => rfl
    | some p =>
      obtain ⟨q, u⟩ := p
      have hv := uTail_valid ht
      obtain ⟨_, _, _, _, _, hc, hl⟩ := uTail_loc ht
      have := uCont_ge _ _ _ _ _ hc
      omega
  · rw [if_neg h3]
theorem list_cons (s : ByteArray) (h0 : 0 < s.size) : s.data.toList = s[0] :: s.data.toList.drop 1 := by
  have := drop_at s 0 h0
  simpa using this

set_option maxRecDepth 100000 in
set_option maxHeartbeats 1000000 in
theorem rune_bad (s : ByteArray) (w : World) (h0 : 0 < s.size) (hr : (128 ≤ s[0].toNat ∧ s[0].toNat < 194) ∨ 245 ≤ s[0].toNat) : Calls Try.prog 103 #[.string s] w (Rune s.data.toList w) := by
  have H := Lib.hid (show uRune s.data.toList = (0, 0) by
    rw [list_cons s h0]
    rcases hr with ⟨h1, h2⟩ | h1
    · exact uRune_none (uPoint_low _ h1 h2)
    · exact uRune_none (uPoint_top _ h1))
  have hz' : ((s.size : Int) == 0) = false := beq_eq_false_iff_ne.2 (by omega)
  have h0' : (0 : Int) < (s.size : Int) := by omega
  rcases hr with ⟨h1, h2⟩ | h1
  · have g1 : (128 : Int) ≤ (s[0].toNat : Int) := by omega
    have g2 : (s[0].toNat : Int) < 194 := by omega
    clear h1 h2
    go_enter Try.func103, Try.ntmps103
    go_wp2
    go_ret2
    exact Rune.mk H.out rfl rfl
  · have g1 : (245 : Int) ≤ (s[0].toNat : Int) := by omega
    have g2 : (s[0].toNat : Int) < 256 := by have := s[0].toNat_lt; omega
    clear h1
    go_enter Try.func103, Try.ntmps103
    go_wp2
    go_ret2
    exact Rune.mk H.out rfl rfl

set_option maxRecDepth 100000 in
set_option maxHeartbeats 1000000 in
theorem rune_one (s : ByteArray) (w : World) (h0 : 0 < s.size) (hr : s[0].toNat < 128) : Calls Try.prog 103 #[.string s] w (Rune s.data.toList w) := by
  have H := Lib.hid (show uRune s.data.toList = (s[0].toNat, 1) by
    rw [list_cons s h0, uRune_some (show uPoint s[0] (s.data.toList.drop 1) = some (s[0].toNat, s.data.toList.drop 1) by unfold uPoint; rw [if_pos hr])]
    congr 1; omega)
  have hz' : ((s.size : Int) == 0) = false := beq_eq_false_iff_ne.2 (by omega)
  have h0' : (0 : Int) < (s.size : Int) := by omega
  have g1 : (s[0].toNat : Int) < 128 := by omega
  clear hr
  go_enter Try.func103, Try.ntmps103
  go_wp2
  go_ret2
  exact Rune.mk H.out (by first | rfl | (simp; done) | (unfold wrap64; omega)) rfl

theorem fit_of {least q : Nat} (h1 : least ≤ q) (h2 : q ≤ 1114111) (h3 : q < 55296 ∨ 57344 ≤ q) : uFit least q = true := by
  simp only [uFit, uSur, Bool.and_eq_true, decide_eq_true_eq, Bool.not_eq_true', Bool.and_eq_false_iff, decide_eq_false_iff_not]; omega
theorem nofit_of {least q : Nat} (h : q < least ∨ 1114111 < q ∨ (55296 ≤ q ∧ q < 57344)) : ¬ uFit least q = true := by
  simp only [uFit, uSur, Bool.and_eq_true, decide_eq_true_eq, Bool.not_eq_true', Bool.and_eq_false_iff, decide_eq_false_iff_not]; omega
def Reltwo (s : ByteArray) (c : UInt8) (i q : Nat) : Prop := 1 ≤ i ∧ i ≤ 2 ∧ q < 32 * 64 ^ (i - 1) ∧ uCont (2 - i) q (s.data.toList.drop i) = uCont (2 - 1) (c.toNat % 32) (s.data.toList.drop 1)
theorem upt_two {c : UInt8} (t : List UInt8) (h1 : 194 ≤ c.toNat) (h2 : c.toNat < 224) : uPoint c t = uTail (2 - 1) (c.toNat % 32) 128 t := by
  unfold uPoint
  rw [if_neg (by omega), if_neg (by omega), if_pos (by omega)]
theorem end_two (s : ByteArray) (h0 : 0 < s.size) (h1 : 194 ≤ s[0].toNat) (h2 : s[0].toNat < 224) {i q : Nat} (hi : ¬ i < 2) (hn : ¬ s.size < 2) (h : Reltwo s s[0] i q) : uRune s.data.toList = if uFit 128 q then (q, 2) else (0, 0) := by
  obtain ⟨a1, a2, a3, a4⟩ := h
  have ei : i = 2 := by omega
  subst ei
  rw [list_cons s h0]
  have hc : uCont (2 - 1) (s[0].toNat % 32) (s.data.toList.drop 1) = some (q, s.data.toList.drop 2) := by rw [← a4]; rfl
  have hl : s.data.toList.length = s.size := Array.length_toList
  by_cases hf : uFit 128 q = true
  · rw [if_pos hf, uRune_some (u := s.data.toList.drop 2) (r := q) (by rw [upt_two _ h1 h2]; unfold uTail; rw [hc]; simp only; rw [if_pos hf])]
    congr 1
    simp only [List.length_drop, hl]; omega
  · rw [if_neg hf, uRune_none (by rw [upt_two _ h1 h2]; unfold uTail; rw [hc]; simp only; rw [if_neg hf])]
theorem bad_two (s : ByteArray) (h0 : 0 < s.size) (h1 : 194 ≤ s[0].toNat) (h2 : s[0].toNat < 224) {i q : Nat} (hi : i < 2) (h : Reltwo s s[0] i q) (hs : i < s.size) (hb : decide (s[i].toNat / 64 = 2) = false) : uRune s.data.toList = (0, 0) := by
  obtain ⟨a1, a2, a3, a4⟩ := h
  rw [list_cons s h0]
  refine uRune_none ?_
  rw [upt_two _ h1 h2]
  unfold uTail
  obtain ⟨m, hm⟩ : ∃ m, 2 - i = m + 1 := ⟨2 - i - 1, by omega⟩
  rw [← a4, drop_at s i hs, hm]
  simp only [uCont]
  rw [if_neg (of_decide_eq_false hb)]
theorem step_two (s : ByteArray) (c : UInt8) {i q : Nat} (hi : i < 2) (h : Reltwo s c i q) (hs : i < s.size) (hb : decide (s[i].toNat / 64 = 2) = true) : Reltwo s c (i + 1) (q * 64 + s[i].toNat % 64) := by
  obtain ⟨a1, a2, a3, a4⟩ := h
  refine ⟨by omega, by omega, ?_, ?_⟩
  · obtain ⟨m, hm⟩ : ∃ m, i = m + 1 := ⟨i - 1, by omega⟩
    subst hm
    simp only [Nat.add_sub_cancel] at a3 ⊢
    rw [Nat.pow_succ]; omega
  · obtain ⟨m, hm⟩ : ∃ m, 2 - i = m + 1 := ⟨2 - i - 1, by omega⟩
    rw [← a4, drop_at s i hs, hm, show 2 - (i + 1) = m by omega]
    simp only [uCont]
    rw [if_pos (of_decide_eq_true hb)]
theorem short_two (s : ByteArray) (h0 : 0 < s.size) (h1 : 194 ≤ s[0].toNat) (h2 : s[0].toNat < 224) (hn : s.size < 2) : uRune s.data.toList = (0, 0) := by
  have hl : s.data.toList.length = s.size := Array.length_toList
  rw [list_cons s h0]
  exact uRune_none (by rw [upt_two _ h1 h2]; exact uTail_short _ _ _ _ (by rw [List.length_drop, hl]; omega))

set_option maxRecDepth 100000 in
set_option maxHeartbeats 1000000 in
theorem rune_two (s : ByteArray) (w : World) (hs : s.size ≤ maxLen) (h0 : 0 < s.size) (h1 : 194 ≤ s[0].toNat) (h2 : s[0].toNat < 224) : Calls Try.prog 103 #[.string s] w (Rune s.data.toList w) := by
  have hs' : s.size ≤ 9223372036854775807 := hs
  have hz' : ((s.size : Int) == 0) = false := beq_eq_false_iff_ne.2 (by omega)
  have h0' : (0 : Int) < (s.size : Int) := by omega
  have g1 : (194 : Int) ≤ (s[0].toNat : Int) := by omega
  have g2 : (s[0].toNat : Int) < 224 := by omega
  have H1 := Lib.hid h1
  have H2 := Lib.hid h2
  have HM := Lib.hid (mask31 s[0].toNat (by omega))
  clear h1 h2
  by_cases hn : s.size < 2
  · have HS := Lib.hid (short_two s h0 H1.out H2.out hn)
    go_enter Try.func103, Try.ntmps103
    go_wp2
    go_ret2
    exact Rune.mk HS.out rfl rfl
  · go_enter Try.func103, Try.ntmps103
    go_wp2_with fail
    rw [HM.out]
    go_loop [4, 7] (fun v j => ∃ i q : Nat, v = .int .i64 q ∧ j = .int .i64 i ∧ Reltwo s s[0] i q) (fun _ j => 2 - (intOf j).toNat)
    case atStart => exact ⟨1, _, rfl, rfl, by omega, by omega, by omega, rfl⟩
    case round =>
      obtain ⟨i, q, rfl, rfl, hrel⟩ := hrel
      have HR := Lib.hid hrel
      obtain ⟨a1, a2, a3, _⟩ := hrel
      have hq' : q < 8388608 := by
        have : 64 ^ (i - 1) ≤ 64 ^ 3 := Nat.pow_le_pow_right (by omega) (by omega)
        omega
      clear a3
      by_cases hlt : i < 2
      · have hi' : i < s.size := by omega
        have hlt' : (i : Int) < 2 := by omega
        cases hcb : decide (s[i].toNat / 64 = 2) with
        | false =>
          have HB := Lib.hid (bad_two s h0 H1.out H2.out hlt HR.out hi' hcb)
          have hbit := cont_bit s[i] false hcb
          clear hcb
          go_wp2
          go_ret2
          exact Rune.mk HB.out rfl rfl
        | true =>
          have HB := Lib.hid (step_two s s[0] hlt HR.out hi' hcb)
          have hbit := cont_bit s[i] true hcb
          clear hcb
          go_wp2
          go_round
          case rel => exact ⟨i + 1, q * 64 + s[i].toNat % 64, by rw [or_six64 q s[i] hq'], by go_num, HB.out⟩
          case measure => simp [intOf]; omega
      · have HE := Lib.hid (end_two s h0 H1.out H2.out hlt hn HR.out)
        go_wp2
        all_goals go_ret2
        all_goals first
          | (refine Rune.mk (HE.out.trans (if_pos (fit_of ?_ ?_ ?_))) rfl rfl <;> omega)
          | (refine Rune.mk (HE.out.trans (if_neg (nofit_of ?_))) rfl rfl; omega)

def Relthree (s : ByteArray) (c : UInt8) (i q : Nat) : Prop := 1 ≤ i ∧ i ≤ 3 ∧ q < 32 * 64 ^ (i - 1) ∧ uCont (3 - i) q (s.data.toList.drop i) = uCont (3 - 1) (c.toNat % 16) (s.data.toList.drop 1)
theorem upt_three {c : UInt8} (t : List UInt8) (h1 : 224 ≤ c.toNat) (h2 : c.toNat < 240) : uPoint c t = uTail (3 - 1) (c.toNat % 16) 2048 t := by
  unfold uPoint
  rw [if_neg (by omega), if_neg (by omega), if_neg (by omega), if_pos (by omega)]
theorem end_three (s : ByteArray) (h0 : 0 < s.size) (h1 : 224 ≤ s[0].toNat) (h2 : s[0].toNat < 240) {i q : Nat} (hi : ¬ i < 3) (hn : ¬ s.size < 3) (h : Relthree s s[0] i q) : uRune s.data.toList = if uFit 2048 q then (q, 3) else (0, 0) := by
  obtain ⟨a1, a2, a3, a4⟩ := h
  have ei : i = 3 := by omega
  subst ei
  rw [list_cons s h0]
  have hc : uCont (3 - 1) (s[0].toNat % 16) (s.data.toList.drop 1) = some (q, s.data.toList.drop 3) := by rw [← a4]; rfl
  have hl : s.data.toList.length = s.size := Array.length_toList
  by_cases hf : uFit 2048 q = true
  · rw [if_pos hf, uRune_some (u := s.data.toList.drop 3) (r := q) (by rw [upt_three _ h1 h2]; unfold uTail; rw [hc]; simp only; rw [if_pos hf])]
    congr 1
    simp only [List.length_drop, hl]; omega
  · rw [if_neg hf, uRune_none (by rw [upt_three _ h1 h2]; unfold uTail; rw [hc]; simp only; rw [if_neg hf])]
theorem bad_three (s : ByteArray) (h0 : 0 < s.size) (h1 : 224 ≤ s[0].toNat) (h2 : s[0].toNat < 240) {i q : Nat} (hi : i < 3) (h : Relthree s s[0] i q) (hs : i < s.size) (hb : decide (s[i].toNat / 64 = 2) = false) : uRune s.data.toList = (0, 0) := by
  obtain ⟨a1, a2, a3, a4⟩ := h
  rw [list_cons s h0]
  refine uRune_none ?_
  rw [upt_three _ h1 h2]
  unfold uTail
  obtain ⟨m, hm⟩ : ∃ m, 3 - i = m + 1 := ⟨3 - i - 1, by omega⟩
  rw [← a4, drop_at s i hs, hm]
  simp only [uCont]
  rw [if_neg (of_decide_eq_false hb)]
theorem step_three (s : ByteArray) (c : UInt8) {i q : Nat} (hi : i < 3) (h : Relthree s c i q) (hs : i < s.size) (hb : decide (s[i].toNat / 64 = 2) = true) : Relthree s c (i + 1) (q * 64 + s[i].toNat % 64) := by
  obtain ⟨a1, a2, a3, a4⟩ := h
  refine ⟨by omega, by omega, ?_, ?_⟩
  · obtain ⟨m, hm⟩ : ∃ m, i = m + 1 := ⟨i - 1, by omega⟩
    subst hm
    simp only [Nat.add_sub_cancel] at a3 ⊢
    rw [Nat.pow_succ]; omega
  · obtain ⟨m, hm⟩ : ∃ m, 3 - i = m + 1 := ⟨3 - i - 1, by omega⟩
    rw [← a4, drop_at s i hs, hm, show 3 - (i + 1) = m by omega]
    simp only [uCont]
    rw [if_pos (of_decide_eq_true hb)]
theorem short_three (s : ByteArray) (h0 : 0 < s.size) (h1 : 224 ≤ s[0].toNat) (h2 : s[0].toNat < 240) (hn : s.size < 3) : uRune s.data.toList = (0, 0) := by
  have hl : s.data.toList.length = s.size := Array.length_toList
  rw [list_cons s h0]
  exact uRune_none (by rw [upt_three _ h1 h2]; exact uTail_short _ _ _ _ (by rw [List.length_drop, hl]; omega))

set_option maxRecDepth 100000 in
set_option maxHeartbeats 1000000 in
theorem rune_three (s : ByteArray) (w : World) (hs : s.size ≤ maxLen) (h0 : 0 < s.size) (h1 : 224 ≤ s[0].toNat) (h2 : s[0].toNat < 240) : Calls Try.prog 103 #[.string s] w (Rune s.data.toList w) := by
  have hs' : s.size ≤ 9223372036854775807 := hs
  have hz' : ((s.size : Int) == 0) = false := beq_eq_false_iff_ne.2 (by omega)
  have h0' : (0 : Int) < (s.size : Int) := by omega
  have g1 : (224 : Int) ≤ (s[0].toNat : Int) := by omega
  have g2 : (s[0].toNat : Int) < 240 := by omega
  have H1 := Lib.hid h1
  have H2 := Lib.hid h2
  have HM := Lib.hid (mask15' s[0].toNat (by omega))
  clear h1 h2
  by_cases hn : s.size < 3
  · have HS := Lib.hid (short_three s h0 H1.out H2.out hn)
    go_enter Try.func103, Try.ntmps103
    go_wp2
    go_ret2
    exact Rune.mk HS.out rfl rfl
  · go_enter Try.func103, Try.ntmps103
    go_wp2_with fail
    rw [HM.out]
    go_loop [4, 7] (fun v j => ∃ i q : Nat, v = .int .i64 q ∧ j = .int .i64 i ∧ Relthree s s[0] i q) (fun _ j => 3 - (intOf j).toNat)
    case atStart => exact ⟨1, _, rfl, rfl, by omega, by omega, by omega, rfl⟩
    case round =>
      obtain ⟨i, q, rfl, rfl, hrel⟩ := hrel
      have HR := Lib.hid hrel
      obtain ⟨a1, a2, a3, _⟩ := hrel
      have hq' : q < 8388608 := by
        have : 64 ^ (i - 1) ≤ 64 ^ 3 := Nat.pow_le_pow_right (by omega) (by omega)
        omega
      clear a3
      by_cases hlt : i < 3
      · have hi' : i < s.size := by omega
        have hlt' : (i : Int) < 3 := by omega
        cases hcb : decide (s[i].toNat / 64 = 2) with
        | false =>
          have HB := Lib.hid (bad_three s h0 H1.out H2.out hlt HR.out hi' hcb)
          have hbit := cont_bit s[i] false hcb
          clear hcb
          go_wp2
          go_ret2
          exact Rune.mk HB.out rfl rfl
        | true =>
          have HB := Lib.hid (step_three s s[0] hlt HR.out hi' hcb)
          have hbit := cont_bit s[i] true hcb
          clear hcb
          go_wp2
          go_round
          case rel => exact ⟨i + 1, q * 64 + s[i].toNat % 64, by rw [or_six64 q s[i] hq'], by go_num, HB.out⟩
          case measure => simp [intOf]; omega
      · have HE := Lib.hid (end_three s h0 H1.out H2.out hlt hn HR.out)
        go_wp2
        all_goals go_ret2
        all_goals first
          | (refine Rune.mk (HE.out.trans (if_pos (fit_of ?_ ?_ ?_))) rfl rfl <;> omega)
          | (refine Rune.mk (HE.out.trans (if_neg (nofit_of ?_))) rfl rfl; omega)

def Relfour (s : ByteArray) (c : UInt8) (i q : Nat) : Prop := 1 ≤ i ∧ i ≤ 4 ∧ q < 32 * 64 ^ (i - 1) ∧ uCont (4 - i) q (s.data.toList.drop i) = uCont (4 - 1) (c.toNat % 8) (s.data.toList.drop 1)
theorem upt_four {c : UInt8} (t : List UInt8) (h1 : 240 ≤ c.toNat) (h2 : c.toNat < 245) : uPoint c t = uTail (4 - 1) (c.toNat % 8) 65536 t := by
  unfold uPoint
  rw [if_neg (by omega), if_neg (by omega), if_neg (by omega), if_neg (by omega), if_pos (by omega)]
theorem end_four (s : ByteArray) (h0 : 0 < s.size) (h1 : 240 ≤ s[0].toNat) (h2 : s[0].toNat < 245) {i q : Nat} (hi : ¬ i < 4) (hn : ¬ s.size < 4) (h : Relfour s s[0] i q) : uRune s.data.toList = if uFit 65536 q then (q, 4) else (0, 0) := by
  obtain ⟨a1, a2, a3, a4⟩ := h
  have ei : i = 4 := by omega
  subst ei
  rw [list_cons s h0]
  have hc : uCont (4 - 1) (s[0].toNat % 8) (s.data.toList.drop 1) = some (q, s.data.toList.drop 4) := by rw [← a4]; rfl
  have hl : s.data.toList.length = s.size := Array.length_toList
  by_cases hf : uFit 65536 q = true
  · rw [if_pos hf, uRune_some (u := s.data.toList.drop 4) (r := q) (by rw [upt_four _ h1 h2]; unfold uTail; rw [hc]; simp only; rw [if_pos hf])]
    congr 1
    simp only [List.length_drop, hl]; omega
  · rw [if_neg hf, uRune_none (by rw [upt_four _ h1 h2]; unfold uTail; rw [hc]; simp only; rw [if_neg hf])]
theorem bad_four (s : ByteArray) (h0 : 0 < s.size) (h1 : 240 ≤ s[0].toNat) (h2 : s[0].toNat < 245) {i q : Nat} (hi : i < 4) (h : Relfour s s[0] i q) (hs : i < s.size) (hb : decide (s[i].toNat / 64 = 2) = false) : uRune s.data.toList = (0, 0) := by
  obtain ⟨a1, a2, a3, a4⟩ := h
  rw [list_cons s h0]
  refine uRune_none ?_
  rw [upt_four _ h1 h2]
  unfold uTail
  obtain ⟨m, hm⟩ : ∃ m, 4 - i = m + 1 := ⟨4 - i - 1, by omega⟩
  rw [← a4, drop_at s i hs, hm]
  simp only [uCont]
  rw [if_neg (of_decide_eq_false hb)]
theorem step_four (s : ByteArray) (c : UInt8) {i q : Nat} (hi : i < 4) (h : Relfour s c i q) (hs : i < s.size) (hb : decide (s[i].toNat / 64 = 2) = true) : Relfour s c (i + 1) (q * 64 + s[i].toNat % 64) := by
  obtain ⟨a1, a2, a3, a4⟩ := h
  refine ⟨by omega, by omega, ?_, ?_⟩
  · obtain ⟨m, hm⟩ : ∃ m, i = m + 1 := ⟨i - 1, by omega⟩
    subst hm
    simp only [Nat.add_sub_cancel] at a3 ⊢
    rw [Nat.pow_succ]; omega
  · obtain ⟨m, hm⟩ : ∃ m, 4 - i = m + 1 := ⟨4 - i - 1, by omega⟩
    rw [← a4, drop_at s i hs, hm, show 4 - (i + 1) = m by omega]
    simp only [uCont]
    rw [if_pos (of_decide_eq_true hb)]
theorem short_four (s : ByteArray) (h0 : 0 < s.size) (h1 : 240 ≤ s[0].toNat) (h2 : s[0].toNat < 245) (hn : s.size < 4) : uRune s.data.toList = (0, 0) := by
  have hl : s.data.toList.length = s.size := Array.length_toList
  rw [list_cons s h0]
  exact uRune_none (by rw [upt_four _ h1 h2]; exact uTail_short _ _ _ _ (by rw [List.length_drop, hl]; omega))

set_option maxRecDepth 100000 in
set_option maxHeartbeats 1000000 in
theorem rune_four (s : ByteArray) (w : World) (hs : s.size ≤ maxLen) (h0 : 0 < s.size) (h1 : 240 ≤ s[0].toNat) (h2 : s[0].toNat < 245) : Calls Try.prog 103 #[.string s] w (Rune s.data.toList w) := by
  have hs' : s.size ≤ 9223372036854775807 := hs
  have hz' : ((s.size : Int) == 0) = false := beq_eq_false_iff_ne.2 (by omega)
  have h0' : (0 : Int) < (s.size : Int) := by omega
  have g1 : (240 : Int) ≤ (s[0].toNat : Int) := by omega
  have g2 : (s[0].toNat : Int) < 245 := by omega
  have H1 := Lib.hid h1
  have H2 := Lib.hid h2
  have HM := Lib.hid (mask7 s[0].toNat (by omega))
  clear h1 h2
  by_cases hn : s.size < 4
  · have HS := Lib.hid (short_four s h0 H1.out H2.out hn)
    go_enter Try.func103, Try.ntmps103
    go_wp2
    go_ret2
    exact Rune.mk HS.out rfl rfl
  · go_enter Try.func103, Try.ntmps103
    go_wp2_with fail
    rw [HM.out]
    go_loop [4, 7] (fun v j => ∃ i q : Nat, v = .int .i64 q ∧ j = .int .i64 i ∧ Relfour s s[0] i q) (fun _ j => 4 - (intOf j).toNat)
    case atStart => exact ⟨1, _, rfl, rfl, by omega, by omega, by omega, rfl⟩
    case round =>
      obtain ⟨i, q, rfl, rfl, hrel⟩ := hrel
      have HR := Lib.hid hrel
      obtain ⟨a1, a2, a3, _⟩ := hrel
      have hq' : q < 8388608 := by
        have : 64 ^ (i - 1) ≤ 64 ^ 3 := Nat.pow_le_pow_right (by omega) (by omega)
        omega
      clear a3
      by_cases hlt : i < 4
      · have hi' : i < s.size := by omega
        have hlt' : (i : Int) < 4 := by omega
        cases hcb : decide (s[i].toNat / 64 = 2) with
        | false =>
          have HB := Lib.hid (bad_four s h0 H1.out H2.out hlt HR.out hi' hcb)
          have hbit := cont_bit s[i] false hcb
          clear hcb
          go_wp2
          go_ret2
          exact Rune.mk HB.out rfl rfl
        | true =>
          have HB := Lib.hid (step_four s s[0] hlt HR.out hi' hcb)
          have hbit := cont_bit s[i] true hcb
          clear hcb
          go_wp2
          go_round
          case rel => exact ⟨i + 1, q * 64 + s[i].toNat % 64, by rw [or_six64 q s[i] hq'], by go_num, HB.out⟩
          case measure => simp [intOf]; omega
      · have HE := Lib.hid (end_four s h0 H1.out H2.out hlt hn HR.out)
        go_wp2
        all_goals go_ret2
        all_goals first
          | (refine Rune.mk (HE.out.trans (if_pos (fit_of ?_ ?_ ?_))) rfl rfl <;> omega)
          | (refine Rune.mk (HE.out.trans (if_neg (nofit_of ?_))) rfl rfl; omega)
theorem rune_any (s : ByteArray) (w : World) (hs : s.size ≤ maxLen) : Calls Try.prog 103 #[.string s] w (Rune s.data.toList w) := by
  by_cases h0 : 0 < s.size
  · by_cases h1 : s[0].toNat < 128
    · exact rune_one s w h0 h1
    by_cases h2 : s[0].toNat < 194
    · exact rune_bad s w h0 (Or.inl ⟨by omega, h2⟩)
    by_cases h3 : s[0].toNat < 224
    · exact rune_two s w hs h0 (by omega) h3
    by_cases h4 : s[0].toNat < 240
    · exact rune_three s w hs h0 (by omega) h4
    by_cases h5 : s[0].toNat < 245
    · exact rune_four s w hs h0 (by omega) h5
    · exact rune_bad s w h0 (Or.inr (by omega))
  · exact rune_nil s w (List.eq_nil_of_length_eq_zero (by rw [Array.length_toList]; show s.size = 0; omega))

theorem ext_drop' (s : ByteArray) (k : Nat) : (s.extract k s.size).data.toList = s.data.toList.drop k := by
  rw [ByteArray.data_extract, Array.toList_extract]
  have h : s.data.toList.length = s.size := Array.length_toList
  rw [← h, List.extract_eq_take_drop, List.take_of_length_le (by rw [List.length_drop]; exact Nat.le_refl _)]
theorem rune_at (s : ByteArray) (l : List UInt8) (a b : Nat) (w : World) (hs : s.size ≤ maxLen) (hl : s.data.toList = l) (h : uRune l = (a, b)) :
    Calls Try.prog 103 #[.string s] w fun e w' => e = .returned (.tuple #[.int .i64 (a : Int), .int .i64 (b : Int)]) ∧ w = w' := by
  subst hl
  refine (rune_any s w hs).mono ?_
  rintro e w' ⟨rfl, rfl⟩
  rw [h]; exact ⟨rfl, rfl⟩

def RRel (s : ByteArray) (i k : Nat) : Prop := i ≤ s.size ∧ k ≤ i ∧ (uRunes (s.data.toList.drop i)).map (· + k) = uRunes s.data.toList

set_option maxRecDepth 100000 in
set_option maxHeartbeats 1000000 in
theorem refRunes_any (s : ByteArray) (w : World) (hs : s.size ≤ maxLen) :
    Calls Try.prog 82 #[.string s] w fun e w' => e = .returned (.int .i64 (uRunesI s.data.toList)) ∧ w = w' := by
  have hs' : s.size ≤ 9223372036854775807 := hs
  go_enter Try.func82, Try.ntmps82
  go_wp2_with fail
  go_loop [3, 4] (fun kv iv => ∃ i k : Nat, kv = .int .i64 k ∧ iv = .int .i64 i ∧ RRel s i k) (fun _ iv => s.size - (intOf iv).toNat)
  case atStart => exact ⟨0, 0, rfl, rfl, by omega, by omega, by rw [List.drop_zero]; cases uRunes s.data.toList <;> rfl⟩
  case round =>
    obtain ⟨i, k, rfl, rfl, hi, hk, hrun⟩ := hrel
    by_cases hlt : i < s.size
    · have hd := drop_at s i hlt
      have hlen : (s.data.toList.drop (i + 1)).length + (i + 1) = s.size := by rw [List.length_drop, Array.length_toList]; show s.size - (i + 1) + (i + 1) = s.size; omega
      rw [hd] at hrun
      have HE := Lib.hid ((ext_drop' s i).trans hd)
      cases hp : uPoint s[i] (s.data.toList.drop (i + 1)) with
      | none =>
        have HR := Lib.hid (run_none hrun hp)
        have HU := Lib.hid (uRune_none hp)
        clear hd hlen hrun hp
        go_wp2_with fail
        refine (rune_at (s.extract i s.size) _ 0 0 _ (by rw [ByteArray.size_extract]; unfold maxLen; omega) HE.out HU.out).mono ?_
        rintro e w1 ⟨rfl, rfl⟩
        go_wp2
        go_ret
        exact ⟨ret_i HR.out.symm, rfl⟩
      | some p =>
        obtain ⟨r, u⟩ := p
        obtain ⟨pp, hpp, _, _, _, _⟩ := uPoint_loc hp
        have HR := Lib.hid (run_some hrun hp)
        have hul : u.length ≤ (s.data.toList.drop (i + 1)).length := uPoint_len hp
        obtain ⟨n, hn⟩ : ∃ n, n = 1 + (s.data.toList.drop (i + 1)).length - u.length := ⟨_, rfl⟩
        have HU := Lib.hid (show uRune (s[i] :: s.data.toList.drop (i + 1)) = (r, n) by rw [uRune_some hp, hn])
        have hn1 : 1 ≤ n := by omega
        have hn2 : i + n ≤ s.size := by omega
        have HDR := Lib.hid (show s.data.toList.drop (i + n) = u by
          have e1 : n = 1 + pp.length := by rw [hn, hpp, List.length_append]; omega
          rw [e1, ← Nat.add_assoc, ← List.drop_drop, hpp]; simp)
        have hn0 : ((n : Int) == 0) = false := beq_eq_false_iff_ne.2 (by omega)
        clear hd hlen hrun hp hpp hul hn
        go_wp2_with fail
        refine (rune_at (s.extract i s.size) _ r n _ (by rw [ByteArray.size_extract]; unfold maxLen; omega) HE.out HU.out).mono ?_
        rintro e w1 ⟨rfl, rfl⟩
        go_wp2
        go_round
        case rel => exact ⟨i + n, k + 1, by go_num, by go_num, by omega, by omega, by rw [HDR.out]; exact HR.out⟩
        case measure => simp [intOf]; omega
    · have HR := Lib.hid (run_end (s := s) (k := k) (by rw [← hrun, List.drop_of_length_le (by rw [Array.length_toList]; show s.size ≤ i; omega)]))
      clear hrun
      go_wp2
      go_ret
      exact ⟨ret_i HR.out.symm, rfl⟩

set_option maxHeartbeats 400000 in
theorem refGood_any (s : ByteArray) (w : World) (v : Bool) (hs : s.size ≤ maxLen) (h : (uRunes s.data.toList).isSome = v) :
    Calls Try.prog 54 #[.string s] w fun e w' => e = .returned (.bool v) ∧ w = w' := by
  have HV := Lib.hid (show decide (0 ≤ uRunesI s.data.toList) = v by
    rw [← h]; unfold uRunesI; cases uRunes s.data.toList <;> simp)
  clear h
  go_enter Try.func54, Try.ntmps54
  go_wp2_with fail
  refine (refRunes_any s _ hs).mono ?_
  rintro e w1 ⟨rfl, rfl⟩
  generalize uRunesI s.data.toList = z at HV
  go_wp2
  go_ret
  exact ⟨ret_b HV.out, rfl⟩

end Go.Proofs.Ythcphfpkinfjoaa
