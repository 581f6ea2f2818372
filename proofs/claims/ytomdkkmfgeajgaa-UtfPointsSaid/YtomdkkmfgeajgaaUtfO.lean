/-
  Plain facts: a code point's escapes are read as it; its bytes are one code point.
  Conditions: none.
-/
import Derived.Test.YtomdkkmfgeajgaaUtfN
namespace Go.Proofs.Ytomdkkmfgeajgaa

def dLow : ByteArray := ⟨#[48, 49, 50, 51, 52, 53, 54, 55, 56, 57, 97, 98, 99, 100, 101, 102]⟩
def dGreat : ByteArray := ⟨#[48, 49, 50, 51, 52, 53, 54, 55, 56, 57, 65, 66, 67, 68, 69, 70]⟩
/-- Sixteen digits. -/
def Digs (d : ByteArray) : Prop := ∀ n, n < 16 → ∃ c, (d.extract n (n + 1)).data.toList = [c] ∧ uDigit c.toNat = some n
theorem low_all : ∀ n : Fin 16, (dLow.extract n.val (n.val + 1)).data.toList.length = 1 ∧ uDigit ((dLow.extract n.val (n.val + 1)).data.toList.headD 0).toNat = some n.val := by decide
theorem great_all : ∀ n : Fin 16, (dGreat.extract n.val (n.val + 1)).data.toList.length = 1 ∧ uDigit ((dGreat.extract n.val (n.val + 1)).data.toList.headD 0).toNat = some n.val := by decide
theorem one_of {l : List UInt8} (h : l.length = 1) : l = [l.headD 0] := by
  match l, h with
  | [x], _ => rfl
theorem digs_low : Digs dLow := fun n hn => ⟨_, one_of (low_all ⟨n, hn⟩).1, (low_all ⟨n, hn⟩).2⟩
theorem digs_great : Digs dGreat := fun n hn => ⟨_, one_of (great_all ⟨n, hn⟩).1, (great_all ⟨n, hn⟩).2⟩

/-- The escape of one unit of sixteen bits, in the digits d. -/
def escB (d : ByteArray) (x : Nat) : List UInt8 := [92, 117] ++ (d.extract (x / 4096) (x / 4096 + 1)).data.toList ++ (d.extract (x / 256 % 16) (x / 256 % 16 + 1)).data.toList ++ (d.extract (x / 16 % 16) (x / 16 % 16 + 1)).data.toList ++ (d.extract (x % 16) (x % 16 + 1)).data.toList
theorem escB_is {d : ByteArray} (hd : Digs d) {x : Nat} (hx : x < 65536) : ∃ t, escB d x = 92 :: 117 :: t ∧ t.length = 4 ∧ ∀ u, uDigs 4 0 (t ++ u) = some (x, u) := by
  obtain ⟨c1, e1, g1⟩ := hd (x / 4096) (by omega)
  obtain ⟨c2, e2, g2⟩ := hd (x / 256 % 16) (by omega)
  obtain ⟨c3, e3, g3⟩ := hd (x / 16 % 16) (by omega)
  obtain ⟨c4, e4, g4⟩ := hd (x % 16) (by omega)
  refine ⟨[c1, c2, c3, c4], ?_, rfl, fun u => ?_⟩
  · unfold escB; rw [e1, e2, e3, e4]; rfl
  · simp only [List.cons_append, List.nil_append, uDigs, g1, g2, g3, g4]
    congr 2; omega
theorem escB_len {d : ByteArray} (hd : Digs d) {x : Nat} (hx : x < 65536) : (escB d x).length = 6 := by
  obtain ⟨t, e, h, _⟩ := escB_is hd hx
  rw [e]; simp [h]

theorem uUnq_of {t : List UInt8} {k : Nat} (h : uNum (t ++ [34]) = some (k, [34])) : uUnq (34 :: 92 :: 117 :: t ++ [34]) = some (uBytes k, t.length + 4) := by
  have hs : uSym 92 (117 :: (t ++ [34])) = some (k, [34]) := by
    unfold uSym; rw [if_pos (by decide)]; simp only [uEsc]
    exact h
  have hb : uBody (92 :: 117 :: (t ++ [34])) = some (uBytes k, []) := by
    rw [uBody_cons, if_neg (by decide), if_neg (by decide), hs]
    simp only
    rw [show uBody [34] = some ([], []) by decide]; simp
  show uUnq (34 :: (92 :: 117 :: (t ++ [34]))) = _
  simp only [uUnq]
  rw [if_pos (by decide), hb]
  simp
theorem uUnq_not {t : List UInt8} (h : uNum (t ++ [34]) = none) : uUnq (34 :: 92 :: 117 :: t ++ [34]) = none := by
  have hs : uSym 92 (117 :: (t ++ [34])) = none := by
    unfold uSym; rw [if_pos (by decide)]; simp only [uEsc]
    exact h
  have hb : uBody (92 :: 117 :: (t ++ [34])) = none := by
    rw [uBody_cons, if_neg (by decide), if_neg (by decide), hs]
  show uUnq (34 :: (92 :: 117 :: (t ++ [34]))) = _
  simp only [uUnq]
  rw [if_pos (by decide), hb]; rfl

theorem one_plain {d : ByteArray} (hd : Digs d) {k : Nat} (hk : k < 65536) (hs : uSur k = false) : uUnq (34 :: escB d k ++ [34]) = some (uBytes k, 8) := by
  obtain ⟨t, e, h, g⟩ := escB_is hd hk
  have hn : uNum (t ++ [34]) = some (k, [34]) := by unfold uNum; rw [g]; simp only; rw [hs]; rfl
  rw [e]
  have := uUnq_of hn
  rw [h] at this
  exact this
theorem one_half {d : ByteArray} (hd : Digs d) {k : Nat} (hk : k < 65536) (hs : uSur k = true) : uUnq (34 :: escB d k ++ [34]) = none := by
  obtain ⟨t, e, h, g⟩ := escB_is hd hk
  have hn : uNum (t ++ [34]) = none := by
    unfold uNum; rw [g]; simp only; rw [hs]; simp only [if_true]
    split
    · rfl
    · rw [show uLow [34] = none from rfl]
  rw [e]
  exact uUnq_not hn
theorem two_pair {d : ByteArray} (hd : Digs d) {m : Nat} (hm : m < 1048576) : uUnq (34 :: (escB d (55296 + m / 1024) ++ escB d (56320 + m % 1024)) ++ [34]) = some (uBytes (65536 + m), 14) := by
  obtain ⟨t, e, h, g⟩ := escB_is hd (x := 55296 + m / 1024) (by omega)
  obtain ⟨t2, e2, h2, g2⟩ := escB_is hd (x := 56320 + m % 1024) (by omega)
  have hl : uLow (92 :: 117 :: (t2 ++ [34])) = some (56320 + m % 1024, [34]) := by
    simp only [uLow]
    rw [if_pos (by decide), g2]
    simp only
    rw [if_pos (by omega)]
  have hn : uNum ((t ++ (92 :: 117 :: t2)) ++ [34]) = some (65536 + m, [34]) := by
    unfold uNum
    rw [List.append_assoc, List.cons_append, List.cons_append, g]
    simp only
    rw [if_pos (by simp only [uSur, Bool.and_eq_true, decide_eq_true_eq]; omega), if_neg (by omega), hl]
    simp only
    rw [show 65536 + (55296 + m / 1024 - 55296) * 1024 + (56320 + m % 1024 - 56320) = 65536 + m by omega]
  rw [e, e2]
  have := uUnq_of hn
  rw [List.length_append, List.length_cons, List.length_cons, h, h2] at this
  exact this

theorem ofNat_n {n : Nat} (h : n < 256) : (UInt8.ofNat n).toNat = n := by rw [UInt8.toNat_ofNat']; omega
theorem uRunes_bytes (k : Nat) (h1 : k ≤ 1114111) (h2 : uSur k = false) : uRunes (uBytes k) = some 1 := by
  have key : ∀ (c : UInt8) (t : List UInt8) (r : Nat), uPoint c t = some (r, []) → uRunes (c :: t) = some 1 := fun c t r h => by rw [uRunes_point h]; rfl
  have hfit : ∀ least, least ≤ k → uFit least k = true := fun least h => by
    simp only [uFit, h2, Bool.and_eq_true, decide_eq_true_eq, Bool.not_false, and_true]; omega
  unfold uBytes
  split
  · rename_i a
    refine key _ _ k ?_
    unfold uPoint
    rw [ofNat_n (by omega), if_pos a]
  rename_i a
  split
  · rename_i b
    refine key _ _ k ?_
    unfold uPoint
    rw [ofNat_n (by omega), if_neg (by omega), if_neg (by omega), if_pos (by omega)]
    unfold uTail
    simp only [uCont, ofNat_n (show 128 + k % 64 < 256 by omega)]
    rw [if_pos (by omega), show (192 + k / 64) % 32 * 64 + (128 + k % 64) % 64 = k by omega]
    simp only
    rw [if_pos (hfit _ (by omega))]
  rename_i b
  split
  · rename_i c
    refine key _ _ k ?_
    unfold uPoint
    rw [ofNat_n (by omega), if_neg (by omega), if_neg (by omega), if_neg (by omega), if_pos (by omega)]
    unfold uTail
    simp only [uCont, ofNat_n (show 128 + k % 64 < 256 by omega), ofNat_n (show 128 + k / 64 % 64 < 256 by omega)]
    rw [if_pos (by omega), if_pos (by omega), show ((224 + k / 4096) % 16 * 64 + (128 + k / 64 % 64) % 64) * 64 + (128 + k % 64) % 64 = k by omega]
    simp only
    rw [if_pos (hfit _ (by omega))]
  · rename_i c
    refine key _ _ k ?_
    unfold uPoint
    rw [ofNat_n (by omega), if_neg (by omega), if_neg (by omega), if_neg (by omega), if_neg (by omega), if_pos (by omega)]
    unfold uTail
    simp only [uCont, ofNat_n (show 128 + k % 64 < 256 by omega), ofNat_n (show 128 + k / 64 % 64 < 256 by omega), ofNat_n (show 128 + k / 4096 % 64 < 256 by omega)]
    rw [if_pos (by omega), if_pos (by omega), if_pos (by omega), show (((240 + k / 262144) % 8 * 64 + (128 + k / 4096 % 64) % 64) * 64 + (128 + k / 64 % 64) % 64) * 64 + (128 + k % 64) % 64 = k by omega]
    simp only
    rw [if_pos (hfit _ (by omega))]

end Go.Proofs.Ytomdkkmfgeajgaa
