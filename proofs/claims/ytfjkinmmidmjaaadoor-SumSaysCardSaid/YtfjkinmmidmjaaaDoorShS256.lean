/-
  The schedule of SHA-256, as package sha has it.
  Conditions: none.
-/
import Derived.Test.YtfjkinmmidmjaaaDoorShP256
import Derived.Deep.WholeRow
import Derived.Deep.RegionHeld3
namespace Go.Proofs.YtfjkinmmidmjaaaDoor
open Go.RowKit

/-- Bytes into words, byte by byte. -/
def ld256 : List Nat → Nat → List UInt8 → List Nat
  | ws, _, [] => ws
  | ws, i, x :: r => ld256 (ws.set (i / 4) (ws.getD (i / 4) 0 * 256 % 4294967296 + x.toNat)) (i + 1) r
theorem set_mid_256 {D R : List Nat} (v x : Nat) (i : Nat) (hi : i = D.length) : (D ++ v :: R).set i x = D ++ x :: R := by subst hi; simp
theorem get_mid_256 {D R : List Nat} (v : Nat) (i : Nat) (hi : i = D.length) : (D ++ v :: R).getD i 0 = v := by subst hi; simp
theorem ld256_step (D R : List Nat) (i v : Nat) (x : UInt8) (r : List UInt8) (hi : i / 4 = D.length) (hv : v * 256 < 4294967296) : ld256 (D ++ v :: R) i (x :: r) = ld256 (D ++ (v * 256 + x.toNat) :: R) (i + 1) r := by
  rw [ld256, get_mid_256 v _ hi, set_mid_256 v _ _ hi, Nat.mod_eq_of_lt hv]
set_option maxRecDepth 10000 in
theorem ld256_word (D R : List Nat) (a b c d : UInt8) (r : List UInt8) : ld256 (D ++ 0 :: R) (4 * D.length) (a :: b :: c :: d :: r) = ld256 ((D ++ wds256 ([a, b, c, d])) ++ R) (4 * (D ++ wds256 ([a, b, c, d])).length) r := by
  have ha := a.toNat_lt
  have hb := b.toNat_lt
  have hc := c.toNat_lt
  have hd := d.toNat_lt
  refine (ld256_step D R _ _ _ _ ?_ ?_).trans ?_
  · omega
  · omega
  refine (ld256_step D R _ _ _ _ ?_ ?_).trans ?_
  · omega
  · omega
  refine (ld256_step D R _ _ _ _ ?_ ?_).trans ?_
  · omega
  · omega
  refine (ld256_step D R _ _ _ _ ?_ ?_).trans ?_
  · omega
  · omega
  simp only [wds256, List.append_assoc, List.cons_append, List.nil_append, List.length_append, List.length_cons, List.length_nil, Nat.zero_mul, Nat.zero_add]
  rfl
theorem wds256_app : ∀ (p q : List UInt8), p.length = 4 → wds256 (p ++ q) = wds256 p ++ wds256 q
  | [_, _, _, _], _, _ => rfl
theorem ld256_all : ∀ (n : Nat) (D R : List Nat) (p : List UInt8), p.length = 4 * n → R.length = n + 64 - 16 → ld256 (D ++ List.replicate n 0 ++ R.drop n) (4 * D.length) p = D ++ wds256 p ++ R.drop n
  | 0, D, R, p, hp, hR => by
    have : p = [] := List.eq_nil_of_length_eq_zero (by omega)
    subst this
    simp [ld256, wds256]
  | n + 1, D, R, p, hp, hR => by
    match p, hp with
    | a :: b :: c :: d :: r, hp =>
      rw [List.replicate_succ, List.append_assoc, List.cons_append, ld256_word]
      have := ld256_all n (D ++ wds256 [a, b, c, d]) (R.drop 1) r (by simp only [List.length_cons] at hp; omega) (by rw [List.length_drop]; omega)
      rw [List.drop_drop] at this
      rw [← List.append_assoc, Nat.add_comm n 1, this, show a :: b :: c :: d :: r = [a, b, c, d] ++ r from rfl, wds256_app _ _ rfl]
      simp
theorem ld256_blk (p : List UInt8) (hp : p.length = 64) : ld256 (List.replicate 64 0) 0 p = wds256 p ++ List.replicate (64 - 16) 0 := by
  have := ld256_all 16 [] (List.replicate 64 0) p (by omega) (by simp)
  simpa using this
theorem wds256_len : ∀ (n : Nat) (p : List UInt8), p.length = 4 * n → (wds256 p).length = n
  | 0, p, hp => by
    have : p = [] := List.eq_nil_of_length_eq_zero (by omega)
    subst this; rfl
  | n + 1, p, hp => by
    match p, hp with
    | a :: b :: c :: d :: r, hp =>
      simp only [wds256, List.length_cons]
      rw [wds256_len n r (by simp only [List.length_cons] at hp; omega)]
theorem wds256_lt : ∀ (n : Nat) (p : List UInt8), p.length = 4 * n → ∀ i, (wds256 p).getD i 0 < 4294967296
  | 0, p, hp, i => by
    have : p = [] := List.eq_nil_of_length_eq_zero (by omega)
    subst this; simp [wds256]
  | n + 1, p, hp, i => by
    match p, hp with
    | a :: b :: c :: d :: r, hp =>
      have ha := a.toNat_lt
      have hb := b.toNat_lt
      have hc := c.toNat_lt
      have hd := d.toNat_lt
      cases i with
      | zero => simp only [wds256, List.getD_cons_zero]; omega
      | succ i =>
        simp only [wds256, List.getD_cons_succ]
        exact wds256_lt n r (by simp only [List.length_cons] at hp; omega) i
theorem app256_lt (l : List Nat) (x : Nat) (hl : ∀ i, l.getD i 0 < 4294967296) (hx : x < 4294967296) : ∀ i, (l ++ [x]).getD i 0 < 4294967296 := by
  intro i
  have := hl i
  rw [List.getD_eq_getElem?_getD] at this ⊢
  rw [List.getElem?_append]
  split
  · exact this
  · cases h : i - l.length with
    | zero => simpa using hx
    | succ j => simp
theorem pad_get_256 (l r : List Nat) (i : Nat) (h : i < l.length) : (l ++ r).getD i 0 = l.getD i 0 := by
  rw [List.getD_eq_getElem?_getD, List.getD_eq_getElem?_getD, List.getElem?_append_left h]
theorem pad_set_256 (l : List Nat) (m x : Nat) : (l ++ List.replicate (m + 1) 0).set l.length x = (l ++ [x]) ++ List.replicate m 0 := by
  rw [List.replicate_succ, set_mid_256 _ _ _ rfl]; simp
theorem bits_ss0256 (e : Nat) (he : e < 4294967296) : bits .xor .u32 (bits .xor .u32 ((rl32 e 25 : Nat) : Int) ((rl32 e 14 : Nat) : Int)) ((e : Int) / 8) = ((ss0256 e : Nat) : Int) := by
  rw [show ((e : Int) / 8) = ((e / 8 : Nat) : Int) by omega, u32_xor_nat _ _ (rl32_lt _ _ he) (rl32_lt _ _ he), u32_xor_nat _ _ (Nat.xor_lt_two_pow (n := 32) (rl32_lt _ _ he) (rl32_lt _ _ he)) (by omega)]
  rfl
theorem bits_ss1256 (e : Nat) (he : e < 4294967296) : bits .xor .u32 (bits .xor .u32 ((rl32 e 15 : Nat) : Int) ((rl32 e 13 : Nat) : Int)) ((e : Int) / 1024) = ((ss1256 e : Nat) : Int) := by
  rw [show ((e : Int) / 1024) = ((e / 1024 : Nat) : Int) by omega, u32_xor_nat _ _ (rl32_lt _ _ he) (rl32_lt _ _ he), u32_xor_nat _ _ (Nat.xor_lt_two_pow (n := 32) (rl32_lt _ _ he) (rl32_lt _ _ he)) (by omega)]
  rfl
end Go.Proofs.YtfjkinmmidmjaaaDoor
