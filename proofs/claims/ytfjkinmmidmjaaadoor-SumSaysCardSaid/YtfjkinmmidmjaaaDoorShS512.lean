/-
  The schedule of SHA-512, as package sha has it.
  Conditions: none.
-/
import Derived.Test.YtfjkinmmidmjaaaDoorShP512
import Derived.Deep.WholeRow
import Derived.Deep.RegionHeld3
namespace Go.Proofs.YtfjkinmmidmjaaaDoor
open Go.RowKit

/-- Bytes into words, byte by byte. -/
def ld512 : List Nat → Nat → List UInt8 → List Nat
  | ws, _, [] => ws
  | ws, i, x :: r => ld512 (ws.set (i / 8) (ws.getD (i / 8) 0 * 256 % 18446744073709551616 + x.toNat)) (i + 1) r
theorem set_mid_512 {D R : List Nat} (v x : Nat) (i : Nat) (hi : i = D.length) : (D ++ v :: R).set i x = D ++ x :: R := by subst hi; simp
theorem get_mid_512 {D R : List Nat} (v : Nat) (i : Nat) (hi : i = D.length) : (D ++ v :: R).getD i 0 = v := by subst hi; simp
theorem ld512_step (D R : List Nat) (i v : Nat) (x : UInt8) (r : List UInt8) (hi : i / 8 = D.length) (hv : v * 256 < 18446744073709551616) : ld512 (D ++ v :: R) i (x :: r) = ld512 (D ++ (v * 256 + x.toNat) :: R) (i + 1) r := by
  rw [ld512, get_mid_512 v _ hi, set_mid_512 v _ _ hi, Nat.mod_eq_of_lt hv]
set_option maxRecDepth 10000 in
theorem ld512_word (D R : List Nat) (a b c d e f g h : UInt8) (r : List UInt8) : ld512 (D ++ 0 :: R) (8 * D.length) (a :: b :: c :: d :: e :: f :: g :: h :: r) = ld512 ((D ++ wds512 ([a, b, c, d, e, f, g, h])) ++ R) (8 * (D ++ wds512 ([a, b, c, d, e, f, g, h])).length) r := by
  have ha := a.toNat_lt
  have hb := b.toNat_lt
  have hc := c.toNat_lt
  have hd := d.toNat_lt
  have he := e.toNat_lt
  have hf := f.toNat_lt
  have hg := g.toNat_lt
  have hh := h.toNat_lt
  refine (ld512_step D R _ _ _ _ ?_ ?_).trans ?_
  · omega
  · omega
  refine (ld512_step D R _ _ _ _ ?_ ?_).trans ?_
  · omega
  · omega
  refine (ld512_step D R _ _ _ _ ?_ ?_).trans ?_
  · omega
  · omega
  refine (ld512_step D R _ _ _ _ ?_ ?_).trans ?_
  · omega
  · omega
  refine (ld512_step D R _ _ _ _ ?_ ?_).trans ?_
  · omega
  · omega
  refine (ld512_step D R _ _ _ _ ?_ ?_).trans ?_
  · omega
  · omega
  refine (ld512_step D R _ _ _ _ ?_ ?_).trans ?_
  · omega
  · omega
  refine (ld512_step D R _ _ _ _ ?_ ?_).trans ?_
  · omega
  · omega
  simp only [wds512, List.append_assoc, List.cons_append, List.nil_append, List.length_append, List.length_cons, List.length_nil, Nat.zero_mul, Nat.zero_add]
  rfl
theorem wds512_app : ∀ (p q : List UInt8), p.length = 8 → wds512 (p ++ q) = wds512 p ++ wds512 q
  | [_, _, _, _, _, _, _, _], _, _ => rfl
theorem ld512_all : ∀ (n : Nat) (D R : List Nat) (p : List UInt8), p.length = 8 * n → R.length = n + 80 - 16 → ld512 (D ++ List.replicate n 0 ++ R.drop n) (8 * D.length) p = D ++ wds512 p ++ R.drop n
  | 0, D, R, p, hp, hR => by
    have : p = [] := List.eq_nil_of_length_eq_zero (by omega)
    subst this
    simp [ld512, wds512]
  | n + 1, D, R, p, hp, hR => by
    match p, hp with
    | a :: b :: c :: d :: e :: f :: g :: h :: r, hp =>
      rw [List.replicate_succ, List.append_assoc, List.cons_append, ld512_word]
      have := ld512_all n (D ++ wds512 [a, b, c, d, e, f, g, h]) (R.drop 1) r (by simp only [List.length_cons] at hp; omega) (by rw [List.length_drop]; omega)
      rw [List.drop_drop] at this
      rw [← List.append_assoc, Nat.add_comm n 1, this, show a :: b :: c :: d :: e :: f :: g :: h :: r = [a, b, c, d, e, f, g, h] ++ r from rfl, wds512_app _ _ rfl]
      simp
theorem ld512_blk (p : List UInt8) (hp : p.length = 128) : ld512 (List.replicate 80 0) 0 p = wds512 p ++ List.replicate (80 - 16) 0 := by
  have := ld512_all 16 [] (List.replicate 80 0) p (by omega) (by simp)
  simpa using this
theorem wds512_len : ∀ (n : Nat) (p : List UInt8), p.length = 8 * n → (wds512 p).length = n
  | 0, p, hp => by
    have : p = [] := List.eq_nil_of_length_eq_zero (by omega)
    subst this; rfl
  | n + 1, p, hp => by
    match p, hp with
    | a :: b :: c :: d :: e :: f :: g :: h :: r, hp =>
      simp only [wds512, List.length_cons]
      rw [wds512_len n r (by simp only [List.length_cons] at hp; omega)]
theorem wds512_lt : ∀ (n : Nat) (p : List UInt8), p.length = 8 * n → ∀ i, (wds512 p).getD i 0 < 18446744073709551616
  | 0, p, hp, i => by
    have : p = [] := List.eq_nil_of_length_eq_zero (by omega)
    subst this; simp [wds512]
  | n + 1, p, hp, i => by
    match p, hp with
    | a :: b :: c :: d :: e :: f :: g :: h :: r, hp =>
      have ha := a.toNat_lt
      have hb := b.toNat_lt
      have hc := c.toNat_lt
      have hd := d.toNat_lt
      have he := e.toNat_lt
      have hf := f.toNat_lt
      have hg := g.toNat_lt
      have hh := h.toNat_lt
      cases i with
      | zero => simp only [wds512, List.getD_cons_zero]; omega
      | succ i =>
        simp only [wds512, List.getD_cons_succ]
        exact wds512_lt n r (by simp only [List.length_cons] at hp; omega) i
theorem app512_lt (l : List Nat) (x : Nat) (hl : ∀ i, l.getD i 0 < 18446744073709551616) (hx : x < 18446744073709551616) : ∀ i, (l ++ [x]).getD i 0 < 18446744073709551616 := by
  intro i
  have := hl i
  rw [List.getD_eq_getElem?_getD] at this ⊢
  rw [List.getElem?_append]
  split
  · exact this
  · cases h : i - l.length with
    | zero => simpa using hx
    | succ j => simp
theorem pad_get_512 (l r : List Nat) (i : Nat) (h : i < l.length) : (l ++ r).getD i 0 = l.getD i 0 := by
  rw [List.getD_eq_getElem?_getD, List.getD_eq_getElem?_getD, List.getElem?_append_left h]
theorem pad_set_512 (l : List Nat) (m x : Nat) : (l ++ List.replicate (m + 1) 0).set l.length x = (l ++ [x]) ++ List.replicate m 0 := by
  rw [List.replicate_succ, set_mid_512 _ _ _ rfl]; simp
theorem bits_ss0512 (e : Nat) (he : e < 18446744073709551616) : bits .xor .u64 (bits .xor .u64 ((rl64 e 63 : Nat) : Int) ((rl64 e 56 : Nat) : Int)) ((e : Int) / 128) = ((ss0512 e : Nat) : Int) := by
  rw [show ((e : Int) / 128) = ((e / 128 : Nat) : Int) by omega, u64_xor_nat _ _ (rl64_lt _ _ he) (rl64_lt _ _ he), u64_xor_nat _ _ (Nat.xor_lt_two_pow (n := 64) (rl64_lt _ _ he) (rl64_lt _ _ he)) (by omega)]
  rfl
theorem bits_ss1512 (e : Nat) (he : e < 18446744073709551616) : bits .xor .u64 (bits .xor .u64 ((rl64 e 45 : Nat) : Int) ((rl64 e 3 : Nat) : Int)) ((e : Int) / 64) = ((ss1512 e : Nat) : Int) := by
  rw [show ((e : Int) / 64) = ((e / 64 : Nat) : Int) by omega, u64_xor_nat _ _ (rl64_lt _ _ he) (rl64_lt _ _ he), u64_xor_nat _ _ (Nat.xor_lt_two_pow (n := 64) (rl64_lt _ _ he) (rl64_lt _ _ he)) (by omega)]
  rfl
end Go.Proofs.YtfjkinmmidmjaaaDoor
