/-
  The document's base64, bit by bit, as plain functions, and that they are the same as those by three bytes.
  Conditions: none.
-/
import Derived.Test.YtnbonoallcjlbaaBaA
namespace Go.Proofs.Ytnbonoallcjlbaa

/-- A bit of bytes: the highest of each byte first. -/
def bitAt (l : List UInt8) (k : Nat) : Nat := (l.getD (k / 8) 0).toNat / 2 ^ (7 - k % 8) % 2
/-- m bits from i on, as a number. -/
def sixP (l : List UInt8) (i : Nat) : Nat → Nat
  | 0 => 0
  | m + 1 => 2 * sixP l i m + bitAt l (i + m)
theorem bitAt_lt (l : List UInt8) (k : Nat) : bitAt l k < 2 := Nat.mod_lt _ (by decide)
theorem sixP_lt (l : List UInt8) (i : Nat) : ∀ m, sixP l i m < 2 ^ m
  | 0 => by simp [sixP]
  | m + 1 => by
    have := sixP_lt l i m
    have := bitAt_lt l (i + m)
    rw [Nat.pow_succ]
    simp only [sixP]
    omega
theorem bitAt_three (a b c : UInt8) (r : List UInt8) (k : Nat) : bitAt (a :: b :: c :: r) (24 + k) = bitAt r k := by
  unfold bitAt
  rw [show (24 + k) / 8 = k / 8 + 3 by omega, show (24 + k) % 8 = k % 8 by omega]
  rfl
theorem sixP_three (a b c : UInt8) (r : List UInt8) (i : Nat) : ∀ m, sixP (a :: b :: c :: r) (24 + i) m = sixP r i m
  | 0 => rfl
  | m + 1 => by
    simp only [sixP]
    rw [sixP_three a b c r i m, Nat.add_assoc, bitAt_three]
/-- The first j sixes. -/
def rput (l : List UInt8) (j : Nat) : List Nat := (List.range j).map fun k => sixP l (6 * k) 6
theorem rput_succ (l : List UInt8) (j : Nat) : rput l (j + 1) = rput l j ++ [sixP l (6 * j) 6] := by
  simp [rput, List.range_succ]
theorem range_four (m : Nat) : List.range (4 + m) = 0 :: 1 :: 2 :: 3 :: (List.range m).map (4 + ·) := by
  rw [List.range_add]; rfl
theorem rput_en : ∀ (l : List UInt8), rput l ((8 * l.length + 5) / 6) = en l
  | [] => rfl
  | [a] => by
    have ha := a.toNat_lt
    rw [show (8 * [a].length + 5) / 6 = 2 by simp]
    show [_, _] = [_, _]
    congr 1
    · simp [sixP, bitAt]; omega
    · congr 1; simp [sixP, bitAt]; omega
  | [a, b] => by
    have ha := a.toNat_lt
    have hb := b.toNat_lt
    rw [show (8 * [a, b].length + 5) / 6 = 3 by simp]
    show [_, _, _] = [_, _, _]
    congr 1
    · simp [sixP, bitAt]; omega
    · congr 1
      · simp [sixP, bitAt]; omega
      · congr 1; simp [sixP, bitAt]; omega
  | a :: b :: c :: r => by
    have ha := a.toNat_lt
    have hb := b.toNat_lt
    have hc := c.toNat_lt
    have ih := rput_en r
    simp only [List.length_cons]
    rw [show (8 * (r.length + 1 + 1 + 1) + 5) / 6 = 4 + (8 * r.length + 5) / 6 by omega]
    unfold rput
    rw [range_four, List.map_cons, List.map_cons, List.map_cons, List.map_cons, List.map_map]
    simp only [en]
    congr 1
    · simp [sixP, bitAt]; omega
    · congr 1
      · simp [sixP, bitAt]; omega
      · congr 1
        · simp [sixP, bitAt]; omega
        · congr 1
          · simp [sixP, bitAt]; omega
          · rw [← ih]
            unfold rput
            apply List.map_congr_left
            intro k _
            show sixP _ (6 * (4 + k)) 6 = _
            rw [show 6 * (4 + k) = 24 + 6 * k by omega, sixP_three]

/-- The m low bits of n, the highest first, are set into O from bit a on. -/
def rb (O : List UInt8) (a n : Nat) : Nat → Option (List UInt8)
  | 0 => some O
  | m + 1 => if n / 2 ^ m % 2 = 0 then rb O (a + 1) n m else if O.length ≤ a / 8 then none else
    rb (O.set (a / 8) (UInt8.ofNat ((O.getD (a / 8) 0).toNat ||| 2 ^ (7 - a % 8)))) (a + 1) n m
def rg (u : Bool) (O : List UInt8) (a : Nat) : List UInt8 → Option (List UInt8)
  | [] => some O
  | c :: r => if ix u c < 0 then none else
    match rb O a (ix u c).toNat 6 with
    | none => none
    | some O' => rg u O' (a + 6) r
theorem rb_app (D : List UInt8) (n : Nat) : ∀ (m : Nat) (O : List UInt8) (a : Nat), rb (D ++ O) (8 * D.length + a) n m = (rb O a n m).map (D ++ ·)
  | 0, O, a => by simp [rb]
  | m + 1, O, a => by
    have e1 : (8 * D.length + a) / 8 = D.length + a / 8 := by omega
    have e2 : (8 * D.length + a) % 8 = a % 8 := by omega
    have e3 : 8 * D.length + a + 1 = 8 * D.length + (a + 1) := by omega
    simp only [rb]
    rw [e1, e2, e3]
    by_cases h1 : n / 2 ^ m % 2 = 0
    · rw [if_pos h1, if_pos h1]; exact rb_app D n m O (a + 1)
    rw [if_neg h1, if_neg h1]
    by_cases h2 : O.length ≤ a / 8
    · rw [if_pos h2, if_pos (by simp; omega)]; rfl
    rw [if_neg h2, if_neg (by simp; omega)]
    have e4 : (D ++ O).getD (D.length + a / 8) 0 = O.getD (a / 8) 0 := by
      simp only [List.getD_eq_getElem?_getD]
      rw [List.getElem?_append_right (by omega), show D.length + a / 8 - D.length = a / 8 by omega]
    rw [e4, List.set_append_right _ _ (by omega), show D.length + a / 8 - D.length = a / 8 by omega]
    exact rb_app D n m _ (a + 1)
theorem rb_suf (Z : List UInt8) (n : Nat) : ∀ (m : Nat) (O : List UInt8) (a : Nat), a + m ≤ 8 * O.length → rb (O ++ Z) a n m = (rb O a n m).map (· ++ Z)
  | 0, O, a, _ => by simp [rb]
  | m + 1, O, a, h => by
    simp only [rb]
    by_cases h1 : n / 2 ^ m % 2 = 0
    · rw [if_pos h1, if_pos h1]; exact rb_suf Z n m O (a + 1) (by omega)
    rw [if_neg h1, if_neg h1, if_neg (show ¬ (O ++ Z).length ≤ a / 8 by simp; omega), if_neg (show ¬ O.length ≤ a / 8 by omega)]
    have e4 : (O ++ Z).getD (a / 8) 0 = O.getD (a / 8) 0 := by
      simp only [List.getD_eq_getElem?_getD]
      rw [List.getElem?_append_left (by omega)]
    rw [e4, List.set_append_left _ _ (by omega)]
    exact rb_suf Z n m _ (a + 1) (by rw [List.length_set]; omega)
theorem rb_t1 : ∀ n : Fin 64, rb [0] 0 n.val 6 = some [UInt8.ofNat (n.val * 4)] := by decide +kernel
theorem rb_t2 : ∀ p n : Fin 64, rb [UInt8.ofNat (p.val * 4), 0] 6 n.val 6 = some [UInt8.ofNat (p.val * 4 + n.val / 16), UInt8.ofNat (n.val % 16 * 16)] := by decide +kernel
theorem rb_t3 : ∀ (p : Fin 16) (n : Fin 64), rb [UInt8.ofNat (p.val * 16), 0] 4 n.val 6 = some [UInt8.ofNat (p.val * 16 + n.val / 4), UInt8.ofNat (n.val % 4 * 64)] := by decide +kernel
theorem rb_t4 : ∀ (p : Fin 4) (n : Fin 64), rb [UInt8.ofNat (p.val * 64)] 2 n.val 6 = some [UInt8.ofNat (p.val * 64 + n.val)] := by decide +kernel
theorem rb_e2 : ∀ p n : Fin 64, rb [UInt8.ofNat (p.val * 4)] 6 n.val 6 = if n.val % 16 ≠ 0 then none else some [UInt8.ofNat (p.val * 4 + n.val / 16)] := by decide +kernel
theorem rb_e3 : ∀ (p : Fin 16) (n : Fin 64), rb [UInt8.ofNat (p.val * 16)] 4 n.val 6 = if n.val % 4 ≠ 0 then none else some [UInt8.ofNat (p.val * 16 + n.val / 4)] := by decide +kernel
theorem rb1 (n : Nat) (h : n < 64) (Z : List UInt8) : rb (0 :: Z) 0 n 6 = some (UInt8.ofNat (n * 4) :: Z) := by
  have := rb_suf Z n 6 [0] 0 (by simp)
  rw [rb_t1 ⟨n, h⟩] at this
  simpa using this
theorem rb2 (p n : Nat) (hp : p < 64) (h : n < 64) (Z : List UInt8) : rb (UInt8.ofNat (p * 4) :: 0 :: Z) 6 n 6 = some (UInt8.ofNat (p * 4 + n / 16) :: UInt8.ofNat (n % 16 * 16) :: Z) := by
  have := rb_suf Z n 6 [UInt8.ofNat (p * 4), 0] 6 (by simp)
  rw [rb_t2 ⟨p, hp⟩ ⟨n, h⟩] at this
  simpa using this
theorem rb3 (x : UInt8) (p n : Nat) (hp : p < 16) (h : n < 64) (Z : List UInt8) : rb (x :: UInt8.ofNat (p * 16) :: 0 :: Z) 12 n 6 = some (x :: UInt8.ofNat (p * 16 + n / 4) :: UInt8.ofNat (n % 4 * 64) :: Z) := by
  have h1 := rb_app [x] n 6 (UInt8.ofNat (p * 16) :: 0 :: Z) 4
  have := rb_suf Z n 6 [UInt8.ofNat (p * 16), 0] 4 (by simp)
  rw [rb_t3 ⟨p, hp⟩ ⟨n, h⟩] at this
  simp only [List.cons_append, List.nil_append, Option.map_some] at this
  rw [this] at h1
  simpa using h1
theorem rb4 (x y : UInt8) (p n : Nat) (hp : p < 4) (h : n < 64) (Z : List UInt8) : rb (x :: y :: UInt8.ofNat (p * 64) :: Z) 18 n 6 = some (x :: y :: UInt8.ofNat (p * 64 + n) :: Z) := by
  have h1 := rb_app [x, y] n 6 (UInt8.ofNat (p * 64) :: Z) 2
  have := rb_suf Z n 6 [UInt8.ofNat (p * 64)] 2 (by simp)
  rw [rb_t4 ⟨p, hp⟩ ⟨n, h⟩] at this
  simp only [List.cons_append, List.nil_append, Option.map_some] at this
  rw [this] at h1
  simpa using h1
theorem rbe3 (x : UInt8) (p n : Nat) (hp : p < 16) (h : n < 64) : rb [x, UInt8.ofNat (p * 16)] 12 n 6 = if n % 4 ≠ 0 then none else some [x, UInt8.ofNat (p * 16 + n / 4)] := by
  have h1 := rb_app [x] n 6 [UInt8.ofNat (p * 16)] 4
  rw [rb_e3 ⟨p, hp⟩ ⟨n, h⟩] at h1
  rw [show 8 * [x].length + 4 = 12 from rfl] at h1
  simp only [List.cons_append, List.nil_append] at h1
  rw [h1]
  split <;> simp_all
theorem rg_app (u : Bool) (D : List UInt8) : ∀ (l O : List UInt8) (a : Nat), rg u (D ++ O) (8 * D.length + a) l = (rg u O a l).map (D ++ ·)
  | [], O, a => rfl
  | c :: r, O, a => by
    simp only [rg]
    by_cases h : ix u c < 0
    · simp [h]
    rw [if_neg h, if_neg h, rb_app]
    cases rb O a (ix u c).toNat 6 with
    | none => rfl
    | some O' =>
      simp only [Option.map_some]
      rw [Nat.add_assoc]
      exact rg_app u D r O' (a + 6)
theorem rg_de (u : Bool) : ∀ (l : List UInt8), l.length % 4 ≠ 1 → rg u (List.replicate (6 * l.length / 8) 0) 0 l = de u l
  | [], _ => rfl
  | [a], h => by simp at h
  | [a, b], _ => by
    rw [show 6 * [a, b].length / 8 = 1 by simp]
    rw [show List.replicate 1 (0 : UInt8) = [0] from rfl]
    rcases ix_cases u a with ha | ⟨x, hx, ha, _⟩
    · simp [rg, de, ha]
    simp only [rg, de, ha]
    rw [if_neg (by omega)]
    simp only [Int.toNat_natCast, Nat.zero_add]
    rw [rb1 x hx []]
    simp only
    rcases ix_cases u b with hb | ⟨y, hy, hb, _⟩
    · rw [hb, if_pos (by omega), if_pos (by omega)]
    rw [hb, if_neg (by omega)]
    simp only [Int.toNat_natCast]
    rw [rb_e2 ⟨x, hx⟩ ⟨y, hy⟩]
    by_cases h3 : y % 16 = 0
    · rw [if_neg (by simp [h3]), if_neg (by omega)]
    · rw [if_pos h3, if_pos (by omega)]
  | [a, b, c], _ => by
    rw [show 6 * [a, b, c].length / 8 = 2 by simp]
    rw [show List.replicate 2 (0 : UInt8) = [0, 0] from rfl]
    rcases ix_cases u a with ha | ⟨x, hx, ha, _⟩
    · simp [rg, de, ha]
    simp only [rg, de, ha]
    rw [if_neg (by omega)]
    simp only [Int.toNat_natCast, Nat.zero_add]
    rw [rb1 x hx [0]]
    simp only
    rcases ix_cases u b with hb | ⟨y, hy, hb, _⟩
    · rw [hb, if_pos (by omega), if_pos (by omega)]
    rw [hb, if_neg (by omega)]
    simp only [Int.toNat_natCast]
    rw [rb2 x y hx hy []]
    simp only
    rcases ix_cases u c with hc | ⟨z, hz, hc, _⟩
    · rw [hc, if_pos (by omega), if_pos (by omega)]
    rw [hc, if_neg (by omega)]
    simp only [Int.toNat_natCast]
    rw [rbe3 _ (y % 16) z (by omega) hz]
    by_cases h3 : z % 4 = 0
    · rw [if_neg (by simp [h3]), if_neg (by omega)]
    · rw [if_pos h3, if_pos (by omega)]
  | a :: b :: c :: d :: r, h => by
    have ih := rg_de u r (by simp only [List.length_cons] at h; omega)
    rw [show 6 * (a :: b :: c :: d :: r).length / 8 = 6 * r.length / 8 + 1 + 1 + 1 by simp only [List.length_cons]; omega]
    rw [List.replicate_succ, List.replicate_succ, List.replicate_succ]
    generalize List.replicate (6 * r.length / 8) (0 : UInt8) = Z at ih
    rcases ix_cases u a with ha | ⟨x, hx, ha, _⟩
    · simp [rg, de, ha]
    simp only [rg, de, ha]
    rw [if_neg (by omega)]
    simp only [Int.toNat_natCast, Nat.zero_add]
    rw [rb1 x hx]
    simp only
    rcases ix_cases u b with hb | ⟨y, hy, hb, _⟩
    · rw [hb, if_pos (by omega), if_pos (by omega)]
    rw [hb, if_neg (by omega)]
    simp only [Int.toNat_natCast]
    rw [rb2 x y hx hy]
    simp only
    rcases ix_cases u c with hc | ⟨z, hz, hc, _⟩
    · rw [hc, if_pos (by omega), if_pos (by omega)]
    rw [hc, if_neg (by omega)]
    simp only [Int.toNat_natCast]
    rw [rb3 _ (y % 16) z (by omega) hz]
    simp only
    rcases ix_cases u d with hd | ⟨t, ht, hd, _⟩
    · rw [hd, if_pos (by omega), if_pos (by omega)]
    rw [hd, if_neg (by omega), if_neg (by omega)]
    simp only [Int.toNat_natCast]
    rw [rb4 _ _ (z % 4) t (by omega) ht]
    simp only
    have := rg_app u [UInt8.ofNat (x * 4 + y / 16), UInt8.ofNat (y % 16 * 16 + z / 4), UInt8.ofNat (z % 4 * 64 + t)] r Z 0
    rw [ih] at this
    exact this
/-- What the document gets. -/
theorem rg_got (u : Bool) (l : List UInt8) : (if l.length % 4 = 1 then none else rg u (List.replicate (6 * l.length / 8) 0) 0 l) = got u l := by
  rw [got_de]
  split
  · rfl
  · rename_i h
    rw [rg_de u l h]
end Go.Proofs.Ytnbonoallcjlbaa
