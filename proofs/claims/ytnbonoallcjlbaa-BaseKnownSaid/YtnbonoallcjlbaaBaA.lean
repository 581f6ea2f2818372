/-
  Base64 as plain functions on lists: what is put, what is got, that each undoes the other.
  Conditions: none.
-/
import Derived.Test.YtnbonoallcjlbaaRows
import Derived.WalkKit
import Derived.Lib.Bytealg
namespace Go.Proofs.Ytnbonoallcjlbaa

/-- The two alphabets. -/
def al : Bool → List UInt8
  | false => [65, 66, 67, 68, 69, 70, 71, 72, 73, 74, 75, 76, 77, 78, 79, 80, 81, 82, 83, 84, 85, 86, 87, 88, 89, 90, 97, 98, 99, 100, 101, 102, 103, 104, 105, 106, 107, 108, 109, 110, 111, 112, 113, 114, 115, 116, 117, 118, 119, 120, 121, 122, 48, 49, 50, 51, 52, 53, 54, 55, 56, 57, 43, 47]
  | true => [65, 66, 67, 68, 69, 70, 71, 72, 73, 74, 75, 76, 77, 78, 79, 80, 81, 82, 83, 84, 85, 86, 87, 88, 89, 90, 97, 98, 99, 100, 101, 102, 103, 104, 105, 106, 107, 108, 109, 110, 111, 112, 113, 114, 115, 116, 117, 118, 119, 120, 121, 122, 48, 49, 50, 51, 52, 53, 54, 55, 56, 57, 45, 95]
/-- The sign of six bits. -/
def sg (u : Bool) (n : Nat) : UInt8 := (al u).getD n 0
/-- The six bits of a sign; below 0: none. -/
def ix (u : Bool) (c : UInt8) : Int := Lib.indexByte (al u) c
theorem ix_all : ∀ (u : Bool) (k : Fin 256), -1 ≤ ix u (UInt8.ofNat k.val) ∧ ix u (UInt8.ofNat k.val) < 64 ∧ (0 ≤ ix u (UInt8.ofNat k.val) → sg u (ix u (UInt8.ofNat k.val)).toNat = UInt8.ofNat k.val) := by decide +kernel
theorem ix_ok (u : Bool) (c : UInt8) : -1 ≤ ix u c ∧ ix u c < 64 ∧ (0 ≤ ix u c → sg u (ix u c).toNat = c) := by
  have := ix_all u ⟨c.toNat, c.toNat_lt⟩
  simpa using this
theorem ix_sg_all : ∀ (u : Bool) (k : Fin 64), ix u (sg u k.val) = (k.val : Int) := by decide +kernel
theorem ix_sg (u : Bool) (n : Nat) (h : n < 64) : ix u (sg u n) = (n : Int) := ix_sg_all u ⟨n, h⟩
theorem ix_cases (u : Bool) (c : UInt8) : ix u c = -1 ∨ ∃ n : Nat, n < 64 ∧ ix u c = (n : Int) ∧ sg u n = c := by
  obtain ⟨h1, h2, h3⟩ := ix_ok u c
  by_cases h : 0 ≤ ix u c
  · refine .inr ⟨(ix u c).toNat, by omega, by omega, h3 h⟩
  · exact .inl (by omega)

/-- The sixes of bytes, of which 'left' bits (v) are not handed on yet. -/
def ex : Nat → Nat → List UInt8 → List Nat
  | 0, _, [] => []
  | 2, v, [] => [v * 16]
  | _, v, [] => [v * 4]
  | 0, _, x :: r => x.toNat / 4 :: ex 2 (x.toNat % 4) r
  | 2, v, x :: r => (v * 16 + x.toNat / 16) :: ex 4 (x.toNat % 16) r
  | _, v, x :: r => (v * 4 + x.toNat / 64) :: x.toNat % 64 :: ex 0 0 r
/-- The same by three bytes. -/
def en : List UInt8 → List Nat
  | [] => []
  | [a] => [a.toNat / 4, a.toNat % 4 * 16]
  | [a, b] => [a.toNat / 4, a.toNat % 4 * 16 + b.toNat / 16, b.toNat % 16 * 4]
  | a :: b :: c :: r => a.toNat / 4 :: (a.toNat % 4 * 16 + b.toNat / 16) :: (b.toNat % 16 * 4 + c.toNat / 64) :: c.toNat % 64 :: en r
theorem ex_en : ∀ (l : List UInt8) (v : Nat), ex 0 v l = en l
  | [], _ => rfl
  | [a], _ => rfl
  | [a, b], _ => rfl
  | a :: b :: c :: r, _ => by
    simp only [ex, en]
    rw [ex_en r]
theorem en_lt : ∀ (l : List UInt8), ∀ n ∈ en l, n < 64
  | [], _, h => by simp [en] at h
  | [a], n, h => by
    have := a.toNat_lt
    simp only [en, List.mem_cons, List.not_mem_nil, or_false] at h
    omega
  | [a, b], n, h => by
    have := a.toNat_lt
    have := b.toNat_lt
    simp only [en, List.mem_cons, List.not_mem_nil, or_false] at h
    omega
  | a :: b :: c :: r, n, h => by
    have := a.toNat_lt
    have := b.toNat_lt
    have := c.toNat_lt
    simp only [en, List.mem_cons] at h
    rcases h with h | h | h | h | h
    · omega
    · omega
    · omega
    · omega
    · exact en_lt r n h
/-- What is put. -/
def put (u : Bool) (l : List UInt8) : List UInt8 := (en l).map (sg u)
theorem put_length (u : Bool) : ∀ (l : List UInt8), (put u l).length = (8 * l.length + 5) / 6
  | [] => by simp [put, en]
  | [a] => by simp [put, en]
  | [a, b] => by simp [put, en]
  | a :: b :: c :: r => by
    have := put_length u r
    simp only [put, en, List.map_cons, List.length_cons, List.length_map] at this ⊢
    omega
theorem en_app : ∀ (a b : List UInt8), a.length % 3 = 0 → en (a ++ b) = en a ++ en b
  | [], b, _ => rfl
  | [x], b, h => by simp at h
  | [x, y], b, h => by simp at h
  | x :: y :: z :: r, b, h => by
    have := en_app r b (by simp only [List.length_cons] at h; omega)
    simp only [List.cons_append, en, this]
theorem put_app (u : Bool) (a b : List UInt8) (h : a.length % 3 = 0) : put u (a ++ b) = put u a ++ put u b := by
  simp [put, en_app a b h]

/-- What signs say, while 'left' bits (v) are in no byte yet; acc: the bytes so far. -/
def dz (u : Bool) : Nat → Nat → List UInt8 → List UInt8 → Option (List UInt8)
  | _, v, acc, [] => if v = 0 then some acc else none
  | left, v, acc, c :: r => if ix u c < 0 then none else
    match left with
    | 0 => dz u 6 (ix u c).toNat acc r
    | 6 => dz u 4 ((ix u c).toNat % 16) (acc ++ [UInt8.ofNat (v * 4 + (ix u c).toNat / 16)]) r
    | 4 => dz u 2 ((ix u c).toNat % 4) (acc ++ [UInt8.ofNat (v * 16 + (ix u c).toNat / 4)]) r
    | _ => dz u 0 0 (acc ++ [UInt8.ofNat (v * 64 + (ix u c).toNat)]) r
/-- The same by four signs. -/
def de (u : Bool) : List UInt8 → Option (List UInt8)
  | [] => some []
  | [_] => none
  | [a, b] => if ix u a < 0 ∨ ix u b < 0 ∨ (ix u b).toNat % 16 ≠ 0 then none else some [UInt8.ofNat ((ix u a).toNat * 4 + (ix u b).toNat / 16)]
  | [a, b, c] => if ix u a < 0 ∨ ix u b < 0 ∨ ix u c < 0 ∨ (ix u c).toNat % 4 ≠ 0 then none else some [UInt8.ofNat ((ix u a).toNat * 4 + (ix u b).toNat / 16), UInt8.ofNat ((ix u b).toNat % 16 * 16 + (ix u c).toNat / 4)]
  | a :: b :: c :: d :: r => if ix u a < 0 ∨ ix u b < 0 ∨ ix u c < 0 ∨ ix u d < 0 then none else
    (de u r).map fun t => UInt8.ofNat ((ix u a).toNat * 4 + (ix u b).toNat / 16) :: UInt8.ofNat ((ix u b).toNat % 16 * 16 + (ix u c).toNat / 4) :: UInt8.ofNat ((ix u c).toNat % 4 * 64 + (ix u d).toNat) :: t
/-- What is got. -/
def got (u : Bool) (l : List UInt8) : Option (List UInt8) := if l.length % 4 = 1 then none else dz u 0 0 [] l
theorem dz_de (u : Bool) : ∀ (l acc : List UInt8), l.length % 4 ≠ 1 → dz u 0 0 acc l = (de u l).map (acc ++ ·)
  | [], acc, _ => by simp [dz, de]
  | [a], acc, h => by simp at h
  | [a, b], acc, _ => by
    simp only [dz, de]
    by_cases h1 : ix u a < 0
    · simp [h1]
    by_cases h2 : ix u b < 0
    · simp [h1, h2]
    by_cases h3 : (ix u b).toNat % 16 = 0
    · simp [h1, h2, h3]
    · simp [h1, h2, h3]
  | [a, b, c], acc, _ => by
    simp only [dz, de]
    by_cases h1 : ix u a < 0
    · simp [h1]
    by_cases h2 : ix u b < 0
    · simp [h1, h2]
    by_cases h4 : ix u c < 0
    · simp [h1, h2, h4]
    by_cases h3 : (ix u c).toNat % 4 = 0
    · simp [h1, h2, h3, h4]
    · simp [h1, h2, h3, h4]
  | a :: b :: c :: d :: r, acc, h => by
    have ih := fun acc => dz_de u r acc (by simp only [List.length_cons] at h; omega)
    simp only [dz, de]
    by_cases h1 : ix u a < 0
    · simp [h1]
    by_cases h2 : ix u b < 0
    · simp [h1, h2]
    by_cases h4 : ix u c < 0
    · simp [h1, h2, h4]
    by_cases h5 : ix u d < 0
    · simp [h1, h2, h4, h5]
    simp only [h1, h2, h4, h5, if_false, or_false]
    rw [ih, Option.map_map]
    congr 1
    funext t
    simp
theorem got_de (u : Bool) : ∀ (l : List UInt8), got u l = if l.length % 4 = 1 then none else de u l := by
  intro l
  unfold got
  split
  · rfl
  · rename_i h
    rw [dz_de u l [] h]; simp
/-- What is put is got. -/
theorem de_put (u : Bool) : ∀ (l : List UInt8), de u (put u l) = some l
  | [] => rfl
  | [a] => by
    have ha := a.toNat_lt
    simp only [put, en, List.map_cons, List.map_nil, de]
    rw [ix_sg u _ (by omega), ix_sg u _ (by omega)]
    rw [if_neg (by omega)]
    congr 2
    apply UInt8.toNat.inj
    simp only [UInt8.toNat_ofNat']
    omega
  | [a, b] => by
    have ha := a.toNat_lt
    have hb := b.toNat_lt
    simp only [put, en, List.map_cons, List.map_nil, de]
    rw [ix_sg u _ (by omega), ix_sg u _ (by omega), ix_sg u _ (by omega)]
    rw [if_neg (by omega)]
    congr 2
    · apply UInt8.toNat.inj
      simp only [UInt8.toNat_ofNat']
      omega
    · congr 1
      apply UInt8.toNat.inj
      simp only [UInt8.toNat_ofNat']
      omega
  | a :: b :: c :: r => by
    have ha := a.toNat_lt
    have hb := b.toNat_lt
    have hc := c.toNat_lt
    have ih := de_put u r
    simp only [put] at ih
    simp only [put, en, List.map_cons, de]
    rw [ih, ix_sg u _ (by omega), ix_sg u _ (by omega), ix_sg u _ (by omega), ix_sg u _ (by omega)]
    rw [if_neg (by omega)]
    simp only [Option.map_some]
    congr 2
    · apply UInt8.toNat.inj
      simp only [UInt8.toNat_ofNat']
      omega
    · congr 1
      · apply UInt8.toNat.inj
        simp only [UInt8.toNat_ofNat']
        omega
      · congr 1
        apply UInt8.toNat.inj
        simp only [UInt8.toNat_ofNat']
        omega
theorem got_put (u : Bool) (l : List UInt8) : got u (put u l) = some l := by
  rw [got_de, if_neg (by rw [put_length]; omega), de_put]
theorem sg_of (u : Bool) (c : UInt8) (n : Nat) (h0 : ¬ ix u c < 0) (h : n = (ix u c).toNat) : sg u n = c := by
  subst h; exact (ix_ok u c).2.2 (by omega)
/-- What is got is put as it was. -/
theorem put_de (u : Bool) : ∀ (s b : List UInt8), de u s = some b → put u b = s
  | [], b, h => by simp [de] at h; subst h; rfl
  | [_], b, h => by simp [de] at h
  | [a, c], b, h => by
    simp only [de] at h
    split at h
    · simp at h
    rename_i hn
    injection h with h
    subst h
    have h1 := (ix_ok u a).2.1
    have h2 := (ix_ok u c).2.1
    simp only [put, en, List.map_cons, List.map_nil, UInt8.toNat_ofNat']
    rw [sg_of u a _ (by omega) (by omega), sg_of u c _ (by omega) (by omega)]
  | [a, c, d], b, h => by
    simp only [de] at h
    split at h
    · simp at h
    rename_i hn
    injection h with h
    subst h
    have h1 := (ix_ok u a).2.1
    have h2 := (ix_ok u c).2.1
    have h3 := (ix_ok u d).2.1
    simp only [put, en, List.map_cons, List.map_nil, UInt8.toNat_ofNat']
    rw [sg_of u a _ (by omega) (by omega), sg_of u c _ (by omega) (by omega), sg_of u d _ (by omega) (by omega)]
  | a :: c :: d :: e :: r, b, h => by
    simp only [de] at h
    split at h
    · simp at h
    rename_i hn
    cases hr : de u r with
    | none => rw [hr] at h; simp at h
    | some t =>
      rw [hr] at h
      simp only [Option.map_some] at h
      injection h with h
      subst h
      have ih := put_de u r t hr
      have h1 := (ix_ok u a).2.1
      have h2 := (ix_ok u c).2.1
      have h3 := (ix_ok u d).2.1
      have h4 := (ix_ok u e).2.1
      simp only [put] at ih
      simp only [put, en, List.map_cons, UInt8.toNat_ofNat', ih]
      rw [sg_of u a _ (by omega) (by omega), sg_of u c _ (by omega) (by omega), sg_of u d _ (by omega) (by omega), sg_of u e _ (by omega) (by omega)]
theorem put_got (u : Bool) (s b : List UInt8) (h : got u s = some b) : put u b = s := by
  rw [got_de] at h
  split at h
  · simp at h
  · exact put_de u s b h
end Go.Proofs.Ytnbonoallcjlbaa
