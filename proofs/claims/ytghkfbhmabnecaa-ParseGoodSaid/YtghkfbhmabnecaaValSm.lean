/-
  What a merge in place does, as plain lists of numbers.
  Conditions: none.
-/
import Derived.Test.YtghkfbhmabnecaaValRo
namespace Go.Proofs.Ytghkfbhmabnecaa
open Go.RowKit

theorem ltS_le_trans {a b c : ByteArray} (h1 : ltS b a = false) (h2 : ltS b c = true) : ltS a c = true := by
  cases h : ltS a b with
  | true => exact ltS_trans h h2
  | false => rw [ltS_tri a b h h1]; exact h2
theorem ltS_lt_le {a b c : ByteArray} (h1 : ltS a b = true) (h2 : ltS c b = false) : ltS a c = true := by
  cases h : ltS b c with
  | true => exact ltS_trans h1 h
  | false => rw [← ltS_tri b c h h2]; exact h1
theorem sl_le {key : Nat → ByteArray} {x y : Nat} (h : sl key x y) : ltS (key y) (key x) = false := by
  rcases h with h | ⟨h, _⟩
  · cases h2 : ltS (key y) (key x) with
    | false => rfl
    | true => have := ltS_trans h h2; rw [ltS_irrefl] at this; cases this
  · rw [h]; exact ltS_irrefl _
theorem sl_get {key : Nat → ByteArray} {X : List Nat} (hs : X.Pairwise (sl key)) {i j : Nat} (hij : i < j) (hj : j < X.length) : sl key (X.getD i 0) (X.getD j 0) := by
  have := List.pairwise_iff_getElem.1 hs i j (by omega) hj hij
  simpa [hj, show i < X.length by omega] using this
theorem mem_take_get {X : List Nat} {p x : Nat} (h : x ∈ X.take p) : ∃ i, i < p ∧ i < X.length ∧ X.getD i 0 = x := by
  obtain ⟨i, hi, rfl⟩ := List.getElem_of_mem h
  rw [List.length_take] at hi
  exact ⟨i, by omega, by omega, by simp [show i < X.length by omega]⟩
theorem mem_drop_get {X : List Nat} {p x : Nat} (h : x ∈ X.drop p) : ∃ i, p ≤ i ∧ i < X.length ∧ X.getD i 0 = x := by
  obtain ⟨i, hi, rfl⟩ := List.getElem_of_mem h
  rw [List.length_drop] at hi
  exact ⟨p + i, by omega, by omega, by simp [show p + i < X.length by omega]⟩

/-- One number ahead of a run: it goes behind all that are less. -/
theorem ins_right {key : Nat → ByteArray} {x : Nat} {Y : List Nat} (hs : Y.Pairwise (sl key)) (hx : ∀ y ∈ Y, x < y) {p : Nat} (hp : p ≤ Y.length) (h1 : p = 0 ∨ ltS (key (Y.getD (p - 1) 0)) (key x) = true) (h2 : p = Y.length ∨ ltS (key (Y.getD p 0)) (key x) = false) :
    (Y.take p ++ x :: Y.drop p).Pairwise (sl key) ∧ (Y.take p ++ x :: Y.drop p).Perm ([x] ++ Y) := by
  have hT : ∀ y ∈ Y.take p, sl key y x := by
    intro y hy
    obtain ⟨i, hi, hl, rfl⟩ := mem_take_get hy
    rcases h1 with h1 | h1
    · omega
    · refine .inl ?_
      by_cases e : i = p - 1
      · rw [e]; exact h1
      · exact ltS_le_trans (sl_le (sl_get hs (show i < p - 1 by omega) (by omega))) h1
  have hD : ∀ y ∈ Y.drop p, sl key x y := by
    intro y hy
    have hxy := hx y (List.mem_of_mem_drop hy)
    obtain ⟨i, hi, hl, rfl⟩ := mem_drop_get hy
    rcases h2 with h2 | h2
    · omega
    · refine sl_of ?_ hxy
      by_cases e : i = p
      · rw [e]; exact h2
      · cases h : ltS (key (Y.getD i 0)) (key x) with
        | false => rfl
        | true => rw [ltS_le_trans (sl_le (sl_get hs (show p < i by omega) hl)) h] at h2; cases h2
  constructor
  · rw [List.pairwise_append]
    have hs2 := hs
    rw [← List.take_append_drop p Y, List.pairwise_append] at hs2
    refine ⟨hs2.1, List.pairwise_cons.2 ⟨hD, hs2.2.1⟩, fun a ha b hb => ?_⟩
    rcases List.mem_cons.1 hb with rfl | hb
    · exact hT a ha
    · exact hs2.2.2 a ha b hb
  · refine List.perm_middle.trans ?_
    rw [List.take_append_drop]
    exact List.Perm.refl _
/-- One number behind a run: it goes ahead of all that are greater. -/
theorem ins_left {key : Nat → ByteArray} {y : Nat} {X : List Nat} (hs : X.Pairwise (sl key)) (hy : ∀ x ∈ X, x < y) {p : Nat} (hp : p ≤ X.length) (h1 : p = 0 ∨ ltS (key y) (key (X.getD (p - 1) 0)) = false) (h2 : p = X.length ∨ ltS (key y) (key (X.getD p 0)) = true) :
    (X.take p ++ y :: X.drop p).Pairwise (sl key) ∧ (X.take p ++ y :: X.drop p).Perm (X ++ [y]) := by
  have hT : ∀ x ∈ X.take p, sl key x y := by
    intro x hx
    have hxy := hy x (List.mem_of_mem_take hx)
    obtain ⟨i, hi, hl, rfl⟩ := mem_take_get hx
    rcases h1 with h1 | h1
    · omega
    · refine sl_of ?_ hxy
      by_cases e : i = p - 1
      · rw [e]; exact h1
      · cases h : ltS (key y) (key (X.getD i 0)) with
        | false => rfl
        | true => rw [ltS_lt_le h (sl_le (sl_get hs (show i < p - 1 by omega) (by omega)))] at h1; cases h1
  have hD : ∀ x ∈ X.drop p, sl key y x := by
    intro x hx
    obtain ⟨i, hi, hl, rfl⟩ := mem_drop_get hx
    rcases h2 with h2 | h2
    · omega
    · refine .inl ?_
      by_cases e : i = p
      · rw [e]; exact h2
      · exact ltS_lt_le h2 (sl_le (sl_get hs (show p < i by omega) hl))
  constructor
  · rw [List.pairwise_append]
    have hs2 := hs
    rw [← List.take_append_drop p X, List.pairwise_append] at hs2
    refine ⟨hs2.1, List.pairwise_cons.2 ⟨hD, hs2.2.1⟩, fun a ha b hb => ?_⟩
    rcases List.mem_cons.1 hb with rfl | hb
    · exact hT a ha
    · exact hs2.2.2 a ha b hb
  · refine List.perm_middle.trans ?_
    rw [List.take_append_drop]
    exact (List.perm_append_singleton y X).symm
/-- Two halves, each merged, all of the first less than all of the second. -/
theorem halves {key : Nat → ByteArray} {X1 X2 Y1 Y2 Z1 Z2 : List Nat} (sX : (X1 ++ X2).Pairwise (sl key)) (sY : (Y1 ++ Y2).Pairwise (sl key)) (p1 : Z1.Perm (X1 ++ Y1)) (p2 : Z2.Perm (X2 ++ Y2)) (s1 : Z1.Pairwise (sl key)) (s2 : Z2.Pairwise (sl key))
    (c1 : ∀ x ∈ X1, ∀ y ∈ Y2, sl key x y) (c2 : ∀ y ∈ Y1, ∀ x ∈ X2, sl key y x) : (Z1 ++ Z2).Pairwise (sl key) ∧ (Z1 ++ Z2).Perm ((X1 ++ X2) ++ (Y1 ++ Y2)) := by
  rw [List.pairwise_append] at sX sY
  constructor
  · rw [List.pairwise_append]
    refine ⟨s1, s2, fun a ha b hb => ?_⟩
    have ha' := p1.mem_iff.1 ha
    have hb' := p2.mem_iff.1 hb
    rcases List.mem_append.1 ha' with ha' | ha' <;> rcases List.mem_append.1 hb' with hb' | hb'
    · exact sX.2.2 a ha' b hb'
    · exact c1 a ha' b hb'
    · exact c2 a ha' b hb'
    · exact sY.2.2 a ha' b hb'
  · refine (List.Perm.append p1 p2).trans ?_
    simp only [List.append_assoc]
    refine List.Perm.append_left X1 ?_
    rw [← List.append_assoc, ← List.append_assoc]
    exact List.Perm.append_right Y2 List.perm_append_comm
/-- What the search tells at a place of the left run: is its partner less? -/
def Tm (key : Nat → ByteArray) (X Y : List Nat) (hf i : Nat) : Bool := ltS (key (Y.getD (hf - 1 - i) 0)) (key (X.getD i 0))
theorem cross {key : Nat → ByteArray} {X Y : List Nat} (sX : X.Pairwise (sl key)) (sY : Y.Pairwise (sl key)) (hXY : ∀ x ∈ X, ∀ y ∈ Y, x < y) (hf lo hi s : Nat)
    (hr : (lo = hf - Y.length ∧ hi = hf ∧ hf < X.length ∧ Y.length ≤ hf) ∨ (lo = 0 ∧ hi = X.length ∧ X.length ≤ hf ∧ hf ≤ Y.length)) (hs : lo ≤ s ∧ s ≤ hi)
    (h1 : s = lo ∨ Tm key X Y hf (s - 1) = false) (h2 : s = hi ∨ Tm key X Y hf s = true) :
    s ≤ X.length ∧ s ≤ hf ∧ hf - s ≤ Y.length ∧ (∀ x ∈ X.take s, ∀ y ∈ Y.drop (hf - s), sl key x y) ∧ (∀ y ∈ Y.take (hf - s), ∀ x ∈ X.drop s, sl key y x) := by
  refine ⟨by omega, by omega, by omega, fun x hx y hy => ?_, fun y hy x hx => ?_⟩
  · have hxm := List.mem_of_mem_take hx
    have hym := List.mem_of_mem_drop hy
    obtain ⟨i, i1, i2, rfl⟩ := mem_take_get hx
    obtain ⟨j, j1, j2, rfl⟩ := mem_drop_get hy
    rcases h1 with h1 | h1
    · omega
    · have e : hf - 1 - (s - 1) = hf - s := by omega
      unfold Tm at h1
      rw [e] at h1
      have hm : sl key (X.getD (s - 1) 0) (Y.getD (hf - s) 0) := sl_of h1 (hXY _ (by simp [show s - 1 < X.length by omega]) _ (by simp [show hf - s < Y.length by omega]))
      have ha : i = s - 1 ∨ sl key (X.getD i 0) (X.getD (s - 1) 0) := by
        by_cases e : i = s - 1
        · exact .inl e
        · exact .inr (sl_get sX (by omega) (by omega))
      have hb : j = hf - s ∨ sl key (Y.getD (hf - s) 0) (Y.getD j 0) := by
        by_cases e : j = hf - s
        · exact .inl e
        · exact .inr (sl_get sY (by omega) (by omega))
      rcases ha with rfl | ha <;> rcases hb with rfl | hb
      · exact hm
      · exact sl_trans hm hb
      · exact sl_trans ha hm
      · exact sl_trans ha (sl_trans hm hb)
  · obtain ⟨i, i1, i2, rfl⟩ := mem_drop_get hx
    obtain ⟨j, j1, j2, rfl⟩ := mem_take_get hy
    rcases h2 with h2 | h2
    · omega
    · unfold Tm at h2
      have hm : sl key (Y.getD (hf - 1 - s) 0) (X.getD s 0) := .inl h2
      have ha : i = s ∨ sl key (X.getD s 0) (X.getD i 0) := by
        by_cases e : i = s
        · exact .inl e
        · exact .inr (sl_get sX (by omega) (by omega))
      have hb : j = hf - 1 - s ∨ sl key (Y.getD j 0) (Y.getD (hf - 1 - s) 0) := by
        by_cases e : j = hf - 1 - s
        · exact .inl e
        · exact .inr (sl_get sY (by omega) (by omega))
      rcases ha with rfl | ha <;> rcases hb with rfl | hb
      · exact hm
      · exact sl_trans hb hm
      · exact sl_trans hm ha
      · exact sl_trans hb (sl_trans hm ha)

/-- The numbers from lo on, so many, sorted. -/
def SortedOf (key : Nat → ByteArray) (lo n : Nat) (S : List Nat) : Prop := S.Perm (List.range' lo n) ∧ S.Pairwise (sl key)
theorem SortedOf.len {key : Nat → ByteArray} {lo n : Nat} {S : List Nat} (h : SortedOf key lo n S) : S.length = n := by have := h.1.length_eq; simpa using this
theorem SortedOf.mem {key : Nat → ByteArray} {lo n : Nat} {S : List Nat} (h : SortedOf key lo n S) {x : Nat} (hx : x ∈ S) : lo ≤ x ∧ x < lo + n := by
  have := h.1.mem_iff.1 hx
  rw [List.mem_range'_1] at this
  exact this
theorem SortedOf.join {key : Nat → ByteArray} {lo a b : Nat} {S T Z : List Nat} (h : SortedOf key lo a S) (k : SortedOf key (lo + a) b T) (hp : Z.Perm (S ++ T)) (hs : Z.Pairwise (sl key)) : SortedOf key lo (a + b) Z :=
  ⟨hp.trans ((List.Perm.append h.1 k.1).trans (by rw [List.range'_append_1])), hs⟩
/-- Runs of so many numbers each, sorted, the last one maybe shorter. -/
inductive Blks (key : Nat → ByteArray) (bs : Nat) : Nat → List Nat → Prop
  | last (lo n : Nat) (S : List Nat) (hn : n ≤ bs) (h : SortedOf key lo n S) : Blks key bs lo S
  | more (lo : Nat) (S R : List Nat) (h : SortedOf key lo bs S) (r : Blks key bs (lo + bs) R) : Blks key bs lo (S ++ R)
inductive Pres (key : Nat → ByteArray) (bs : Nat) : Nat → List Nat → Prop
  | nil : Pres key bs 0 []
  | snoc (a : Nat) (D S : List Nat) (h : Pres key bs a D) (k : SortedOf key a bs S) : Pres key bs (a + bs) (D ++ S)
theorem Pres.len {key : Nat → ByteArray} {bs a : Nat} {D : List Nat} (h : Pres key bs a D) : D.length = a := by
  induction h with
  | nil => rfl
  | snoc a D S h k ih => rw [List.length_append, ih, k.len]
theorem Pres.mem {key : Nat → ByteArray} {bs a : Nat} {D : List Nat} (h : Pres key bs a D) : ∀ x ∈ D, x < a := by
  induction h with
  | nil => intro x hx; cases hx
  | snoc a D S h k ih =>
    intro x hx
    rcases List.mem_append.1 hx with hx | hx
    · have := ih x hx; omega
    · exact (k.mem hx).2
theorem Pres.blks {key : Nat → ByteArray} {bs a : Nat} {D : List Nat} (h : Pres key bs a D) : ∀ R, Blks key bs a R → Blks key bs 0 (D ++ R) := by
  induction h with
  | nil => intro R hR; exact hR
  | snoc a D S h k ih => intro R hR; rw [List.append_assoc]; exact ih _ (.more a S R k hR)
theorem Blks.short {key : Nat → ByteArray} {bs lo : Nat} {R : List Nat} (h : Blks key bs lo R) (hl : R.length ≤ bs) : SortedOf key lo R.length R := by
  cases h with
  | last _ n _ hn h => rw [h.len]; exact h
  | more _ S R h r =>
    have h1 := h.len
    rw [List.length_append] at hl ⊢
    obtain rfl : R = [] := List.eq_nil_of_length_eq_zero (by omega)
    rw [List.append_nil, List.length_nil, Nat.add_zero, h1]
    exact h
theorem Blks.mem {key : Nat → ByteArray} {bs lo : Nat} {R : List Nat} (h : Blks key bs lo R) : ∀ x ∈ R, lo ≤ x ∧ x < lo + R.length := by
  induction h with
  | last lo n S hn h => intro x hx; have := h.mem hx; rw [h.len]; exact this
  | more lo S R h r ih =>
    intro x hx
    have h1 := h.len
    rw [List.length_append]
    rcases List.mem_append.1 hx with hx | hx
    · have := h.mem hx; omega
    · have := ih x hx; omega
/-- Two runs from the front. -/
theorem Blks.two {key : Nat → ByteArray} {bs lo : Nat} {R : List Nat} (h : Blks key bs lo R) (hb : 0 < bs) (hl : 2 * bs ≤ R.length) : ∃ S1 S2 R2, R = S1 ++ (S2 ++ R2) ∧ SortedOf key lo bs S1 ∧ SortedOf key (lo + bs) bs S2 ∧ Blks key bs (lo + 2 * bs) R2 := by
  cases h with
  | last _ n _ hn h => have := h.len; omega
  | more _ S R h r =>
    have h1 := h.len
    rw [List.length_append] at hl
    cases r with
    | last _ n _ hn k =>
      have h2 := k.len
      obtain rfl : n = bs := by omega
      exact ⟨S, R, [], by simp, h, k, .last _ 0 [] (Nat.zero_le _) ⟨by simp, List.Pairwise.nil⟩⟩
    | more _ S2 R2 k r2 => exact ⟨S, S2, R2, rfl, h, k, by rw [show lo + 2 * bs = lo + bs + bs by omega]; exact r2⟩
/-- One run and a shorter one. -/
theorem Blks.oneMore {key : Nat → ByteArray} {bs lo : Nat} {R : List Nat} (h : Blks key bs lo R) (hl : bs < R.length) (hl2 : R.length < 2 * bs) : ∃ S1 S2, R = S1 ++ S2 ∧ SortedOf key lo bs S1 ∧ SortedOf key (lo + bs) S2.length S2 := by
  cases h with
  | last _ n _ hn h => have := h.len; omega
  | more _ S R h r =>
    have h1 := h.len
    rw [List.length_append] at hl hl2
    exact ⟨S, R, rfl, h, r.short (by omega)⟩
end Go.Proofs.Ytghkfbhmabnecaa
