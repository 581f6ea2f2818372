/-
  What a merge in place does, as plain lists of numbers.
  Go's merge in place, of one member and a sorted run: it is inserted.
  Go's merge in place, of a sorted run and one member behind it: it is inserted.
  Conditions: none.
-/
import Derived.Test.YthcphfpkinfjoaaValRo
namespace Go.Proofs.Ythcphfpkinfjoaa
open Go.RowKit

theorem ltS_le_trans {a b c : ByteArray} (h1 : ltS b a = false) (h2 : ltS b c = true) : ltS a c = true := by
  cases h : ltS a b with
  | true => exact ltS_trans h h2
  | false => rw [ltS_tri a b h h1]; exact h2
theorem ltS_lt_le {a b c : ByteArray} (h1 : ltS a b = true) (h2 : ltS c b = false) : ltS a c = true := by
  cases h : ltS b c with
  | true => exact ltS_trans h1 h
  | false => rw [← ltS_tri b c h h2]; exact h1
theorem sl_le {key : Nat → ByteArray} {x y : Nat} (h : sl key x y) : ltS (key y) (key x) = false := by
  rcases h with h | ⟨h, _⟩
  · cases h2 : ltS (key y) (key x) with
    | false => rfl
    | true => have := ltS_trans h h2; rw [ltS_irrefl] at this; cases this
  · rw [h]; exact ltS_irrefl _
theorem sl_get {key : Nat → ByteArray} {X : List Nat} (hs : X.Pairwise (sl key)) {i j : Nat} (hij : i < j) (hj : j < X.length) : sl key (X.getD i 0) (X.getD j 0) := by
  have := List.pairwise_iff_getElem.1 hs i j (by omega) hj hij
  simpa [hj, show i < X.length by omega] using this
theorem mem_take_get {X : List Nat} {p x : Nat} (h : x ∈ X.take p) : ∃ i, i < p ∧ i < X.length ∧ X.getD i 0 = x := by
  obtain ⟨i, hi, rfl⟩ := List.getElem_of_mem h
  rw [List.length_take] at hi
  exact ⟨i, by omega, by omega, by simp [show i < X.length by omega]⟩
theorem mem_drop_get {X : List Nat} {p x : Nat} (h : x ∈ X.drop p) : ∃ i, p ≤ i ∧ i < X.length ∧ X.getD i 0 = x := by
  obtain ⟨i, hi, rfl⟩ := List.getElem_of_mem h
  rw [List.length_drop] at hi
  exact ⟨p + i, by omega, by omega, by simp [show p + i < X.length by omega]⟩

/-- One number ahead of a run: it goes behind all that are less. -/
theorem ins_right {key : Nat → ByteArray} {x : Nat} {Y : List Nat} (hs : Y.Pairwise (sl key)) (hx : ∀ y ∈ Y, x < y) {p : Nat} (hp : p ≤ Y.length) (h1 : p = 0 ∨ ltS (key (Y.getD (p - 1) 0)) (key x) = true) (h2 : p = Y.length ∨ ltS (key (Y.getD p 0)) (key x) = false) :
    (Y.take p ++ x :: Y.drop p).Pairwise (sl key) ∧ (Y.take p ++ x :: Y.drop p).Perm ([x] ++ Y) := by
  have hT : ∀ y ∈ Y.take p, sl key y x := by
    intro y hy
    obtain ⟨i, hi, hl, rfl⟩ := mem_take_get hy
    rcases h1 with h1 | h1
    · omega
    · refine .inl ?_
      by_cases e : i = p - 1
      · rw [e]; exact h1
      · exact ltS_le_trans (sl_le (sl_get hs (show i < p - 1 by omega) (by omega))) h1
  have hD : ∀ y ∈ Y.drop p, sl key x y := by
    intro y hy
    have hxy := hx y (List.mem_of_mem_drop hy)
    obtain ⟨i, hi, hl, rfl⟩ := mem_drop_get hy
    rcases h2 with h2 | h2
    · omega
    · refine sl_of ?_ hxy
      by_cases e : i = p
      · rw [e]; exact h2
      · cases h : ltS (key (Y.getD i 0)) (key x) with
        | false => rfl
        | true => rw [ltS_le_trans (sl_le (sl_get hs (show p < i by omega) hl)) h] at h2; cases h2
  constructor
  · rw [List.pairwise_append]
    have hs2 := hs
    rw [← List.take_append_drop p Y, List.pairwise_append] at hs2
    refine ⟨hs2.1, List.pairwise_cons.2 ⟨hD, hs2.2.1⟩, fun a ha b hb => ?_⟩
    rcases List.mem_cons.1 hb with rfl | hb
    · exact hT a ha
    · exact hs2.2.2 a ha b hb
  · refine List.perm_middle.trans ?_
    rw [List.take_append_drop]
    exact List.Perm.refl _
/-- One number behind a run: it goes ahead of all that are greater. -/
theorem ins_left {key : Nat → ByteArray} {y : Nat} {X : List Nat} (hs : X.Pairwise (sl key)) (hy : ∀ x ∈ X, x < y) {p : Nat} (hp : p ≤ X.length) (h1 : p = 0 ∨ ltS (key y) (key (X.getD (p - 1) 0)) = false) (h2 : p = X.length ∨ ltS (key y) (key (X.getD p 0)) = true) :
    (X.take p ++ y :: X.drop p).Pairwise (sl key) ∧ (X.take p ++ y :: X.drop p).Perm (X ++ [y]) := by
  have hT : ∀ x ∈ X.take p, sl key x y := by
    intro x hx
    have hxy := hy x (List.mem_of_mem_take hx)
    obtain ⟨i, hi, hl, rfl⟩ := mem_take_get hx
    rcases h1 with h1 | h1
    · omega
    · refine sl_of ?_ hxy
      by_cases e : i = p - 1
      · rw [e]; exact h1
      · cases h : ltS (key y) (key (X.getD i 0)) with
        | false => rfl
        | true => rw [ltS_lt_le h (sl_le (sl_get hs (show i < p - 1 by omega) (by omega)))] at h1; cases h1
  have hD : ∀ x ∈ X.drop p, sl key y x := by
    intro x hx
    obtain ⟨i, hi, hl, rfl⟩ := mem_drop_get hx
    rcases h2 with h2 | h2
    · omega
    · refine .inl ?_
      by_cases e : i = p
      · rw [e]; exact h2
      · exact ltS_lt_le h2 (sl_le (sl_get hs (show p < i by omega) hl))
  constructor
  · rw [List.pairwise_append]
    have hs2 := hs
    rw [← List.take_append_drop p X, List.pairwise_append] at hs2
    refine ⟨hs2.1, List.pairwise_cons.2 ⟨hD, hs2.2.1⟩, fun a ha b hb => ?_⟩
    rcases List.mem_cons.1 hb with rfl | hb
    · exact hT a ha
    · exact hs2.2.2 a ha b hb
  · refine List.perm_middle.trans ?_
    rw [List.take_append_drop]
    exact (List.perm_append_singleton y X).symm
/-- Two halves, each merged, all of the first less than all of the second. -/
theorem halves {key : Nat → ByteArray} {X1 X2 Y1 Y2 Z1 Z2 : List Nat} (sX : (X1 ++ X2).Pairwise (sl key)) (sY : (Y1 ++ Y2).Pairwise (sl key)) (p1 : Z1.Perm (X1 ++ Y1)) (p2 : Z2.Perm (X2 ++ Y2)) (s1 : Z1.Pairwise (sl key)) (s2 : Z2.Pairwise (sl key))
    (c1 : ∀ x ∈ X1, ∀ y ∈ Y2, sl key x y) (c2 : ∀ y ∈ Y1, ∀ x ∈ X2, sl key y x) : (Z1 ++ Z2).Pairwise (sl key) ∧ (Z1 ++ Z2).Perm ((X1 ++ X2) ++ (Y1 ++ Y2)) := by
  rw [List.pairwise_append] at sX sY
  constructor
  · rw [List.pairwise_append]
    refine ⟨s1, s2, fun a ha b hb => ?_⟩
    have ha' := p1.mem_iff.1 ha
    have hb' := p2.mem_iff.1 hb
    rcases List.mem_append.1 ha' with ha' | ha' <;> rcases List.mem_append.1 hb' with hb' | hb'
    · exact sX.2.2 a ha' b hb'
    · exact c1 a ha' b hb'
    · exact c2 a ha' b hb'
    · exact sY.2.2 a ha' b hb'
  · refine (List.Perm.append p1 p2).trans ?_
    simp only [List.append_assoc]
    refine List.Perm.append_left X1 ?_
    rw [← List.append_assoc, ← List.append_assoc]
    exact List.Perm.append_right Y2 List.perm_append_comm
/-- What the search tells at a place of the left run: is its partner less? -/
def Tm (key : Nat → ByteArray) (X Y : List Nat) (hf i : Nat) : Bool := ltS (key (Y.getD (hf - 1 - i) 0)) (key (X.getD i 0))
theorem cross {key : Nat → ByteArray} {X Y : List Nat} (sX : X.Pairwise (sl key)) (sY : Y.Pairwise (sl key)) (hXY : ∀ x ∈ X, ∀ y ∈ Y, x < y) (hf lo hi s : Nat)
    (hr : (lo = hf - Y.length ∧ hi = hf ∧ hf < X.length ∧ Y.length ≤ hf) ∨ (lo = 0 ∧ hi = X.length ∧ X.length ≤ hf ∧ hf ≤ Y.length)) (hs : lo ≤ s ∧ s ≤ hi)
    (h1 : s = lo ∨ Tm key X Y hf (s - 1) = false) (h2 : s = hi ∨ Tm key X Y hf s = true) :
    s ≤ X.length ∧ s ≤ hf ∧ hf - s ≤ Y.length ∧ (∀ x ∈ X.take s, ∀ y ∈ Y.drop (hf - s), sl key x y) ∧ (∀ y ∈ Y.take (hf - s), ∀ x ∈ X.drop s, sl key y x) := by
  refine ⟨by omega, by omega, by omega, fun x hx y hy => ?_, fun y hy x hx => ?_⟩
  · have hxm := List.mem_of_mem_take hx
    have hym := List.mem_of_mem_drop hy
    obtain ⟨i, i1, i2, rfl⟩ := mem_take_get hx
    obtain ⟨j, j1, j2, rfl⟩ := mem_drop_get hy
    rcases h1 with h1 | h1
    · omega
    · have e : hf - 1 - (s - 1) = hf - s := by omega
      unfold Tm at h1
      rw [e] at h1
      have hm : sl key (X.getD (s - 1) 0) (Y.getD (hf - s) 0) := sl_of h1 (hXY _ (by simp [show s - 1 < X.length by omega]) _ (by simp [show hf - s < Y.length by omega]))
      have ha : i = s - 1 ∨ sl key (X.getD i 0) (X.getD (s - 1) 0) := by
        by_cases e : i = s - 1
        · exact .inl e
        · exact .inr (sl_get sX (by omega) (by omega))
      have hb : j = hf - s ∨ sl key (Y.getD (hf - s) 0) (Y.getD j 0) := by
        by_cases e : j = hf - s
        · exact .inl e
        · exact .inr (sl_get sY (by omega) (by omega))
      rcases ha with rfl | ha <;> rcases hb with rfl | hb
      · exact hm
      · exact sl_trans hm hb
      · exact sl_trans ha hm
      · exact sl_trans ha (sl_trans hm hb)
  · obtain ⟨i, i1, i2, rfl⟩ := mem_drop_get hx
    obtain ⟨j, j1, j2, rfl⟩ := mem_take_get hy
    rcases h2 with h2 | h2
    · omega
    · unfold Tm at h2
      have hm : sl key (Y.getD (hf - 1 - s) 0) (X.getD s 0) := .inl h2
      have ha : i = s ∨ sl key (X.getD s 0) (X.getD i 0) := by
        by_cases e : i = s
        · exact .inl e
        · exact .inr (sl_get sX (by omega) (by omega))
      have hb : j = hf - 1 - s ∨ sl key (Y.getD j 0) (Y.getD (hf - 1 - s) 0) := by
        by_cases e : j = hf - 1 - s
        · exact .inl e
        · exact .inr (sl_get sY (by omega) (by omega))
      rcases ha with rfl | ha <;> rcases hb with rfl | hb
      · exact hm
      · exact sl_trans hb hm
      · exact sl_trans hm ha
      · exact sl_trans hb (sl_trans hm ha)

/-- The numbers from lo on, so many, sorted. -/
def SortedOf (key : Nat → ByteArray) (lo n : Nat) (S : List Nat) : Prop := S.Perm (List.range' lo n) ∧ S.Pairwise (sl key)
theorem SortedOf.len {key : Nat → ByteArray} {lo n : Nat} {S : List Nat} (h : SortedOf key lo n S) : S.length = n := by have := h.1.length_eq; simpa using this
theorem SortedOf.mem {key : Nat → ByteArray} {lo n : Nat} {S : List Nat} (h : SortedOf key lo n S) {x : Nat} (hx : x ∈ S) : lo ≤ x ∧ x < lo + n := by
  have := h.1.mem_iff.1 hx
  rw [List.mem_range'_1] at this
  exact this
theorem SortedOf.join {key : Nat → ByteArray} {lo a b : Nat} {S T Z : List Nat} (h : SortedOf key lo a S) (k : SortedOf key (lo + a) b T) (hp : Z.Perm (S ++ T)) (hs : Z.Pairwise (sl key)) : SortedOf key lo (a + b) Z :=
  ⟨hp.trans ((List.Perm.append h.1 k.1).trans (by rw [List.range'_append_1])), hs⟩
/-- Runs of so many numbers each, sorted, the last one maybe shorter. -/
inductive Blks (key : Nat → ByteArray) (bs : Nat) : Nat → List Nat → Prop
  | last (lo n : Nat) (S : List Nat) (hn : n ≤ bs) (h : SortedOf key lo n S) : Blks key bs lo S
  | more (lo : Nat) (S R : List Nat) (h : SortedOf key lo bs S) (r : Blks key bs (lo + bs) R) : Blks key bs lo (S ++ R)
inductive Pres (key : Nat → ByteArray) (bs : Nat) : Nat → List Nat → Prop
  | nil : Pres key bs 0 []
  | snoc (a : Nat) (D S : List Nat) (h : Pres key bs a D) (k : SortedOf key a bs S) : Pres key bs (a + bs) (D ++ S)
theorem Pres.len {key : Nat → ByteArray} {bs a : Nat} {D : List Nat} (h : Pres key bs a D) : D.length = a := by
  induction h with
  | nil => rfl
  | snoc a D S h k ih => rw [List.length_append, ih, k.len]
theorem Pres.mem {key : Nat → ByteArray} {bs a : Nat} {D : List Nat} (h : Pres key bs a D) : ∀ x ∈ D, x < a := by
  induction h with
  | nil => intro x hx; cases hx
  | snoc a D S h k ih =>
    intro x hx
    rcases List.mem_append.1 hx with hx | hx
    · have := ih x hx; omega
    · exact (k.mem hx).2
theorem Pres.blks {key : Nat → ByteArray} {bs a : Nat} {D : List Nat} (h : Pres key bs a D) : ∀ R, Blks key bs a R → Blks key bs 0 (D ++ R) := by
  induction h with
  | nil => intro R hR; exact hR
  | snoc a D S h k ih => intro R hR; rw [List.append_assoc]; exact ih _ (.more a S R k hR)
theorem Blks.short {key : Nat → ByteArray} {bs lo : Nat} {R : List Nat} (h : Blks key bs lo R) (hl : R.length ≤ bs) : SortedOf key lo R.length R := by
  cases h with
  | last _ n _ hn h => rw [h.len]; exact h
  | more _ S R h r =>
    have h1 := h.len
    rw [List.length_append] at hl ⊢
    obtain rfl : R = [] := List.eq_nil_of_length_eq_zero (by omega)
    rw [List.append_nil, List.length_nil, Nat.add_zero, h1]
    exact h
theorem Blks.mem {key : Nat → ByteArray} {bs lo : Nat} {R : List Nat} (h : Blks key bs lo R) : ∀ x ∈ R, lo ≤ x ∧ x < lo + R.length := by
  induction h with
  | last lo n S hn h => intro x hx; have := h.mem hx; rw [h.len]; exact this
  | more lo S R h r ih =>
    intro x hx
    have h1 := h.len
    rw [List.length_append]
    rcases List.mem_append.1 hx with hx | hx
    · have := h.mem hx; omega
    · have := ih x hx; omega
/-- Two runs from the front. -/
theorem Blks.two {key : Nat → ByteArray} {bs lo : Nat} {R : List Nat} (h : Blks key bs lo R) (hb : 0 < bs) (hl : 2 * bs ≤ R.length) : ∃ S1 S2 R2, R = S1 ++ (S2 ++ R2) ∧ SortedOf key lo bs S1 ∧ SortedOf key (lo + bs) bs S2 ∧ Blks key bs (lo + 2 * bs) R2 := by
  cases h with
  | last _ n _ hn h => have := h.len; omega
  | more _ S R h r =>
    have h1 := h.len
    rw [List.length_append] at hl
    cases r with
    | last _ n _ hn k =>
      have h2 := k.len
      obtain rfl : n = bs := by omega
      exact ⟨S, R, [], by simp, h, k, .last _ 0 [] (Nat.zero_le _) ⟨by simp, List.Pairwise.nil⟩⟩
    | more _ S2 R2 k r2 => exact ⟨S, S2, R2, rfl, h, k, by rw [show lo + 2 * bs = lo + bs + bs by omega]; exact r2⟩
/-- One run and a shorter one. -/
theorem Blks.oneMore {key : Nat → ByteArray} {bs lo : Nat} {R : List Nat} (h : Blks key bs lo R) (hl : bs < R.length) (hl2 : R.length < 2 * bs) : ∃ S1 S2, R = S1 ++ S2 ∧ SortedOf key lo bs S1 ∧ SortedOf key (lo + bs) S2.length S2 := by
  cases h with
  | last _ n _ hn h => have := h.len; omega
  | more _ S R h r =>
    have h1 := h.len
    rw [List.length_append] at hl hl2
    exact ⟨S, R, rfl, h, r.short (by omega)⟩
end Go.Proofs.Ythcphfpkinfjoaa

namespace Go.Proofs.Ythcphfpkinfjoaa
open Go.RowKit

theorem RowOwn.open6 {W : World} {g cap N : Nat} {enc : Nat → Nat → Value} {key : Nat → ByteArray} {d : List Nat} (h : RowOwn W g cap enc d) (hE : Mems enc key N) {i x : Nat} (hi : i < d.length) (hx : d.getD i 0 = x) (hxN : x < N) :
    ∃ (k n : Int) (s : ByteArray) (a1 : Option Addr) (l1 p1 : Nat) (a2 : Option Addr) (l2 p2 : Nat), (enc x 0 = .string (key x) ∧ enc x 1 = .int .i64 k ∧ enc x 2 = .int .i64 n ∧ enc x 3 = .string s ∧ enc x 4 = .slice a1 l1 p1 ∧ enc x 5 = .slice a2 l2 p2) ∧
      W.cell? ⟨g, i * 6, none⟩ = some (.string (key x)) ∧ W.cell? ⟨g, i * 6 + 1, none⟩ = some (.int .i64 k) ∧ W.cell? ⟨g, i * 6 + 2, none⟩ = some (.int .i64 n) ∧ W.cell? ⟨g, i * 6 + 3, none⟩ = some (.string s) ∧ W.cell? ⟨g, i * 6 + 4, none⟩ = some (.slice a1 l1 p1) ∧ W.cell? ⟨g, i * 6 + 5, none⟩ = some (.slice a2 l2 p2) := by
  have hx' : d[i] = x := by simpa [hi] using hx
  obtain ⟨c0, c1, c2, c3, c4, c5⟩ := h.at hi
  rw [hx'] at c0 c1 c2 c3 c4 c5
  obtain ⟨k, n, s, a1, l1, p1, a2, l2, p2, e1, e2, e3, e4, e5⟩ := hE.f x hxN
  simp only [Nat.reduceAdd] at e1 e2 e3 e4 e5
  have e0 := hE.k x hxN
  rw [e0] at c0; rw [e1] at c1; rw [e2] at c2; rw [e3] at c3; rw [e4] at c4; rw [e5] at c5
  exact ⟨k, n, s, a1, l1, p1, a2, l2, p2, ⟨e0, e1, e2, e3, e4, e5⟩, c0, c1, c2, c3, c4, c5⟩
theorem getD_mid (A B : List Nat) (x : Nat) : (A ++ x :: B).getD A.length 0 = x := by simp
theorem getD_far (A Y B : List Nat) (x t : Nat) (ht : t < Y.length) : (A ++ x :: (Y ++ B)).getD (A.length + 1 + t) 0 = Y.getD t 0 := by
  have e : A ++ x :: (Y ++ B) = (A ++ [x]) ++ (Y ++ B) := by simp
  rw [e, List.getD_eq_getElem?_getD, List.getElem?_append_right (by simp <;> omega), List.getElem?_append_left (by simp <;> omega), List.getD_eq_getElem?_getD]
  congr 2 <;> simp
theorem swap1_list (A B : List Nat) (x y : Nat) : ((A ++ x :: y :: B).set A.length y).set (A.length + 1) x = A ++ y :: x :: B := by
  induction A with
  | nil => rfl
  | cons z A ih => simp only [List.cons_append, List.length_cons, List.set_cons_succ]; rw [ih]
theorem getD_mid1 (A B : List Nat) (x y : Nat) : (A ++ x :: y :: B).getD (A.length + 1) 0 = y := by
  have e : A ++ x :: y :: B = (A ++ [x]) ++ y :: B := by simp
  rw [e]
  simp
theorem getD_mem {Y : List Nat} {t : Nat} (h : t < Y.length) : Y.getD t 0 ∈ Y := by simp [h]

/-- The search's state. -/
def InsR (key : Nat → ByteArray) (x : Nat) (Y : List Nat) (p q : Nat) : Prop := (p = 0 ∨ ltS (key (Y.getD (p - 1) 0)) (key x) = true) ∧ (q = Y.length ∨ ltS (key (Y.getD q 0)) (key x) = false)

set_option maxRecDepth 100000 in
set_option maxHeartbeats 2000000 in
theorem symMerge_A (enc : Nat → Nat → Value) (key : Nat → ByteArray) (N : Nat) (hE : Mems enc key N) (g cap len : Nat) (P : List Nat) (x : Nat) (Y Q : List Nat) (w : World) (hlt : ∀ z ∈ P ++ x :: (Y ++ Q), z < N) (hrow : RowOwn w g cap enc (P ++ x :: (Y ++ Q))) (hlen : (P ++ x :: (Y ++ Q)).length = len) (hN : len ≤ 1000000)
    (sY : Y.Pairwise (sl key)) (hXY : ∀ y ∈ Y, x < y) (a m b : Nat) (ha : a = P.length) (hm : m = P.length + 1) (hb : b = P.length + 1 + Y.length) :
    Calls Try.prog 87 #[.slice (some ⟨g, 0, none⟩) len cap, .int .i64 (a : Nat), .int .i64 (m : Nat), .int .i64 (b : Nat), .func (.func 37) #[] #[]] w fun e w' => e = .returned (.tuple #[]) ∧ But g w w' ∧ ∃ Z, Z.Perm ([x] ++ Y) ∧ Z.Pairwise (sl key) ∧ RowOwn w' g cap enc (P ++ (Z ++ Q)) := by
  have HL := Lib.hid hlen
  have HE := Lib.hid hE
  have HLT := Lib.hid hlt
  have HROW := Lib.hid hrow
  have HAB := Lib.hid (And.intro ha (And.intro hm hb))
  have HSY := Lib.hid (And.intro sY hXY)
  have hbl : P.length + 1 + Y.length + Q.length = len := by simp at hlen; omega
  have HBL := Lib.hid hbl
  have hal : a < len := by omega
  have hma : a < m := by omega
  have hbm : b ≤ len := by omega
  have ha9 : a ≤ 1000000 := by omega
  have hm9 : m ≤ 1000000 := by omega
  have hb9 : b ≤ 1000000 := by omega
  have q1 : (((m : Int) - (a : Int)) == 1) = true := by simp; omega
  clear hlen hE hlt hrow ha hm hb sY hXY hbl
  go_enter Try.func87, Try.ntmps87
  go_wp2_with fail
  go_loopw [10, 11] (fun iv jv wr => ∃ p q : Nat, p ≤ q ∧ q ≤ Y.length ∧ iv = .int .i64 (m + p : Nat) ∧ jv = .int .i64 (m + q : Nat) ∧ InsR key x Y p q ∧ RowOwn wr g cap enc (P ++ x :: (Y ++ Q)) ∧ But g w wr) (fun i j _ => (intOf j).toNat - (intOf i).toNat)
  case atStart => exact ⟨0, Y.length, by omega, Nat.le_refl _, by simp, by have := HAB.out; congr 2; omega, ⟨.inl rfl, .inl rfl⟩, HROW.out, But.refl _ _⟩
  case round =>
    obtain ⟨p, q, hpq, hq, rfl, rfl, hins, hrow, hbut⟩ := hrel
    have HINS := Lib.hid hins
    have HRW := Lib.hid hrow
    have HBT := Lib.hid hbut
    have hgz := hrow.lt
    clear hins hrow hbut
    obtain ⟨i, hi⟩ : ∃ i, i = m + p := ⟨_, rfl⟩
    obtain ⟨j, hj⟩ : ∃ j, j = m + q := ⟨_, rfl⟩
    rw [← hi, ← hj]
    have HIJ := Lib.hid (And.intro hi hj)
    have hjl : j ≤ len := by have := HAB.out; omega
    by_cases hlt : p < q
    · have hij : i < j := by omega
      obtain ⟨h, hh⟩ : ∃ h : Nat, h = (i + j) / 2 := ⟨_, rfl⟩
      have hm2 : ((i : Int) + j) / 2 = (h : Int) := by omega
      have hih : i ≤ h := by omega
      have hhj : h < j := by omega
      obtain ⟨t, ht⟩ : ∃ t, t = h - m := ⟨_, rfl⟩
      have HT := Lib.hid (show h = P.length + 1 + t ∧ p ≤ t ∧ t < q ∧ t < Y.length by have := HAB.out; omega)
      clear hi hj hh ht
      obtain ⟨y, hy⟩ : ∃ y, y = Y.getD t 0 := ⟨_, rfl⟩
      have HY := Lib.hid hy
      have HxN := Lib.hid (show x < N from HLT.out x (by simp))
      have HyN := Lib.hid (show y < N from HLT.out y (by rw [hy]; exact List.mem_append_right _ (List.mem_cons_of_mem _ (List.mem_append_left _ (getD_mem HT.out.2.2.2)))))
      clear hy
      obtain ⟨ek, en, es, ea, el, ep, eb, em, eq, eE, x0, x1, x2, x3, x4, x5⟩ := HRW.out.open6 HE.out (show a < _ by have := HBL.out; have := HAB.out; simp; omega) (by rw [HAB.out.1]; exact getD_mid _ _ _) HxN.out
      have HeE := Lib.hid eE
      clear eE
      obtain ⟨fk, fn, fs, fa, fl, fp, fb, fm, fq, fE, y0, y1, y2, y3, y4, y5⟩ := HRW.out.open6 HE.out (show h < _ by have := HBL.out; have := HAB.out; have := HT.out; simp; omega) (by rw [HT.out.1, getD_far _ _ _ _ _ HT.out.2.2.2]; exact HY.out.symm) HyN.out
      have HfE := Lib.hid fE
      clear fE
      have HCMP := Lib.hid (@cmp_neg (key y) (key x))
      generalize hcp : cmpS (key y) (key x) = cp at HCMP
      have HCP := Lib.hid hcp
      have HLTC := Lib.hid (show ltS (key y) (key x) = decide (cp < 0) by rw [Bool.eq_iff_iff, decide_eq_true_eq]; exact HCMP.out.symm)
      clear hcp
      have HC := Lib.hid (fun p : KidOf wr => (byKey_any (key y) (key x) (.int .i64 fk) (.int .i64 fn) (.string fs) (.slice fa fl fp) (.slice fb fm fq) (.int .i64 ek) (.int .i64 en) (.string es) (.slice ea el ep) (.slice eb em eq) p.x).mono (R' := fun e w' => e = .returned (.int .i64 cp) ∧ Below p.x.heap.size p.x w') (fun e w' h => ⟨by rw [← HCP.out]; exact h.1, h.2⟩))
      have kx0 := fun p => KidOf.cell hgz x0 p
      have ky0 := fun p => KidOf.cell hgz y0 p
      have kx1 := fun p => KidOf.cell hgz x1 p
      have ky1 := fun p => KidOf.cell hgz y1 p
      have kx2 := fun p => KidOf.cell hgz x2 p
      have ky2 := fun p => KidOf.cell hgz y2 p
      have kx3 := fun p => KidOf.cell hgz x3 p
      have ky3 := fun p => KidOf.cell hgz y3 p
      have kx4 := fun p => KidOf.cell hgz x4 p
      have ky4 := fun p => KidOf.cell hgz y4 p
      have kx5 := fun p => KidOf.cell hgz x5 p
      have ky5 := fun p => KidOf.cell hgz y5 p
      have g4 : h < len := by omega
      have g5 : (h : Int) < (len : Int) := by omega
      have g6 : (a : Int) < (len : Int) := by omega
      by_cases hneg : cp < 0
      · have hd : decide (cp < 0) = true := by simpa using hneg
        go_wp2_with fail
        refine wp_region_below (by kernel_rfl) (by kernel_rfl) ?_
        repeat (go_big_quiet_step (first | (go_at_call 37; exact Calls.below_of (HC.out _))))
        refine wpQuiet_nil ?_
        rintro wz ⟨⟨_, hbz0⟩, rfl⟩
        have hbz : Below wr.heap.size wr wz := hbz0
        have HBZ := Lib.hid hbz
        clear hbz0 hbz
        clear x0 y0 kx0 ky0 x1 y1 kx1 ky1 x2 y2 kx2 ky2 x3 y3 kx3 ky3 x4 y4 kx4 ky4 x5 y5 kx5 ky5
        go_wp2
        go_roundw
        case measure => simp [intOf]; omega
        case rel =>
          refine ⟨t + 1, q, by have := HT.out; omega, hq, by have := HT.out; have := HAB.out; go_num, by have := HIJ.out; go_num, ⟨.inr ?_, HINS.out.2⟩, HRW.out.keep HBZ.out, HBT.out.trans (butOf HBZ.out)⟩
          rw [Nat.add_sub_cancel, ← HY.out, HLTC.out]; simpa using hneg
      · have hd : decide (cp < 0) = false := by simpa using hneg
        go_wp2_with fail
        refine wp_region_below (by kernel_rfl) (by kernel_rfl) ?_
        repeat (go_big_quiet_step (first | (go_at_call 37; exact Calls.below_of (HC.out _))))
        refine wpQuiet_nil ?_
        rintro wz ⟨⟨_, hbz0⟩, rfl⟩
        have hbz : Below wr.heap.size wr wz := hbz0
        have HBZ := Lib.hid hbz
        clear hbz0 hbz
        clear x0 y0 kx0 ky0 x1 y1 kx1 ky1 x2 y2 kx2 ky2 x3 y3 kx3 ky3 x4 y4 kx4 ky4 x5 y5 kx5 ky5
        go_wp2
        go_roundw
        case measure => simp [intOf]; omega
        case rel =>
          refine ⟨p, t, HT.out.2.1, by have := HT.out; omega, by have := HIJ.out; go_num, by have := HT.out; have := HAB.out; go_num, ⟨HINS.out.1, .inr ?_⟩, HRW.out.keep HBZ.out, HBT.out.trans (butOf HBZ.out)⟩
          rw [← HY.out, HLTC.out]; simpa using hneg
    · have hij : ¬ i < j := by omega
      have HP := Lib.hid (show p = q by omega)
      clear hi hj
      have HFIN := Lib.hid (ins_right HSY.out.1 HSY.out.2 (p := p) (by omega) HINS.out.1 (by have h1 := HINS.out.2; rw [← HP.out] at h1; exact h1))
      have hi1 : 1 ≤ i := by have := HAB.out; have := HIJ.out; omega
      have hil : i ≤ len := by have := HIJ.out; omega
      go_wp2_with fail
      go_loopw [13] (fun kv wq => ∃ Ya Yb : List Nat, Ya ++ Yb = Y.take p ∧ kv = .int .i64 (P.length + Ya.length : Nat) ∧ RowOwn wq g cap enc ((P ++ Ya) ++ x :: (Yb ++ (Y.drop p ++ Q))) ∧ But g w wq) (fun k _ => i - (intOf k).toNat)
      case atStart => exact ⟨[], Y.take p, rfl, by rw [HAB.out.1]; rfl, by have := HRW.out; simp only [List.append_nil]; rw [← List.append_assoc (Y.take p), List.take_append_drop]; exact this, HBT.out⟩
      case round =>
        obtain ⟨Ya, Yb, hyy, rfl, hrow, hbut⟩ := hrel
        have HYY := Lib.hid hyy
        have HRW2 := Lib.hid hrow
        have HBT2 := Lib.hid hbut
        have hln : Ya.length + Yb.length = p := by have := congrArg List.length hyy; rw [List.length_append, List.length_take] at this; omega
        have HLN := Lib.hid hln
        clear hyy hrow hbut HBT
        have HBT := HBT2
        obtain ⟨k, hk⟩ : ∃ k, k = P.length + Ya.length := ⟨_, rfl⟩
        rw [← hk]
        have HK := Lib.hid hk
        cases Yb with
        | nil =>
          have hki : ¬ (k : Int) < (i : Int) - 1 := by have := HIJ.out; have := HAB.out; simp at hln; omega
          clear hk hln
          go_wp2
          refine bodyPost_ret (results_none rfl _ _ _) rfl ?_
          refine ⟨rfl, HBT.out, Y.take p ++ x :: Y.drop p, HFIN.out.2, HFIN.out.1, ?_⟩
          have h1 := HRW2.out
          have h2 := HYY.out
          rw [List.append_nil] at h2
          rw [h2] at h1
          simpa using h1
        | cons y Yb =>
          have hki : (k : Int) < (i : Int) - 1 := by have := HIJ.out; have := HAB.out; simp at hln; omega
          have HYM := Lib.hid (show y ∈ Y from List.mem_of_mem_take (by rw [← HYY.out]; simp))
          have HxN := Lib.hid (show x < N from HLT.out x (by simp))
          have HyN := Lib.hid (show y < N from HLT.out y (by simp [HYM.out]))
          obtain ⟨A, hA⟩ : ∃ A, A = P ++ Ya := ⟨_, rfl⟩
          obtain ⟨B, hB⟩ : ∃ B, B = Yb ++ (Y.drop p ++ Q) := ⟨_, rfl⟩
          have hrow3 : RowOwn wr g cap enc (A ++ x :: y :: B) := by have := HRW2.out; subst hA hB; simpa using this
          have hkA : k = A.length := by subst hA; simp [hk]
          have HRO3 := Lib.hid hrow3
          have HAB2 := Lib.hid (And.intro hA (And.intro hB hkA))
          have HFZ := Lib.hid (fun i => hrow3.frozen i)
          obtain ⟨k1, hk1⟩ : ∃ k1, k1 = k + 1 := ⟨_, rfl⟩
          have HK1 := Lib.hid hk1
          obtain ⟨ek, en, es, ea, el, ep, eb, em, eq, eE, x0, x1, x2, x3, x4, x5⟩ := HRO3.out.open6 HE.out (show k < _ by have := HAB2.out.2.2; simp; omega) (by rw [HAB2.out.2.2]; exact getD_mid _ _ _) HxN.out
          have HeE := Lib.hid eE
          clear eE
          obtain ⟨fk, fn, fs, fa, fl, fp, fb, fm, fq, fE, y0, y1, y2, y3, y4, y5⟩ := HRO3.out.open6 HE.out (show k1 < _ by have := HAB2.out.2.2; have := HK1.out; simp; omega) (by rw [HK1.out, HAB2.out.2.2]; exact getD_mid1 _ _ _ _) HyN.out
          have HfE := Lib.hid fE
          clear fE
          have hgz := hrow3.lt
          have g1 : (k : Int) + 1 = (k1 : Int) := by omega
          have g2 : IntKind.i64.wrap ((k : Int) + 1) = (k1 : Int) := by rw [iw_id _ (by omega)]; omega
          have g3 : k1 < len := by have := HIJ.out; omega
          have g4 : k < len := by omega
          have g5 : (k1 : Int) < (len : Int) := by omega
          have g6 : (k : Int) < (len : Int) := by omega
          have hkk : k ≠ k1 := by omega
          clear hrow3 hA hB hkA hk1 hk hln
          have fe0 := HFZ.out (k * 6 + 0)
          have ff0 := HFZ.out (k1 * 6 + 0)
          have fe1 := HFZ.out (k * 6 + 1)
          have ff1 := HFZ.out (k1 * 6 + 1)
          have fe2 := HFZ.out (k * 6 + 2)
          have ff2 := HFZ.out (k1 * 6 + 2)
          have fe3 := HFZ.out (k * 6 + 3)
          have ff3 := HFZ.out (k1 * 6 + 3)
          have fe4 := HFZ.out (k * 6 + 4)
          have ff4 := HFZ.out (k1 * 6 + 4)
          have fe5 := HFZ.out (k * 6 + 5)
          have ff5 := HFZ.out (k1 * 6 + 5)
          simp only [Nat.add_zero] at fe0 ff0
          go_wp2_with fail
          go_region
          have hW : ((((((((((((wr.setCell ⟨g, k * 6, none⟩ (.string (key y))).setCell ⟨g, k * 6 + 1, none⟩ (.int .i64 fk)).setCell ⟨g, k * 6 + 2, none⟩ (.int .i64 fn)).setCell ⟨g, k * 6 + 3, none⟩ (.string fs)).setCell ⟨g, k * 6 + 4, none⟩ (.slice fa fl fp)).setCell ⟨g, k * 6 + 5, none⟩ (.slice fb fm fq)).setCell ⟨g, k1 * 6, none⟩ (.string (key x))).setCell ⟨g, k1 * 6 + 1, none⟩ (.int .i64 ek)).setCell ⟨g, k1 * 6 + 2, none⟩ (.int .i64 en)).setCell ⟨g, k1 * 6 + 3, none⟩ (.string es)).setCell ⟨g, k1 * 6 + 4, none⟩ (.slice ea el ep)).setCell ⟨g, k1 * 6 + 5, none⟩ (.slice eb em eq)) = put6 (put6 wr g (k * 6) (enc y)) g (k1 * 6) (enc x) := by
            obtain ⟨e0, e1, e2, e3, e4, e5⟩ := HeE.out
            obtain ⟨f0, f1, f2, f3, f4, f5⟩ := HfE.out
            unfold put6; rw [e0, e1, e2, e3, e4, e5, f0, f1, f2, f3, f4, f5]
          rw [hW]
          have hrow4 : RowOwn (put6 (put6 wr g (k * 6) (enc y)) g (k1 * 6) (enc x)) g cap enc (A ++ y :: x :: B) := by
            have h1 := put6_row HRO3.out k y (by have := HAB2.out.2.2; simp; omega)
            have h2 := put6_row h1 k1 x (by have := HAB2.out.2.2; have := HK1.out; simp; omega)
            have h3 := swap1_list A B x y
            rw [← HAB2.out.2.2, ← HK1.out] at h3
            rw [h3] at h2
            exact h2
          have hbut4 := put6_but (o := k1 * 6) (c := enc x) (put6_but (o := k * 6) (c := enc y) HBT.out)
          have HR4 := Lib.hid hrow4
          have HB4 := Lib.hid hbut4
          generalize put6 (put6 wr g (k * 6) (enc y)) g (k1 * 6) (enc x) = W4 at HR4 HB4 ⊢
          clear hW hrow4 hbut4
          clear fe0 ff0 fe1 ff1 fe2 ff2 fe3 ff3 fe4 ff4 fe5 ff5
          clear x0 x1 x2 x3 x4 x5 y0 y1 y2 y3 y4 y5
          go_wp2
          go_roundw
          case measure => simp [intOf]; omega
          case rel =>
            refine ⟨Ya ++ [y], Yb, by rw [← HYY.out]; simp, by have := HK.out; have := HK1.out; simp; omega, ?_, HB4.out.drew⟩
            have h5 := HR4.out.keep ((Below.refl _ W4).drew)
            rw [HAB2.out.1, HAB2.out.2.1] at h5
            simpa using h5
end Go.Proofs.Ythcphfpkinfjoaa

namespace Go.Proofs.Ythcphfpkinfjoaa
open Go.RowKit

theorem getD_left (P X R : List Nat) (t : Nat) (ht : t < X.length) : (P ++ (X ++ R)).getD (P.length + t) 0 = X.getD t 0 := by
  rw [List.getD_eq_getElem?_getD, List.getElem?_append_right (by omega), List.getElem?_append_left (by omega), List.getD_eq_getElem?_getD]
  congr 2; omega
theorem getD_right (P X R : List Nat) (y : Nat) : (P ++ (X ++ y :: R)).getD (P.length + X.length) 0 = y := by
  simp
def InsL (key : Nat → ByteArray) (y : Nat) (X : List Nat) (p q : Nat) : Prop := (p = 0 ∨ ltS (key y) (key (X.getD (p - 1) 0)) = false) ∧ (q = X.length ∨ ltS (key y) (key (X.getD q 0)) = true)

set_option maxRecDepth 100000 in
set_option maxHeartbeats 2000000 in
theorem symMerge_B (enc : Nat → Nat → Value) (key : Nat → ByteArray) (N : Nat) (hE : Mems enc key N) (g cap len : Nat) (P X : List Nat) (y : Nat) (Q : List Nat) (w : World) (hlt : ∀ z ∈ P ++ (X ++ y :: Q), z < N) (hrow : RowOwn w g cap enc (P ++ (X ++ y :: Q))) (hlen : (P ++ (X ++ y :: Q)).length = len) (hN : len ≤ 1000000)
    (sX : X.Pairwise (sl key)) (hXY : ∀ x ∈ X, x < y) (hX1 : X.length ≠ 1) (a m b : Nat) (ha : a = P.length) (hm : m = P.length + X.length) (hb : b = P.length + X.length + 1) :
    Calls Try.prog 87 #[.slice (some ⟨g, 0, none⟩) len cap, .int .i64 (a : Nat), .int .i64 (m : Nat), .int .i64 (b : Nat), .func (.func 37) #[] #[]] w fun e w' => e = .returned (.tuple #[]) ∧ But g w w' ∧ ∃ Z, Z.Perm (X ++ [y]) ∧ Z.Pairwise (sl key) ∧ RowOwn w' g cap enc (P ++ (Z ++ Q)) := by
  have HL := Lib.hid hlen
  have HE := Lib.hid hE
  have HLT := Lib.hid hlt
  have HROW := Lib.hid hrow
  have HAB := Lib.hid (And.intro ha (And.intro hm hb))
  have HSX := Lib.hid (And.intro sX hXY)
  have hbl : P.length + X.length + 1 + Q.length = len := by simp at hlen; omega
  have HBL := Lib.hid hbl
  have hma : a ≤ m := by omega
  have hmb : m < b := by omega
  have hbm : b ≤ len := by omega
  have ha9 : a ≤ 1000000 := by omega
  have hm9 : m ≤ 1000000 := by omega
  have hb9 : b ≤ 1000000 := by omega
  have q1 : (((m : Int) - (a : Int)) == 1) = false := by simp; omega
  have q2 : (((b : Int) - (m : Int)) == 1) = true := by simp; omega
  clear hlen hE hlt hrow ha hm hb sX hXY hbl hX1
  go_enter Try.func87, Try.ntmps87
  go_wp2_with fail
  go_loopw [14, 15] (fun iv jv wr => ∃ p q : Nat, p ≤ q ∧ q ≤ X.length ∧ iv = .int .i64 (a + p : Nat) ∧ jv = .int .i64 (a + q : Nat) ∧ InsL key y X p q ∧ RowOwn wr g cap enc (P ++ (X ++ y :: Q)) ∧ But g w wr) (fun i j _ => (intOf j).toNat - (intOf i).toNat)
  case atStart => exact ⟨0, X.length, by omega, Nat.le_refl _, by simp, by have := HAB.out; congr 2; omega, ⟨.inl rfl, .inl rfl⟩, HROW.out, But.refl _ _⟩
  case round =>
    obtain ⟨p, q, hpq, hq, rfl, rfl, hins, hrow, hbut⟩ := hrel
    have HINS := Lib.hid hins
    have HRW := Lib.hid hrow
    have HBT := Lib.hid hbut
    have hgz := hrow.lt
    clear hins hrow hbut
    obtain ⟨i, hi⟩ : ∃ i, i = a + p := ⟨_, rfl⟩
    obtain ⟨j, hj⟩ : ∃ j, j = a + q := ⟨_, rfl⟩
    rw [← hi, ← hj]
    have HIJ := Lib.hid (And.intro hi hj)
    have hjl : j ≤ m := by have := HAB.out; omega
    by_cases hlt : p < q
    · have hij : i < j := by omega
      obtain ⟨h, hh⟩ : ∃ h : Nat, h = (i + j) / 2 := ⟨_, rfl⟩
      have hm2 : ((i : Int) + j) / 2 = (h : Int) := by omega
      have hih : i ≤ h := by omega
      have hhj : h < j := by omega
      obtain ⟨t, ht⟩ : ∃ t, t = h - a := ⟨_, rfl⟩
      have HT := Lib.hid (show h = P.length + t ∧ p ≤ t ∧ t < q ∧ t < X.length by have := HAB.out; omega)
      clear hi hj hh ht
      obtain ⟨x, hx⟩ : ∃ x, x = X.getD t 0 := ⟨_, rfl⟩
      have HX := Lib.hid hx
      have HyN := Lib.hid (show y < N from HLT.out y (by simp))
      have HxN := Lib.hid (show x < N from HLT.out x (by rw [hx]; exact List.mem_append_right _ (List.mem_append_left _ (getD_mem HT.out.2.2.2))))
      clear hx
      obtain ⟨ek, en, es, ea, el, ep, eb, em, eq, eE, x0, x1, x2, x3, x4, x5⟩ := HRW.out.open6 HE.out (show h < _ by have := HBL.out; have := HAB.out; have := HT.out; simp; omega) (by rw [HT.out.1, getD_left _ _ _ _ HT.out.2.2.2]; exact HX.out.symm) HxN.out
      have HeE := Lib.hid eE
      clear eE
      obtain ⟨fk, fn, fs, fa, fl, fp, fb, fm, fq, fE, y0, y1, y2, y3, y4, y5⟩ := HRW.out.open6 HE.out (show m < _ by have := HBL.out; have := HAB.out; simp; omega) (by rw [HAB.out.2.1]; exact getD_right _ _ _ _) HyN.out
      have HfE := Lib.hid fE
      clear fE
      have HCMP := Lib.hid (@cmp_neg (key y) (key x))
      generalize hcp : cmpS (key y) (key x) = cp at HCMP
      have HCP := Lib.hid hcp
      have HLTC := Lib.hid (show ltS (key y) (key x) = decide (cp < 0) by rw [Bool.eq_iff_iff, decide_eq_true_eq]; exact HCMP.out.symm)
      clear hcp
      have HC := Lib.hid (fun p : KidOf wr => (byKey_any (key y) (key x) (.int .i64 fk) (.int .i64 fn) (.string fs) (.slice fa fl fp) (.slice fb fm fq) (.int .i64 ek) (.int .i64 en) (.string es) (.slice ea el ep) (.slice eb em eq) p.x).mono (R' := fun e w' => e = .returned (.int .i64 cp) ∧ Below p.x.heap.size p.x w') (fun e w' h => ⟨by rw [← HCP.out]; exact h.1, h.2⟩))
      have kx0 := fun p => KidOf.cell hgz x0 p
      have ky0 := fun p => KidOf.cell hgz y0 p
      have kx1 := fun p => KidOf.cell hgz x1 p
      have ky1 := fun p => KidOf.cell hgz y1 p
      have kx2 := fun p => KidOf.cell hgz x2 p
      have ky2 := fun p => KidOf.cell hgz y2 p
      have kx3 := fun p => KidOf.cell hgz x3 p
      have ky3 := fun p => KidOf.cell hgz y3 p
      have kx4 := fun p => KidOf.cell hgz x4 p
      have ky4 := fun p => KidOf.cell hgz y4 p
      have kx5 := fun p => KidOf.cell hgz x5 p
      have ky5 := fun p => KidOf.cell hgz y5 p
      have g4 : h < len := by omega
      have g5 : (h : Int) < (len : Int) := by omega
      have g6 : (m : Int) < (len : Int) := by omega
      have g7 : m < len := by omega
      by_cases hneg : cp < 0
      · have hd : decide (cp < 0) = true := by simpa using hneg
        go_wp2_with fail
        refine wp_region_below (by kernel_rfl) (by kernel_rfl) ?_
        repeat (go_big_quiet_step (first | (go_at_call 37; exact Calls.below_of (HC.out _))))
        refine wpQuiet_nil ?_
        rintro wz ⟨⟨_, hbz0⟩, rfl⟩
        have hbz : Below wr.heap.size wr wz := hbz0
        have HBZ := Lib.hid hbz
        clear hbz0 hbz
        clear x0 y0 kx0 ky0 x1 y1 kx1 ky1 x2 y2 kx2 ky2 x3 y3 kx3 ky3 x4 y4 kx4 ky4 x5 y5 kx5 ky5
        go_wp2
        go_roundw
        case measure => simp [intOf]; omega
        case rel =>
          refine ⟨p, t, HT.out.2.1, by have := HT.out; omega, by have := HIJ.out; go_num, by have := HT.out; have := HAB.out; go_num, ⟨HINS.out.1, .inr ?_⟩, HRW.out.keep HBZ.out, HBT.out.trans (butOf HBZ.out)⟩
          rw [← HX.out, HLTC.out]; simpa using hneg
      · have hd : decide (cp < 0) = false := by simpa using hneg
        go_wp2_with fail
        refine wp_region_below (by kernel_rfl) (by kernel_rfl) ?_
        repeat (go_big_quiet_step (first | (go_at_call 37; exact Calls.below_of (HC.out _))))
        refine wpQuiet_nil ?_
        rintro wz ⟨⟨_, hbz0⟩, rfl⟩
        have hbz : Below wr.heap.size wr wz := hbz0
        have HBZ := Lib.hid hbz
        clear hbz0 hbz
        clear x0 y0 kx0 ky0 x1 y1 kx1 ky1 x2 y2 kx2 ky2 x3 y3 kx3 ky3 x4 y4 kx4 ky4 x5 y5 kx5 ky5
        go_wp2
        go_roundw
        case measure => simp [intOf]; omega
        case rel =>
          refine ⟨t + 1, q, by have := HT.out; omega, hq, by have := HT.out; have := HAB.out; go_num, by have := HIJ.out; go_num, ⟨.inr ?_, HINS.out.2⟩, HRW.out.keep HBZ.out, HBT.out.trans (butOf HBZ.out)⟩
          rw [Nat.add_sub_cancel, ← HX.out, HLTC.out]; simpa using hneg
    · have hij : ¬ i < j := by omega
      have HP := Lib.hid (show p = q by omega)
      clear hi hj
      have HFIN := Lib.hid (ins_left HSX.out.1 HSX.out.2 (p := p) (by omega) HINS.out.1 (by have h1 := HINS.out.2; rw [← HP.out] at h1; exact h1))
      have hil : i ≤ len := by have := HIJ.out; omega
      go_wp2_with fail
      go_loopw [17] (fun kv wq => ∃ Xa Xb : List Nat, Xa ++ Xb = X.drop p ∧ kv = .int .i64 (i + Xa.length : Nat) ∧ RowOwn wq g cap enc ((P ++ (X.take p ++ Xa)) ++ y :: (Xb ++ Q)) ∧ But g w wq) (fun k _ => (intOf k).toNat)
      case atStart => exact ⟨X.drop p, [], by simp, by rw [List.length_drop, HAB.out.2.1, HIJ.out.1, HAB.out.1]; congr 2; omega, by have := HRW.out; rw [List.take_append_drop]; simpa using this, HBT.out⟩
      case round =>
        obtain ⟨Xa, Xb, hyy, rfl, hrow, hbut⟩ := hrel
        have HYY := Lib.hid hyy
        have HRW2 := Lib.hid hrow
        have HBT2 := Lib.hid hbut
        have hln : Xa.length + Xb.length = X.length - p := by have := congrArg List.length hyy; rw [List.length_append, List.length_drop] at this; omega
        have HLN := Lib.hid hln
        clear hyy hrow hbut HBT
        have HBT := HBT2
        obtain ⟨k, hk⟩ : ∃ k, k = i + Xa.length := ⟨_, rfl⟩
        rw [← hk]
        have HK := Lib.hid hk
        rcases List.eq_nil_or_concat Xa with rfl | ⟨Xc, x, rfl⟩
        · have hki : ¬ (i : Int) < (k : Int) := by simp at hk; omega
          clear hk hln
          go_wp2
          refine bodyPost_ret (results_none rfl _ _ _) rfl ?_
          refine ⟨rfl, HBT.out, X.take p ++ y :: X.drop p, HFIN.out.2, HFIN.out.1, ?_⟩
          have h1 := HRW2.out
          have h2 := HYY.out
          rw [List.nil_append] at h2
          rw [h2] at h1
          simpa using h1
        · have hki : (i : Int) < (k : Int) := by simp at hk; omega
          have HYM := Lib.hid (show x ∈ X from List.mem_of_mem_drop (i := p) (by rw [← HYY.out]; simp))
          have HyN := Lib.hid (show y < N from HLT.out y (by simp))
          have HxN := Lib.hid (show x < N from HLT.out x (by simp [HYM.out]))
          obtain ⟨A, hA⟩ : ∃ A, A = P ++ (X.take p ++ Xc) := ⟨_, rfl⟩
          obtain ⟨B, hB⟩ : ∃ B, B = Xb ++ Q := ⟨_, rfl⟩
          have hrow3 : RowOwn wr g cap enc (A ++ x :: y :: B) := by have := HRW2.out; subst hA hB; simpa using this
          obtain ⟨k1, hk1⟩ : ∃ k1, k1 = k - 1 := ⟨_, rfl⟩
          have hkA : k1 = A.length := by have := HIJ.out; have := HAB.out; subst hA; simp at hk ⊢; omega
          have HK1 := Lib.hid (show k = k1 + 1 by omega)
          have HRO3 := Lib.hid hrow3
          have HAB2 := Lib.hid (And.intro hA (And.intro hB hkA))
          have HFZ := Lib.hid (fun i => hrow3.frozen i)
          obtain ⟨ek, en, es, ea, el, ep, eb, em, eq, eE, x0, x1, x2, x3, x4, x5⟩ := HRO3.out.open6 HE.out (show k1 < _ by have := HAB2.out.2.2; simp; omega) (by rw [HAB2.out.2.2]; exact getD_mid _ _ _) HxN.out
          have HeE := Lib.hid eE
          clear eE
          obtain ⟨fk, fn, fs, fa, fl, fp, fb, fm, fq, fE, y0, y1, y2, y3, y4, y5⟩ := HRO3.out.open6 HE.out (show k < _ by have := HAB2.out.2.2; have := HK1.out; simp; omega) (by rw [HK1.out, HAB2.out.2.2]; exact getD_mid1 _ _ _ _) HyN.out
          have HfE := Lib.hid fE
          clear fE
          have hgz := hrow3.lt
          have g1 : (k : Int) - 1 = (k1 : Int) := by omega
          have g2 : IntKind.i64.wrap ((k : Int) - 1) = (k1 : Int) := by rw [iw_id _ (by have := HBL.out; have := HLN.out; have := HIJ.out; have := HAB.out; omega)]; omega
          have g4 : k < len := by have := HBL.out; have := HLN.out; have := HIJ.out; have := HAB.out; omega
          have g3 : k1 < len := by omega
          have g5 : (k1 : Int) < (len : Int) := by omega
          have g6 : (k : Int) < (len : Int) := by omega
          have hkk : k ≠ k1 := by omega
          clear hrow3 hA hB hkA hk1 hk hln
          have ff0 := HFZ.out (k * 6 + 0)
          have fe0 := HFZ.out (k1 * 6 + 0)
          have ff1 := HFZ.out (k * 6 + 1)
          have fe1 := HFZ.out (k1 * 6 + 1)
          have ff2 := HFZ.out (k * 6 + 2)
          have fe2 := HFZ.out (k1 * 6 + 2)
          have ff3 := HFZ.out (k * 6 + 3)
          have fe3 := HFZ.out (k1 * 6 + 3)
          have ff4 := HFZ.out (k * 6 + 4)
          have fe4 := HFZ.out (k1 * 6 + 4)
          have ff5 := HFZ.out (k * 6 + 5)
          have fe5 := HFZ.out (k1 * 6 + 5)
          simp only [Nat.add_zero] at ff0 fe0
          go_wp2_with fail
          go_region
          have hW : ((((((((((((wr.setCell ⟨g, k * 6, none⟩ (.string (key x))).setCell ⟨g, k * 6 + 1, none⟩ (.int .i64 ek)).setCell ⟨g, k * 6 + 2, none⟩ (.int .i64 en)).setCell ⟨g, k * 6 + 3, none⟩ (.string es)).setCell ⟨g, k * 6 + 4, none⟩ (.slice ea el ep)).setCell ⟨g, k * 6 + 5, none⟩ (.slice eb em eq)).setCell ⟨g, k1 * 6, none⟩ (.string (key y))).setCell ⟨g, k1 * 6 + 1, none⟩ (.int .i64 fk)).setCell ⟨g, k1 * 6 + 2, none⟩ (.int .i64 fn)).setCell ⟨g, k1 * 6 + 3, none⟩ (.string fs)).setCell ⟨g, k1 * 6 + 4, none⟩ (.slice fa fl fp)).setCell ⟨g, k1 * 6 + 5, none⟩ (.slice fb fm fq)) = put6 (put6 wr g (k * 6) (enc x)) g (k1 * 6) (enc y) := by
            obtain ⟨e0, e1, e2, e3, e4, e5⟩ := HfE.out
            obtain ⟨f0, f1, f2, f3, f4, f5⟩ := HeE.out
            unfold put6; rw [e0, e1, e2, e3, e4, e5, f0, f1, f2, f3, f4, f5]
          rw [hW]
          have hrow4 : RowOwn (put6 (put6 wr g (k * 6) (enc x)) g (k1 * 6) (enc y)) g cap enc (A ++ y :: x :: B) := by
            have h1 := put6_row HRO3.out k x (by have := HAB2.out.2.2; have := HK1.out; simp; omega)
            have h2 := put6_row h1 k1 y (by have := HAB2.out.2.2; have := HK1.out; simp; omega)
            have h3 := swap_list A B y x
            rw [← HAB2.out.2.2, ← HK1.out] at h3
            rw [h3] at h2
            exact h2
          have hbut4 := put6_but (o := k1 * 6) (c := enc y) (put6_but (o := k * 6) (c := enc x) HBT.out)
          have HR4 := Lib.hid hrow4
          have HB4 := Lib.hid hbut4
          generalize put6 (put6 wr g (k * 6) (enc x)) g (k1 * 6) (enc y) = W4 at HR4 HB4 ⊢
          clear hW hrow4 hbut4
          clear ff0 fe0 ff1 fe1 ff2 fe2 ff3 fe3 ff4 fe4 ff5 fe5
          clear x0 x1 x2 x3 x4 x5 y0 y1 y2 y3 y4 y5
          go_wp2
          go_roundw
          case measure => simp [intOf]; omega
          case rel =>
            refine ⟨Xc, x :: Xb, by rw [← HYY.out]; simp, by have h1 := HK.out; have h2 := HK1.out; simp at h1 ⊢; omega, ?_, HB4.out.drew⟩
            have h5 := HR4.out.keep ((Below.refl _ W4).drew)
            rw [HAB2.out.1, HAB2.out.2.1] at h5
            simpa using h5
end Go.Proofs.Ythcphfpkinfjoaa
