/-
  The same walk for long statements: what each operation writes, looks at and waits for, as a table that is looked at once.
  Conditions: none.
-/
import Derived.Test.YtfmclkmmkceldaaUpM
namespace Go.Proofs.Ytfmclkmmkceldaa
open Go.RowKit

abbrev Row3 := Option Nat × List Nat × List Nat
/-- What an operation writes, looks at, waits for. -/
def rowOf (ops : Array Oper) (o : Oper) : Row3 := (o.dst, o.looksAt ops, (o.after.toList.filter (Region.binds .any)).map (·.on))
def memN (d : Nat) : List Nat → Bool
  | [] => false
  | x :: l => Nat.beq d x || memN d l
theorem memN_iff (d : Nat) : ∀ l : List Nat, memN d l = true ↔ d ∈ l
  | [] => by simp [memN]
  | x :: l => by rw [memN, Bool.or_eq_true, memN_iff d l, Nat.beq_eq, List.mem_cons]
def apT (r q : Row3) : Bool :=
  (match r.1 with
   | some d => !memN d q.2.1 && (match q.1 with | some e => !Nat.beq e d | none => true)
   | none => true) &&
  (match q.1 with
   | some d => !memN d r.2.1
   | none => true)
def lowN (k : Nat) : List Nat → Bool
  | [] => true
  | x :: l => Nat.blt x k && lowN k l
theorem lowN_spec {k : Nat} : ∀ {l : List Nat}, lowN k l = true → ∀ x ∈ l, x < k
  | [], _, x, hx => by cases hx
  | y :: l, h, x, hx => by
    rw [lowN, Bool.and_eq_true] at h
    rcases List.mem_cons.1 hx with rfl | hx
    · simpa [Nat.blt_eq] using h.1
    · exact lowN_spec h.2 x hx
def laterOk (k : Nat) (r : Row3) : List Row3 → Bool
  | [] => true
  | q :: l => (memN k q.2.2 || apT r q) && laterOk k r l
theorem laterOk_spec {k : Nat} {r : Row3} : ∀ {l : List Row3}, laterOk k r l = true → ∀ (j : Nat) q, l[j]? = some q → memN k q.2.2 = true ∨ apT r q = true
  | [], _, j, q, h => by simp at h
  | x :: l, h, j, q, hq => by
    rw [laterOk, Bool.and_eq_true, Bool.or_eq_true] at h
    cases j with
    | zero => obtain rfl : x = q := by simpa using hq
              exact h.1
    | succ j => exact laterOk_spec h.2 j q (by simpa using hq)
def rowsOk : Nat → List Row3 → Bool
  | _, [] => true
  | k, r :: l => lowN k r.2.2 && laterOk k r l && rowsOk (k + 1) l
theorem rowsOk_spec : ∀ {k : Nat} {l : List Row3}, rowsOk k l = true → ∀ (i : Nat) r, l[i]? = some r → (∀ x ∈ r.2.2, x < k + i) ∧ ∀ (j : Nat) q, i < j → l[j]? = some q → memN (k + i) q.2.2 = true ∨ apT r q = true
  | _, [], _, i, r, h => by simp at h
  | k, x :: l, h, i, r, hr => by
    simp only [rowsOk, Bool.and_eq_true] at h
    cases i with
    | zero =>
      obtain rfl : x = r := by simpa using hr
      refine ⟨lowN_spec h.1.1, fun j q hj hq => ?_⟩
      obtain ⟨j', rfl⟩ : ∃ j', j = j' + 1 := ⟨j - 1, by omega⟩
      exact laterOk_spec h.1.2 j' q (by simpa using hq)
    | succ i =>
      have h2 := rowsOk_spec h.2 i r (by simpa using hr)
      rw [show k + (i + 1) = k + 1 + i by omega]
      refine ⟨h2.1, fun j q hj hq => ?_⟩
      obtain ⟨j', rfl⟩ : ∃ j', j = j' + 1 := ⟨j - 1, by omega⟩
      exact h2.2 j' q (by omega) (by simpa using hq)
/-- The first so many are listed. -/
def lkT (s k : Nat) : Array Bool := ((List.range s).map fun i => Nat.blt i k).toArray
theorem lkT_getD (s k i : Nat) (b : Bool) (hi : i < s) : (lkT s k).getD i b = decide (i < k) := by
  unfold lkT
  rw [Array.getD_eq_getD_getElem?, List.getElem?_toArray, List.getElem?_map, List.getElem?_range hi]
  show Nat.blt i k = _
  rw [Bool.eq_iff_iff, Nat.blt_eq, decide_eq_true_eq]
theorem lkT_size (s k : Nat) : (lkT s k).size = s := by simp [lkT]
theorem lkT_zero (s : Nat) : lkT s 0 = Array.replicate s false := by
  apply Array.ext
  · simp [lkT]
  · intro i h1 h2
    have hi : i < s := by simpa [lkT] using h1
    have := lkT_getD s 0 i false hi
    rw [Array.getD_eq_getD_getElem?, Array.getElem?_eq_getElem h1] at this
    simpa using this
theorem lkT_set (s k : Nat) (_hk : k < s) : (lkT s k).setIfInBounds k true = lkT s (k + 1) := by
  apply Array.ext
  · simp [lkT]
  · intro i h1 h2
    have hi : i < s := by simpa [lkT] using h2
    have e1 := lkT_getD s k i false hi
    have e2 := lkT_getD s (k + 1) i false hi
    rw [Array.getD_eq_getD_getElem?, Array.getElem?_eq_getElem (by rw [lkT_size]; exact hi)] at e1
    rw [Array.getD_eq_getD_getElem?, Array.getElem?_eq_getElem h2] at e2
    simp only [Option.getD_some] at e1 e2
    rw [e2, Array.getElem_setIfInBounds (by rw [lkT_size]; exact hi), e1]
    by_cases h : k = i
    · subst h; simp
    · rw [if_neg h]
      by_cases h3 : i < k
      · simp [h3, show i < k + 1 by omega]
      · simp [h3, show ¬ i < k + 1 by omega]
theorem apT_spec {ops : Array Oper} {x y : Oper} (h : apT (rowOf ops x) (rowOf ops y) = true) : x.apart ops y = true := by
  unfold apT rowOf at h
  unfold Oper.apart
  simp only [Bool.and_eq_true] at h ⊢
  refine ⟨?_, ?_⟩
  · have h1 := h.1
    cases hd : x.dst with
    | none => rfl
    | some d =>
      rw [hd] at h1
      simp only [Bool.and_eq_true, Bool.not_eq_true'] at h1 ⊢
      refine ⟨?_, ?_⟩
      · rw [Bool.eq_false_iff]
        intro hc
        have := (memN_iff d (y.looksAt ops)).2 (by simpa using hc)
        rw [h1.1] at this
        cases this
      · cases hy : y.dst with
        | none => rfl
        | some e =>
          have h2 := h1.2
          rw [hy] at h2
          simp only [Bool.not_eq_true'] at h2
          simp only [bne_iff_ne, ne_eq, Option.some.injEq]
          intro he
          subst he
          rw [Nat.beq_refl] at h2
          cases h2
  · have h1 := h.2
    cases hd : y.dst with
    | none => rfl
    | some d =>
      rw [hd] at h1
      simp only [Bool.not_eq_true'] at h1 ⊢
      rw [Bool.eq_false_iff]
      intro hc
      have := (memN_iff d (x.looksAt ops)).2 (by simpa using hc)
      rw [h1] at this
      cases this
theorem ixB_rows {ops : Array Oper} {T : List Row3} {n g : Nat} (hT : ops.toList.map (rowOf ops) = T) (hok : rowsOk 0 T = true) (hn : n ≤ ops.size) (hend : Region.seqB .any ops g n (lkT ops.size n) = true) :
    ∀ m k, k + m = n → ixB ops n g (List.range' k m) (lkT ops.size k) = true
  | 0, k, hk => by
    obtain rfl : k = n := by omega
    exact hend
  | m + 1, k, hk => by
    have hks : k < ops.size := by omega
    have hTk : ∀ j oj, ops[j]? = some oj → T[j]? = some (rowOf ops oj) := fun j oj hj => by
      rw [← hT, List.getElem?_map, Array.getElem?_toList, hj]; rfl
    obtain ⟨ok, hokk⟩ : ∃ o, ops[k]? = some o := ⟨ops[k], Array.getElem?_eq_getElem hks⟩
    obtain ⟨hlow, hlater⟩ := rowsOk_spec hok k _ (hTk k ok hokk)
    rw [Nat.zero_add] at hlow hlater
    have hbind : ∀ (o : Oper) (e : Edge), e ∈ o.after → Region.binds .any e = true → e.on ∈ (rowOf ops o).2.2 := fun o e he hb => by
      show e.on ∈ (o.after.toList.filter (Region.binds .any)).map (·.on)
      exact List.mem_map.2 ⟨e, List.mem_filter.2 ⟨by simpa using he, hb⟩, rfl⟩
    show (decide (k < n) && (Region.ready .any ops (lkT ops.size k)).contains k && Region.free .any ops (lkT ops.size k) k && ixB ops n g (List.range' (k + 1) m) ((lkT ops.size k).setIfInBounds k true)) = true
    simp only [Bool.and_eq_true, decide_eq_true_eq]
    refine ⟨⟨⟨by omega, ?_⟩, ?_⟩, ?_⟩
    · have : k ∈ Region.ready .any ops (lkT ops.size k) := mem_ready.2 ⟨by rw [lkT_getD _ _ _ _ hks]; simp, ok, hokk, fun e he hb => by
        have h1 := hlow _ (hbind ok e he hb)
        rw [lkT_getD _ _ _ _ (by omega)]
        simpa using h1⟩
      simpa using this
    · unfold Region.free
      rw [hokk]
      simp only [List.all_eq_true, List.mem_range, Bool.or_eq_true, beq_iff_eq]
      intro j hj
      by_cases hjk : j ≤ k
      · left
        by_cases he : j = k
        · exact .inl he
        · right
          rw [lkT_getD _ _ _ _ hj]
          simp; omega
      · right
        obtain ⟨oj, hoj⟩ : ∃ o, ops[j]? = some o := ⟨ops[j], Array.getElem?_eq_getElem hj⟩
        rw [hoj]
        simp only [Bool.or_eq_true]
        rcases hlater j _ (by omega) (hTk j oj hoj) with h1 | h1
        · left
          have h2 := (memN_iff _ _).1 h1
          obtain ⟨e, he, hon⟩ := List.mem_map.1 (show k ∈ (oj.after.toList.filter (Region.binds .any)).map (·.on) from h2)
          obtain ⟨he1, he2⟩ := List.mem_filter.1 he
          rw [Array.any_eq_true']
          exact ⟨e, by simpa using he1, by simp [he2, hon]⟩
        · exact .inr (apT_spec h1)
    · rw [lkT_set _ _ hks]
      exact ixB_rows hT hok hn hend m (k + 1) (by omega)
def upTB (ops : Array Oper) (n : Nat) : Bool :=
  Region.noSelect ops && decide (n < ops.size) && wB ops n n && Region.chainB .any ops n && Region.seqB .any ops (ops.size - n) n (lkT ops.size n)
theorem upB_rows {ops : Array Oper} {T : List Row3} {n : Nat} (h : upTB ops n = true) (hT : ops.toList.map (rowOf ops) = T) (hok : rowsOk 0 T = true) : upB ops n n (List.range n) = true := by
  simp only [upTB, Bool.and_eq_true, decide_eq_true_eq] at h
  obtain ⟨⟨⟨⟨h1, h2⟩, h3⟩, h4⟩, h5⟩ := h
  unfold upB
  simp only [Bool.and_eq_true, decide_eq_true_eq]
  refine ⟨⟨⟨⟨⟨h1, h2⟩, h3⟩, h4⟩, by simp [lateB]⟩, ?_⟩
  rw [← lkT_zero, List.range_eq_range']
  exact ixB_rows hT hok (by omega) h5 n 0 (by omega)
/-- A long statement of calls and reads, whose last operations come in their order. -/
theorem wp_region_upT {P : Program} {id : Nat} {Q : Exit → Act → World → Prop} {a : Act} {w : World} {l : List Oper} (n : Nat) (T : List Row3) (hm : P.follows .mixedOrders = true) (hB : upTB l.toArray n = true) (hT : l.map (rowOf l.toArray) = T) (hok : rowsOk 0 T = true) (hQ : ∀ c (a : Act) dst v w, Q (.panic c) (a.put dst v) w → Q (.panic c) a w)
    (hw : upW P l.toArray w (fun a' => ∀ w', Below w.heap.size w w' → wpList P l.toArray Q (l.drop n) a' w') (l.take n) a) : (Code.region id l.toArray true).wp P Q a w :=
  wp_region_up n n hm (upB_rows hB hT hok) hQ hw
end Go.Proofs.Ytfmclkmmkceldaa
