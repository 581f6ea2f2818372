/-
  Arrays of words and of bytes: whether they are the same.
  Conditions: none.
-/
import Derived.Test.YtfmclkmmkceldaaFdW
import Derived.Laws.StructEq
import Derived.ChangeKeysEq
namespace Go.Proofs.Ytfmclkmmkceldaa
open Go.RowKit

theorem part_1 (e : TypeId) (cs : Array Value) (i : Nat) (v : Value) (w : World) (ha : (isAgg e).run Try.prog w = .ok false w) (hv : cs[i * 1]? = some v) : (part e cs (i * 1)).run Try.prog w = .ok v w := by
  simp only [part, Sem.run_bind, ha, Result.andThen_ok, Bool.false_eq_true, if_false, hv]
  rfl
/-- Two rows of numbers, element by element. -/
theorem eqItems_row (w : World) (d : Nat) (e : TypeId) (k : IntKind) (hu : Try.prog.underlying e = some (.int k)) (ha : (isAgg e).run Try.prog w = .ok false w) (f g : Nat → Int) (xs ys : Array Value) : ∀ (is : List Nat), (∀ i ∈ is, xs[i * 1]? = some (.int k (f i)) ∧ ys[i * 1]? = some (.int k (g i))) →
    (Op.eqItems (d + 1) e 1 xs ys is).run Try.prog w = .ok (is.all fun i => f i == g i) w
  | [], _ => by simp [Op.eqItems]
  | i :: is, h => by
    obtain ⟨h1, h2⟩ := h i (by simp)
    simp only [Op.eqItems, Sem.run_bind, part_1 e xs i _ w ha h1, part_1 e ys i _ w ha h2, Result.andThen_ok, run_equalIn_int w d e k k _ _ hu]
    cases hb : (f i == g i) with
    | true =>
      simp only [Bool.not_true, Bool.false_eq_true, if_false, List.all_cons, hb, Bool.true_and]
      exact eqItems_row w d e k hu ha f g xs ys is (fun j hj => h j (by simp [hj]))
    | false => simp [hb]
theorem u64_u (w : World) : (isAgg 29).run Try.prog w = .ok false w := by kernel_rfl
theorem u8_u (w : World) : (isAgg 5).run Try.prog w = .ok false w := by kernel_rfl
theorem info_of (t : TypeId) (h : (Try.prog.info? t).isSome = true) : ∃ i, Try.prog.info? t = some i := Option.isSome_iff_exists.1 h
theorem nums_get (k : IntKind) (l : List Nat) (i : Nat) (h : i < l.length) : (nums k l)[i]? = some (.int k ((l.getD i 0 : Nat) : Int)) := by
  simp [nums, List.getElem?_eq_getElem h, List.getD_eq_getElem?_getD]
theorem byteVals_get (l : List UInt8) (i : Nat) (h : i < l.length) : (byteVals l).toArray[i]? = some (.int .u8 ((l.getD i 0).toNat : Int)) := by
  simp [byteVals, List.getElem?_eq_getElem h, List.getD_eq_getElem?_getD]
set_option maxRecDepth 100000 in
/-- Two numbers of four words. -/
theorem eqW (t : TypeId) (hu : Try.prog.underlying t = some (.array 4 29)) (a b : Nat) (ha : a < 115792089237316195423570985008687907853269984665640564039457584007913129639936) (hb : b < 115792089237316195423570985008687907853269984665640564039457584007913129639936) (w : World) :
    (Op.equalIn 10000 t (.agg (nums .u64 (w4 a))) (.agg (nums .u64 (w4 b)))).run Try.prog w = .ok (decide (a = b)) w := by
  obtain ⟨i0, hi⟩ := info_of 29 (by kernel_rfl)
  rw [run_equalIn_array w 9999 _ _ hu hi, show Try.prog.cellsOf 29 = 1 by kernel_rfl]
  rw [eqItems_row w 9998 29 .u64 Try.underlying29 (u64_u w) (fun i => (((w4 a).getD i 0 : Nat) : Int)) (fun i => (((w4 b).getD i 0 : Nat) : Int)) _ _ _ (fun i hi => by
    have h4 : i < 4 := by simpa using hi
    rw [Nat.mul_one]
    exact ⟨nums_get .u64 _ i (by rw [w4_len]; exact h4), nums_get .u64 _ i (by rw [w4_len]; exact h4)⟩)]
  congr 1
  rw [Bool.eq_iff_iff, decide_eq_true_eq, List.all_eq_true]
  constructor
  · intro h
    refine w4_inj ha hb ?_
    apply List.ext_getElem?
    intro i
    by_cases h4 : i < 4
    · have := h i (by simpa using h4)
      have h5 : (w4 a).getD i 0 = (w4 b).getD i 0 := Int.ofNat.inj (beq_iff_eq.1 this)
      rw [List.getD_eq_getElem?_getD, List.getD_eq_getElem?_getD] at h5
      rw [List.getElem?_eq_getElem (by rw [w4_len]; exact h4), List.getElem?_eq_getElem (by rw [w4_len]; exact h4)] at h5 ⊢
      simpa using h5
    · rw [List.getElem?_eq_none (by rw [w4_len]; omega), List.getElem?_eq_none (by rw [w4_len]; omega)]
  · rintro rfl i _
    simp
set_option maxRecDepth 100000 in
/-- Two rows of bytes of one length. -/
theorem eqB (t : TypeId) (n : Nat) (hu : Try.prog.underlying t = some (.array n 5)) (l m : List UInt8) (hl : l.length = n) (hm : m.length = n) (w : World) :
    (Op.equalIn 10000 t (.agg (byteVals l).toArray) (.agg (byteVals m).toArray)).run Try.prog w = .ok (decide (l = m)) w := by
  obtain ⟨i0, hi⟩ := info_of 5 (by kernel_rfl)
  rw [run_equalIn_array w 9999 _ _ hu hi, show Try.prog.cellsOf 5 = 1 by kernel_rfl]
  rw [eqItems_row w 9998 5 .u8 Try.underlying5 (u8_u w) (fun i => ((l.getD i 0).toNat : Int)) (fun i => ((m.getD i 0).toNat : Int)) _ _ _ (fun i hi => by
    have h4 : i < n := by simpa using hi
    rw [Nat.mul_one]
    exact ⟨byteVals_get l i (by rw [hl]; exact h4), byteVals_get m i (by rw [hm]; exact h4)⟩)]
  congr 1
  rw [Bool.eq_iff_iff, decide_eq_true_eq, List.all_eq_true]
  constructor
  · intro h
    apply List.ext_getElem?
    intro i
    by_cases h4 : i < n
    · have := h i (by simpa using h4)
      have h5 : (l.getD i 0).toNat = (m.getD i 0).toNat := Int.ofNat.inj (beq_iff_eq.1 this)
      have h6 := UInt8.toNat_inj.1 h5
      rw [List.getD_eq_getElem?_getD, List.getD_eq_getElem?_getD] at h6
      rw [List.getElem?_eq_getElem (by rw [hl]; exact h4), List.getElem?_eq_getElem (by rw [hm]; exact h4)] at h6 ⊢
      simpa using h6
    · rw [List.getElem?_eq_none (by rw [hl]; omega), List.getElem?_eq_none (by rw [hm]; omega)]
  · rintro rfl i _
    simp
end Go.Proofs.Ytfmclkmmkceldaa
