/-
  The answers of package utf in a form for callers; what 'awake' of the statements' package answers: true.
  Conditions: lengths as said in each.
-/
import Derived.Test.YtomdkkmfgeajgaaUtfU
namespace Go.Proofs.Ytomdkkmfgeajgaa
open Go.RowKit

theorem bytes_eq {a : ByteArray} {l : List UInt8} (h : a.data.toList = l) : (⟨l.toArray⟩ : ByteArray) = a := by
  subst h; cases a; simp

theorem quote_at (s q : ByteArray) (w : World) (hs : 6 * s.size + 8 ≤ 140737488355328) (h : (uRunes s.data.toList).isSome = true) (hq : q.data.toList = uQuote s.data.toList) :
    Calls Try.prog 10 #[.string s] w fun e w' => e = .returned (.tuple #[.string q, .int .i64 0]) ∧ Below w.heap.size w w' := by
  refine (quote_yes s w hs h).mono ?_
  rintro e w' ⟨rfl, hb⟩
  rw [bytes_eq hq]
  exact ⟨rfl, hb⟩
theorem unquote_at (s o : ByteArray) (n : Nat) (w : World) (hs : 4 * s.size + 8 ≤ 140737488355328) (h : uUnq s.data.toList = some (o.data.toList, n)) :
    Calls Try.prog 13 #[.string s] w fun e w' => e = .returned (.tuple #[.string o, .int .i64 (n : Int), .int .i64 0]) ∧ Below w.heap.size w w' := by
  refine (unquote_any s w hs).mono ?_
  rintro e w' ⟨hb, h1⟩
  rw [h] at h1
  refine ⟨?_, hb⟩
  rw [h1, bytes_eq rfl]
theorem unquote_no (s : ByteArray) (w : World) (hs : 4 * s.size + 8 ≤ 140737488355328) (h : uUnq s.data.toList = none) :
    Calls Try.prog 13 #[.string s] w fun e w' => e = .returned (.tuple #[.string ⟨#[]⟩, .int .i64 0, .int .i64 2]) ∧ Below w.heap.size w w' := by
  refine (unquote_any s w hs).mono ?_
  rintro e w' ⟨hb, h1⟩
  rw [h] at h1
  exact ⟨h1, hb⟩

set_option maxRecDepth 100000 in
set_option maxHeartbeats 400000 in
theorem awake_true (w : World) : Calls Try.prog 9 #[] w fun e w' => e = .returned (.bool true) ∧ Below w.heap.size w w' := by
  go_enter Try.func9, Try.ntmps9
  go_wp2_with fail
  refine (quote_at ⟨#[97, 34, 98]⟩ ⟨#[34, 97, 92, 34, 98, 34]⟩ _ (by decide) (by decide) (by decide)).mono ?_
  rintro e w1 ⟨rfl, hb1⟩
  go_wp2_with fail
  refine (unquote_at ⟨#[34, 97, 92, 34, 98, 34]⟩ ⟨#[97, 34, 98]⟩ 6 _ (by decide) (by decide)).mono ?_
  rintro e w2 ⟨rfl, hb2⟩
  go_wp2_with fail
  refine (good_any ⟨#[97, 34, 98]⟩ _ true (by decide) (by decide)).mono ?_
  rintro e w3 ⟨rfl, hb3⟩
  go_wp2
  go_ret
  exact ⟨rfl, (hb1.trans (hb2.mono hb1.size)).trans (hb3.mono (Nat.le_trans hb1.size hb2.size))⟩

end Go.Proofs.Ytomdkkmfgeajgaa
