/-
  What Quote of package utf answers.
  Conditions: the string is short enough that its quote fits Go's own bound on a slice of bytes.
-/
import Derived.Test.YthcphfpkinfjoaaUtfG
namespace Go.Proofs.Ythcphfpkinfjoaa
open Go.RowKit

def uQuote (l : List UInt8) : List UInt8 := 34 :: l.flatMap uEnc ++ [34]
def sliceLen : Value → Nat | .slice _ n _ => n | _ => 0
theorem Owns.len {w : World} {B : Nat} {v : Value} {xs : List UInt8} (h : Owns w B v xs) : sliceLen v = xs.length := by
  rcases h.2 with ⟨rfl, hn⟩ | ⟨g, cap, cur, rfl, _⟩
  · rw [hn]; rfl
  · rfl
theorem uEnc_len (c : UInt8) : 1 ≤ (uEnc c).length ∧ (uEnc c).length ≤ 6 := by
  unfold uEnc; repeat' split
  all_goals simp

def QRel (s : ByteArray) (w : World) (M : Nat) (o : Value) (c : Int) (ok : Bool) (wr : World) : Prop :=
  M + 1 ≤ wr.heap.size ∧ Below w.heap.size w wr ∧ ∃ xs l, Owns wr (M + 1) o xs ∧ xs ++ l.flatMap uEnc = 34 :: s.data.toList.flatMap uEnc ∧ xs.length + 6 * l.length ≤ 1 + 6 * s.size ∧ Head M s l c ok wr

def Quoted (s : ByteArray) (w : World) (e : Ending) (w' : World) : Prop :=
  e = .returned (.tuple #[.string ⟨(uQuote s.data.toList).toArray⟩, .int .i64 0]) ∧ Below w.heap.size w w'

/-- A new row of bytes that is the last block. -/
theorem Owns.new (w : World) (ys : List UInt8) (n : Nat) (hn : ys.length = n) (h : n ≤ maxLen) : Owns (w.alloc (.cells (byteVals ys).toArray 5)) w.heap.size (.slice (some ⟨w.heap.size, 0, none⟩) n n) ys := by
  subst hn
  have e : (byteVals ys).length = ys.length := by simp [byteVals]
  refine ⟨by rw [e, Nat.mul_one], Or.inr ⟨w.heap.size, ys.length, (byteVals ys).toArray, rfl, Nat.le_refl _, ?_, Nat.le_refl _, h, by simp [e], ?_⟩⟩
  · show (w.heap.push _)[w.heap.size]? = _
    simp
  · rw [Nat.mul_one, List.take_of_length_le (by simp [e])]

theorem q_step {s : ByteArray} {w wr w1 w2 : World} {M : Nat} {o' : Value} {c' : Int} {ok' : Bool} {xs l : List UInt8} {x : UInt8} (hM : w.heap.size ≤ M) (h1 : M + 1 ≤ wr.heap.size) (h2 : Below w.heap.size w wr)
    (h3 : xs ++ (x :: l).flatMap uEnc = 34 :: s.data.toList.flatMap uEnc) (h4 : xs.length + 6 * (x :: l).length ≤ 1 + 6 * s.size) (h5 : Owns w1 (M + 1) o' (xs ++ uEnc x)) (h6 : Below (M + 1) wr w1)
    (h7 : Only M w1 w2) (h8 : Head M s l c' ok' w2) : QRel s w M o' c' ok' w2 := by
  have hl := uEnc_len x
  refine ⟨?_, (h2.trans (h6.mono (Nat.le_succ_of_le hM))).trans (h7.below hM), xs ++ uEnc x, l, h5.only h7 (Nat.lt_succ_self _), ?_, ?_, h8⟩
  · rw [h7.size]; exact Nat.le_trans h1 h6.size
  · rw [← h3]; simp [List.flatMap_cons, List.append_assoc]
  · simp only [List.length_append, List.length_cons] at h4 ⊢; omega

end Go.Proofs.Ythcphfpkinfjoaa

