/-
  What Quote of package utf answers.
  Conditions: the string is short enough that its quote fits Go's own bound on a slice of bytes.
-/
import Derived.Test.YtomdkkmfgeajgaaUtfG
namespace Go.Proofs.Ytomdkkmfgeajgaa
open Go.RowKit

def uQuote (l : List UInt8) : List UInt8 := 34 :: l.flatMap uEnc ++ [34]
def sliceLen : Value → Nat | .slice _ n _ => n | _ => 0
theorem Owns.len {w : World} {B : Nat} {v : Value} {xs : List UInt8} (h : Owns w B v xs) : sliceLen v = xs.length := by
  rcases h.2 with ⟨rfl, hn⟩ | ⟨g, cap, cur, rfl, _⟩
  · rw [hn]; rfl
  · rfl
theorem uEnc_len (c : UInt8) : 1 ≤ (uEnc c).length ∧ (uEnc c).length ≤ 6 := by
  unfold uEnc; repeat' split
  all_goals simp

def QRel (s : ByteArray) (w : World) (M : Nat) (o : Value) (c : Int) (ok : Bool) (wr : World) : Prop :=
  M + 1 ≤ wr.heap.size ∧ Below w.heap.size w wr ∧ ∃ xs l, Owns wr (M + 1) o xs ∧ xs ++ l.flatMap uEnc = 34 :: s.data.toList.flatMap uEnc ∧ xs.length + 6 * l.length ≤ 1 + 6 * s.size ∧ Head M s l c ok wr

def Quoted (s : ByteArray) (w : World) (e : Ending) (w' : World) : Prop :=
  e = .returned (.tuple #[.string ⟨(uQuote s.data.toList).toArray⟩, .int .i64 0]) ∧ Below w.heap.size w w'

set_option maxRecDepth 100000 in
set_option maxHeartbeats 400000 in
theorem quote_no (s : ByteArray) (w : World) (hs : s.size ≤ maxLen) (h : (uRunes s.data.toList).isSome = false) :
    Calls Try.prog 10 #[.string s] w fun e w' => e = .returned (.tuple #[.string ⟨#[]⟩, .int .i64 2]) ∧ Below w.heap.size w w' := by
  have HV := Lib.hid h
  clear h
  go_enter Try.func10, Try.ntmps10
  go_wp2_with fail
  refine (good_any s _ false hs HV.out).mono ?_
  rintro e w1 ⟨rfl, hbel⟩
  go_wp2
  go_ret2
  exact ⟨rfl, hbel⟩

/-- A new row of bytes that is the last block. -/
theorem Owns.new (w : World) (ys : List UInt8) (n : Nat) (hn : ys.length = n) (h : n ≤ maxLen) : Owns (w.alloc (.cells (byteVals ys).toArray 5)) w.heap.size (.slice (some ⟨w.heap.size, 0, none⟩) n n) ys := by
  subst hn
  have e : (byteVals ys).length = ys.length := by simp [byteVals]
  refine ⟨by rw [e, Nat.mul_one], Or.inr ⟨w.heap.size, ys.length, (byteVals ys).toArray, rfl, Nat.le_refl _, ?_, Nat.le_refl _, h, by simp [e], ?_⟩⟩
  · show (w.heap.push _)[w.heap.size]? = _
    simp
  · rw [Nat.mul_one, List.take_of_length_le (by simp [e])]

theorem q_step {s : ByteArray} {w wr w1 w2 : World} {M : Nat} {o' : Value} {c' : Int} {ok' : Bool} {xs l : List UInt8} {x : UInt8} (hM : w.heap.size ≤ M) (h1 : M + 1 ≤ wr.heap.size) (h2 : Below w.heap.size w wr)
    (h3 : xs ++ (x :: l).flatMap uEnc = 34 :: s.data.toList.flatMap uEnc) (h4 : xs.length + 6 * (x :: l).length ≤ 1 + 6 * s.size) (h5 : Owns w1 (M + 1) o' (xs ++ uEnc x)) (h6 : Below (M + 1) wr w1)
    (h7 : Only M w1 w2) (h8 : Head M s l c' ok' w2) : QRel s w M o' c' ok' w2 := by
  have hl := uEnc_len x
  refine ⟨?_, (h2.trans (h6.mono (Nat.le_succ_of_le hM))).trans (h7.below hM), xs ++ uEnc x, l, h5.only h7 (Nat.lt_succ_self _), ?_, ?_, h8⟩
  · rw [h7.size]; exact Nat.le_trans h1 h6.size
  · rw [← h3]; simp [List.flatMap_cons, List.append_assoc]
  · simp only [List.length_append, List.length_cons] at h4 ⊢; omega

set_option maxRecDepth 100000 in
set_option maxHeartbeats 1000000 in
theorem quote_yes (s : ByteArray) (w : World) (hs : 6 * s.size + 8 ≤ 140737488355328) (h : (uRunes s.data.toList).isSome = true) :
    Calls Try.prog 10 #[.string s] w (Quoted s w) := by
  have hs' : s.size ≤ maxLen := by unfold maxLen; omega
  obtain ⟨i0, hi, hz0, hz1, hz2⟩ := info_parts info_u8
  have HV := Lib.hid h
  clear h
  go_enter Try.func10, Try.ntmps10
  go_wp2_with fail
  refine (good_any s _ true hs' HV.out).mono ?_
  rintro e w1 ⟨rfl, hbel⟩
  clear HV
  go_wp2_with fail
  have hcN : Cur ((w1.alloc (.cells #[.string s, .int .i64 0] 37)).alloc (.cells #[.int .u8 34] 5)) w1.heap.size s s.data.toList :=
    (Cur.new (w := w1) (s := s)).below (B := w1.heap.size + 1) ((Below.refl _ _).alloc (by simp) _) (Nat.lt_succ_self _)
  have hoN : Owns ((w1.alloc (.cells #[.string s, .int .i64 0] 37)).alloc (.cells #[.int .u8 34] 5)) (w1.heap.size + 1) (.slice (some ⟨w1.heap.size + 1, 0, none⟩) 1 1) [34] := by
    have := Owns.new (w1.alloc (.cells #[.string s, .int .i64 0] 37)) [34] 1 rfl (by decide)
    rw [World.size_alloc] at this
    exact this
  have hbN : Below w1.heap.size w1 ((w1.alloc (.cells #[.string s, .int .i64 0] 37)).alloc (.cells #[.int .u8 34] 5)) :=
    ((Below.refl _ _).alloc (Nat.le_refl _) _).alloc (by simp) _
  have hzN : w1.heap.size + 1 ≤ ((w1.alloc (.cells #[.string s, .int .i64 0] 37)).alloc (.cells #[.int .u8 34] 5)).heap.size := by simp
  generalize (w1.alloc (.cells #[.string s, .int .i64 0] 37)).alloc (.cells #[.int .u8 34] 5) = W0 at hcN hoN hbN hzN ⊢
  have hbW : Below w.heap.size w W0 := hbel.trans (hbN.mono hbel.size)
  have hM : w.heap.size ≤ w1.heap.size := hbel.size
  clear hbel
  generalize w1.heap.size = M at hcN hoN hbN hzN hM ⊢
  refine (next_got M s _ _ hs' hcN).mono ?_
  rintro e w2 ⟨c, ok, rfl, hh, honly⟩
  have R : QRel s w M (.slice (some ⟨M + 1, 0, none⟩) 1 1) c ok w2 := ⟨by rw [honly.size]; exact hzN, hbW.trans (honly.below hM), [34], s.data.toList, hoN.only honly (Nat.lt_succ_self _), rfl, by rw [Array.length_toList]; show 1 + 6 * s.size ≤ _; omega, hh⟩
  clear hh honly hcN hbN hzN hoN hbW
  go_wp2_with fail
  go_loopw [6, 7, 8] (fun o c ok wr => ∃ (cv : Int) (okv : Bool), c = .int .u8 cv ∧ ok = .bool okv ∧ QRel s w M o cv okv wr) (fun o _ _ _ => 6 * s.size + 2 - sliceLen o)
  case atStart => exact ⟨c, ok, rfl, rfl, R⟩
  case round =>
    clear R
    obtain ⟨cv, okv, rfl, rfl, hz, hbel, xs, l, hown, hcat, hlen, hhead⟩ := hrel
    have HOL := Lib.hid hown.len
    rcases hhead with ⟨rfl, rfl, rfl⟩ | ⟨x, t, rfl, rfl, rfl, hcur⟩
    · have HQ := Lib.hid (show uQuote s.data.toList = xs ++ [34] by simp only [uQuote, ← hcat]; simp)
      have hlen' : xs.length ≤ 1 + 6 * s.size := by simpa using hlen
      clear hcat hlen
      go_wp2_with (first
        | (at_builtin; refine wpList_append_own _ rfl _ _ 39 rfl (M + 1) 5 i0 (.int .u8 0) 1 1 Try.underlying39 hi hz0 hz1 hz2 rfl (by decide) _ _ _ rfl (hown.alloc _) ⟨wr.heap.size, 0, none⟩ 1 1 (byteVals [34]) rfl rfl (news_at wr [34]) (news_one [34]) (by unfold maxLen; omega) (by omega) (by simp; omega) ?_))
      intro v' w' hown' hgrow hne
      have h1 := Owns.of_append hown' rfl HQ.out
      have h2 := hbel.trans ((Below.of_append hz hown hgrow).mono (Nat.le_succ_of_le hM))
      have hstr := h1.toStr
      clear hown' hgrow hne
      go_wp2
      go_ret2
      exact ⟨rfl, h2⟩
    · have HC := Lib.hid hcat
      have HL := Lib.hid hlen
      simp only [List.length_cons] at hlen
      have hlx : xs.length + 6 ≤ 140737488355328 := by omega
      clear hcat hlen
      go_wp2_with fail
      refine (append_any (M + 1) u6 xs x _ hz hown hlx).mono ?_
      rintro e w3 ⟨v', rfl, hown3, hbel3⟩
      go_wp2_with fail
      refine (next_got M s t _ hs' (hcur.below hbel3 (Nat.lt_succ_self _))).mono ?_
      rintro e w4 ⟨c4, ok4, rfl, hh4, honly4⟩
      have R4 := q_step hM hz hbel HC.out HL.out hown3 hbel3 honly4 hh4
      have HN := Lib.hid hown3.len
      have hx6 := uEnc_len x
      clear hh4 honly4
      go_wp2
      go_roundw
      case rel => exact ⟨c4, ok4, rfl, rfl, R4⟩
      case measure =>
        have e1 := HOL.out
        have e2 := HN.out
        have e3 := HL.out
        rw [List.length_append] at e2
        simp only [List.length_cons] at e3
        simp [e1, e2]
        omega

end Go.Proofs.Ytomdkkmfgeajgaa
