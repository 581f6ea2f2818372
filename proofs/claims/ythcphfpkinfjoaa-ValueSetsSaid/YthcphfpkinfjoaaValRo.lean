/-
  Go's exchange of two runs of members, in place.
  Go's rotation of two runs of members that follow one another, in place.
  Conditions: none.
-/
import Derived.Test.YthcphfpkinfjoaaValO
namespace Go.Proofs.Ythcphfpkinfjoaa
open Go.RowKit

theorem swap2_list (A B C : List Nat) (x y : Nat) : ((A ++ x :: (B ++ y :: C)).set A.length y).set (A.length + 1 + B.length) x = A ++ y :: (B ++ x :: C) := by
  induction A with
  | nil =>
    have h1 : ∀ B : List Nat, (B ++ y :: C).set B.length x = B ++ x :: C := by
      intro B; induction B with
      | nil => rfl
      | cons b B ih => simp only [List.cons_append, List.length_cons, List.set_cons_succ, ih]
    simp only [List.nil_append, List.length_nil, Nat.zero_add, List.set_cons_zero]
    rw [Nat.add_comm, List.set_cons_succ, h1]
  | cons z A ih =>
    have e : (z :: A).length + 1 + B.length = (A.length + 1 + B.length) + 1 := by simp; omega
    rw [e]
    simp only [List.cons_append, List.length_cons, List.set_cons_succ]
    rw [ih]
theorem get2_a (A B C : List Nat) (x y : Nat) (h : A.length < (A ++ x :: (B ++ y :: C)).length) : (A ++ x :: (B ++ y :: C))[A.length] = x := by simp
theorem get2_b (A B C : List Nat) (x y : Nat) (h : A.length + 1 + B.length < (A ++ x :: (B ++ y :: C)).length) : (A ++ x :: (B ++ y :: C))[A.length + 1 + B.length] = y := by
  have h2 : (A ++ x :: (B ++ y :: C)) = (A ++ x :: B) ++ y :: C := by simp
  have h3 : A.length + 1 + B.length = (A ++ x :: B).length := by simp; omega
  simp only [h2, h3]
  simp

set_option maxRecDepth 100000 in
set_option maxHeartbeats 2000000 in
theorem swapRange_any (enc : Nat → Nat → Value) (key : Nat → ByteArray) (N : Nat) (hE : Mems enc key N) (g cap : Nat) (P X M Y Q : List Nat) (w : World) (hlt : ∀ z ∈ P ++ (X ++ (M ++ (Y ++ Q))), z < N) (hrow : RowOwn w g cap enc (P ++ (X ++ (M ++ (Y ++ Q))))) (hN : (P ++ (X ++ (M ++ (Y ++ Q)))).length ≤ 1000000)
    (hXY : X.length = Y.length) (av bv nv : Int) (ha : av = P.length) (hb : bv = P.length + X.length + M.length) (hn : nv = X.length) (fv : Value) :
    Calls Try.prog 120 #[.slice (some ⟨g, 0, none⟩) (P ++ (X ++ (M ++ (Y ++ Q)))).length cap, .int .i64 av, .int .i64 bv, .int .i64 nv, fv] w fun e w' => e = .returned (.tuple #[]) ∧ But g w w' ∧ RowOwn w' g cap enc (P ++ (Y ++ (M ++ (X ++ Q)))) := by
  generalize hlen : (P ++ (X ++ (M ++ (Y ++ Q)))).length = len at hN
  have HL := Lib.hid hlen
  have HE := Lib.hid hE
  have HLT := Lib.hid hlt
  have HROW := Lib.hid hrow
  have HAB := Lib.hid (And.intro ha (And.intro hb (And.intro hn hXY)))
  have hav : 0 ≤ av ∧ av ≤ 1000000 ∧ 0 ≤ bv ∧ bv ≤ 1000000 ∧ 0 ≤ nv ∧ nv ≤ 1000000 := by simp at hlen; omega
  obtain ⟨hav0, hav1, hbv0, hbv1, hnv0, hnv1⟩ := hav
  clear hlen hE hlt hrow ha hb hn hXY
  go_enter Try.func120, Try.ntmps120
  go_wp2_with fail
  go_loopw [10] (fun iv wr => ∃ (X1 X2 Y1 Y2 : List Nat), X = X1 ++ X2 ∧ Y = Y1 ++ Y2 ∧ X1.length = Y1.length ∧ iv = .int .i64 (X1.length : Nat) ∧ RowOwn wr g cap enc (P ++ ((Y1 ++ X2) ++ (M ++ ((X1 ++ Y2) ++ Q)))) ∧ But g w wr) (fun i _ => 1000000 - (intOf i).toNat)
  case atStart => exact ⟨[], X, [], Y, rfl, rfl, rfl, rfl, by simpa using HROW.out, But.refl _ _⟩
  case round =>
    obtain ⟨X1, X2, Y1, Y2, hX, hY, hl1, rfl, hrow, hbut⟩ := hrel
    have HX := Lib.hid hX
    have HY := Lib.hid hY
    have HL1 := Lib.hid hl1
    have HRW := Lib.hid hrow
    have HBT := Lib.hid hbut
    clear hX hY hl1 hrow hbut
    have hl2 : X2.length = Y2.length := by
      have h1 := HAB.out.2.2.2; rw [HX.out, HY.out] at h1; have := HL1.out; simp at h1; omega
    have HXL := Lib.hid (show X.length = X1.length + X2.length by rw [HX.out]; simp)
    cases X2 with
    | nil =>
      cases Y2 with
      | cons y Y2 => simp at hl2
      | nil =>
        have hib : ¬ ((X1.length : Nat) : Int) < nv := by have h1 := HAB.out.2.2.1; have h2 := HXL.out; simp at h2; omega
        generalize X1.length = i at hib
        go_wp2
        go_end0
        exact ⟨rfl, HBT.out, by have h := HRW.out; have h1 := HX.out; have h2 := HY.out; simp at h1 h2 h; subst h1 h2; exact h⟩
    | cons x X2 =>
      cases Y2 with
      | nil => simp at hl2
      | cons y Y2 =>
      have hib : ((X1.length : Nat) : Int) < nv := by have h1 := HAB.out.2.2.1; have h2 := HXL.out; simp at h2; omega
      obtain ⟨A, hA⟩ : ∃ A, A = P ++ Y1 := ⟨_, rfl⟩
      obtain ⟨B, hB⟩ : ∃ B, B = X2 ++ (M ++ X1) := ⟨_, rfl⟩
      obtain ⟨C, hC⟩ : ∃ C, C = Y2 ++ Q := ⟨_, rfl⟩
      have hrow3 : RowOwn wr g cap enc (A ++ x :: (B ++ y :: C)) := by
        have := HRW.out
        subst hA hB hC
        simpa using this
      have hlen3 : (A ++ x :: (B ++ y :: C)).length = len := by
        have h1 := HL.out; rw [HX.out, HY.out] at h1; have := HL1.out
        subst hA hB hC; simp at h1 ⊢; omega
      obtain ⟨p, hp⟩ : ∃ p, p = A.length := ⟨_, rfl⟩
      obtain ⟨q, hq⟩ : ∃ q, q = A.length + 1 + B.length := ⟨_, rfl⟩
      obtain ⟨i, hi⟩ : ∃ i, i = X1.length := ⟨_, rfl⟩
      have hpi : (p : Int) = av + (i : Int) := by have h1 := HAB.out.1; have := HL1.out; subst hA; simp at hp; omega
      have hqi : (q : Int) = bv + (i : Int) := by have h1 := HAB.out.2.1; have h2 := HXL.out; have := HL1.out; subst hA hB; simp at hq h2; omega
      have hxl : A.length < (A ++ x :: (B ++ y :: C)).length := by simp
      have hyl : A.length + 1 + B.length < (A ++ x :: (B ++ y :: C)).length := by simp; omega
      have cx := hrow3.at hxl
      have cy := hrow3.at hyl
      rw [get2_a A B C x y hxl, ← hp] at cx
      rw [get2_b A B C x y hyl, ← hq] at cy
      have HxN := Lib.hid (show x < N from HLT.out x (by rw [HX.out]; simp))
      have HyN := Lib.hid (show y < N from HLT.out y (by rw [HY.out]; simp))
      obtain ⟨ek, en, es, ea, el, ep, eb, em, eq, e1, e2, e3, e4, e5⟩ := HE.out.f x HxN.out
      simp only [Nat.reduceAdd] at e1 e2 e3 e4 e5
      have e0 := HE.out.k x HxN.out
      obtain ⟨fk, fn, fs, fa, fl, fp, fb, fm, fq, f1, f2, f3, f4, f5⟩ := HE.out.f y HyN.out
      simp only [Nat.reduceAdd] at f1 f2 f3 f4 f5
      have f0 := HE.out.k y HyN.out
      obtain ⟨x0, x1, x2, x3, x4, x5⟩ := cx
      obtain ⟨y0, y1, y2, y3, y4, y5⟩ := cy
      rw [e0] at x0; rw [e1] at x1; rw [e2] at x2; rw [e3] at x3; rw [e4] at x4; rw [e5] at x5
      rw [f0] at y0; rw [f1] at y1; rw [f2] at y2; rw [f3] at y3; rw [f4] at y4; rw [f5] at y5
      have HE2 := Lib.hid (And.intro e0 (And.intro e1 (And.intro e2 (And.intro e3 (And.intro e4 (And.intro e5 (And.intro f0 (And.intro f1 (And.intro f2 (And.intro f3 (And.intro f4 f5)))))))))))
      have HROZ := Lib.hid hrow3
      have HFZ := Lib.hid (fun i => hrow3.frozen i)
      have fx0 := HFZ.out (p * 6 + 0)
      have fy0 := HFZ.out (q * 6 + 0)
      have fx1 := HFZ.out (p * 6 + 1)
      have fy1 := HFZ.out (q * 6 + 1)
      have fx2 := HFZ.out (p * 6 + 2)
      have fy2 := HFZ.out (q * 6 + 2)
      have fx3 := HFZ.out (p * 6 + 3)
      have fy3 := HFZ.out (q * 6 + 3)
      have fx4 := HFZ.out (p * 6 + 4)
      have fy4 := HFZ.out (q * 6 + 4)
      have fx5 := HFZ.out (p * 6 + 5)
      have fy5 := HFZ.out (q * 6 + 5)
      simp only [Nat.add_zero] at fx0 fy0
      have HABC := Lib.hid (And.intro hA (And.intro hB hC))
      have hpl : p < len := by omega
      have hql : q < len := by omega
      have HPQ := Lib.hid (And.intro hp (And.intro hq hi))
      have hpq : p ≠ q := by omega
      clear e0 e1 e2 e3 e4 e5 f0 f1 f2 f3 f4 f5 hrow3 hA hB hC hp hq hxl hyl hlen3
      rw [← hi] at hib ⊢
      clear hi
      have g1 : av + (i : Int) = (p : Int) := by omega
      have g2 : bv + (i : Int) = (q : Int) := by omega
      have g3 : IntKind.i64.wrap (av + (i : Int)) = (p : Int) := by rw [iw_id _ (by omega)]; omega
      have g4 : IntKind.i64.wrap (bv + (i : Int)) = (q : Int) := by rw [iw_id _ (by omega)]; omega
      have g5 : (p : Int) < (len : Int) := by omega
      have g6 : (q : Int) < (len : Int) := by omega
      clear hpi hqi
      go_wp2_with fail
      go_region
      have hW : ((((((((((((wr.setCell ⟨g, p * 6, none⟩ (.string (key y))).setCell ⟨g, p * 6 + 1, none⟩ (.int .i64 fk)).setCell ⟨g, p * 6 + 2, none⟩ (.int .i64 fn)).setCell ⟨g, p * 6 + 3, none⟩ (.string fs)).setCell ⟨g, p * 6 + 4, none⟩ (.slice fa fl fp)).setCell ⟨g, p * 6 + 5, none⟩ (.slice fb fm fq)).setCell ⟨g, q * 6, none⟩ (.string (key x))).setCell ⟨g, q * 6 + 1, none⟩ (.int .i64 ek)).setCell ⟨g, q * 6 + 2, none⟩ (.int .i64 en)).setCell ⟨g, q * 6 + 3, none⟩ (.string es)).setCell ⟨g, q * 6 + 4, none⟩ (.slice ea el ep)).setCell ⟨g, q * 6 + 5, none⟩ (.slice eb em eq)) = put6 (put6 wr g (p * 6) (enc y)) g (q * 6) (enc x) := by
        obtain ⟨e0, e1, e2, e3, e4, e5, f0, f1, f2, f3, f4, f5⟩ := HE2.out
        unfold put6; rw [e0, e1, e2, e3, e4, e5, f0, f1, f2, f3, f4, f5]
      rw [hW]
      have hrow4 : RowOwn (put6 (put6 wr g (p * 6) (enc y)) g (q * 6) (enc x)) g cap enc (A ++ y :: (B ++ x :: C)) := by
        have h1 := put6_row HROZ.out p y (by rw [HPQ.out.1]; simp)
        have h2 := put6_row h1 q x (by rw [HPQ.out.2.1]; simp; omega)
        have h3 := swap2_list A B C x y
        rw [← HPQ.out.1] at h3
        rw [show p + 1 + B.length = q by rw [HPQ.out.2.1, HPQ.out.1]] at h3
        rw [h3] at h2
        exact h2
      have hbut4 := put6_but (o := q * 6) (c := enc x) (put6_but (o := p * 6) (c := enc y) HBT.out)
      have HR4 := Lib.hid hrow4
      have HB4 := Lib.hid hbut4
      generalize put6 (put6 wr g (p * 6) (enc y)) g (q * 6) (enc x) = W4 at HR4 HB4 ⊢
      clear hW hrow4 hbut4
      clear x0 y0 fx0 fy0 x1 y1 fx1 fy1 x2 y2 fx2 fy2 x3 y3 fx3 fy3 x4 y4 fx4 fy4 x5 y5 fx5 fy5
      go_wp2
      go_roundw
      case measure => simp [intOf]; omega
      case rel =>
        refine ⟨X1 ++ [x], X2, Y1 ++ [y], Y2, by rw [HX.out]; simp, by rw [HY.out]; simp, by have := HL1.out; simp; omega, by have := HPQ.out.2.2; simp; omega, ?_, HB4.out.drew⟩
        have h5 := HR4.out.keep ((Below.refl _ W4).drew)
        obtain ⟨h6, h7, h8⟩ := HABC.out
        subst h6 h7 h8
        simpa using h5
end Go.Proofs.Ythcphfpkinfjoaa

namespace Go.Proofs.Ythcphfpkinfjoaa
open Go.RowKit

theorem swapRange_at (enc : Nat → Nat → Value) (key : Nat → ByteArray) (N : Nat) (hE : Mems enc key N) (g cap len : Nat) (d : List Nat) (P X M Y Q : List Nat) (w : World) (hd : d = P ++ (X ++ (M ++ (Y ++ Q)))) (hlt : ∀ z ∈ d, z < N) (hrow : RowOwn w g cap enc d) (hlen : d.length = len) (hN : len ≤ 1000000)
    (hXY : X.length = Y.length) (av bv nv : Int) (ha : av = P.length) (hb : bv = P.length + X.length + M.length) (hn : nv = X.length) (fv : Value) :
    Calls Try.prog 120 #[.slice (some ⟨g, 0, none⟩) len cap, .int .i64 av, .int .i64 bv, .int .i64 nv, fv] w fun e w' => e = .returned (.tuple #[]) ∧ But g w w' ∧ RowOwn w' g cap enc (P ++ (Y ++ (M ++ (X ++ Q)))) := by
  subst hd hlen
  exact swapRange_any enc key N hE g cap P X M Y Q w hlt hrow hN hXY av bv nv ha hb hn fv

set_option maxRecDepth 100000 in
set_option maxHeartbeats 2000000 in
theorem rotate_any (enc : Nat → Nat → Value) (key : Nat → ByteArray) (N : Nat) (hE : Mems enc key N) (g cap len : Nat) (P X Y Q : List Nat) (w : World) (hlt : ∀ z ∈ P ++ (X ++ (Y ++ Q)), z < N) (hrow : RowOwn w g cap enc (P ++ (X ++ (Y ++ Q)))) (hlen : (P ++ (X ++ (Y ++ Q))).length = len) (hN : len ≤ 1000000)
    (hX : 0 < X.length) (hY : 0 < Y.length) (av mv bv : Int) (ha : av = P.length) (hm : mv = P.length + X.length) (hb : bv = P.length + X.length + Y.length) (fv : Value) :
    Calls Try.prog 105 #[.slice (some ⟨g, 0, none⟩) len cap, .int .i64 av, .int .i64 mv, .int .i64 bv, fv] w fun e w' => e = .returned (.tuple #[]) ∧ But g w w' ∧ RowOwn w' g cap enc (P ++ (Y ++ (X ++ Q))) := by
  have HL := Lib.hid hlen
  have HE := Lib.hid hE
  have HLT := Lib.hid hlt
  have HROW := Lib.hid hrow
  have HAB := Lib.hid (And.intro ha (And.intro hm hb))
  have HXY := Lib.hid (And.intro hX hY)
  have hav : 0 ≤ av ∧ av ≤ 1000000 ∧ 0 ≤ mv ∧ mv ≤ 1000000 ∧ 0 ≤ bv ∧ bv ≤ 1000000 := by simp at hlen; omega
  obtain ⟨hav0, hav1, hmv0, hmv1, hbv0, hbv1⟩ := hav
  clear hlen hE hlt hrow ha hm hb hX hY
  go_enter Try.func105, Try.ntmps105
  go_wp2_with fail
  go_loopw [10, 11] (fun iv jv wr => ∃ (P' X' Y' Q' : List Nat), 0 < X'.length ∧ 0 < Y'.length ∧ iv = .int .i64 (X'.length : Nat) ∧ jv = .int .i64 (Y'.length : Nat) ∧ mv = P'.length + X'.length ∧ P' ++ (Y' ++ (X' ++ Q')) = P ++ (Y ++ (X ++ Q)) ∧ RowOwn wr g cap enc (P' ++ (X' ++ (Y' ++ Q'))) ∧ But g w wr) (fun i j _ => (intOf i).toNat + (intOf j).toNat)
  case atStart => exact ⟨P, X, Y, Q, HXY.out.1, HXY.out.2, by have := HAB.out; congr 1; omega, by have := HAB.out; congr 1; omega, by have := HAB.out; omega, rfl, HROW.out, But.refl _ _⟩
  case round =>
    obtain ⟨P', X', Y', Q', hX', hY', rfl, rfl, hmv, hT, hrow, hbut⟩ := hrel
    have HT := Lib.hid hT
    have HRW := Lib.hid hrow
    have HBT := Lib.hid hbut
    have HMV := Lib.hid hmv
    have HMEM := Lib.hid (show ∀ z ∈ P' ++ (X' ++ (Y' ++ Q')), z < N by
      intro z hz
      have h1 : z ∈ P' ++ (Y' ++ (X' ++ Q')) := by
        simp at hz ⊢
        rcases hz with h | h | h | h <;> simp [h]
      rw [hT] at h1
      exact HLT.out z (by
        simp at h1 ⊢
        rcases h1 with h | h | h | h <;> simp [h]))
    have HLEN := Lib.hid (show P'.length + X'.length + Y'.length + Q'.length = len by
      have h1 := congrArg List.length hT
      have h2 := HL.out
      simp at h1 h2; omega)
    clear hT hrow hbut
    obtain ⟨i, hi⟩ : ∃ i, i = X'.length := ⟨_, rfl⟩
    obtain ⟨j, hj⟩ : ∃ j, j = Y'.length := ⟨_, rfl⟩
    rw [← hi, ← hj]
    have HIJ := Lib.hid (And.intro hi hj)
    have hmi : (i : Int) ≤ mv := by omega
    have hij : i + j ≤ 1000000 := by have := HLEN.out; omega
    have hmj : mv + (j : Int) ≤ 1000000 := by have := HLEN.out; omega
    have hi0 : 0 < i := by omega
    have hj0 : 0 < j := by omega
    clear hi hj hX' hY' hmv
    by_cases hne : i = j
    · have hneb : ((i : Int) != (j : Int)) = false := by simp; omega
      have HNE := Lib.hid hne
      clear hne
      go_wp2_with fail
      refine (swapRange_at enc key N HE.out g cap len _ P' X' [] Y' Q' wr rfl (by simpa using HMEM.out) (by simpa using HRW.out) (by have := HLEN.out; simp; omega) (by omega) (by have := HIJ.out; have := HNE.out; omega) _ _ _ (by have := HMV.out; have := HIJ.out; omega) (by have := HMV.out; have := HIJ.out; simp; omega) (by have := HIJ.out; omega) _).mono ?_
      rintro e w1 ⟨rfl, hb1, hr1⟩
      have HR1 := Lib.hid hr1
      have HB1 := Lib.hid (HBT.out.trans hb1)
      clear hr1 hb1
      go_wp2
      go_end0
      exact ⟨rfl, HB1.out, by have := HR1.out; rw [← HT.out]; simpa using this⟩
    · have hneb : ((i : Int) != (j : Int)) = true := by simp; omega
      by_cases hgt : j < i
      · have hgt' : (j : Int) < (i : Int) := by omega
        go_wp2_with fail
        have hU : (X'.take j).length = j := by have := HIJ.out; rw [List.length_take]; omega
        refine (swapRange_at enc key N HE.out g cap len _ P' (X'.take j) (X'.drop j) Y' Q' wr rfl (by have := HMEM.out; simpa [← List.append_assoc, List.take_append_drop] using this) (by have := HRW.out; simpa [← List.append_assoc, List.take_append_drop] using this) (by have := HLEN.out; simp; omega) (by omega) (by rw [hU]; exact HIJ.out.2) _ _ _ (by have := HMV.out; have := HIJ.out; omega) (by have := HMV.out; have := HIJ.out; simp; omega) (by rw [hU]) _).mono ?_
        rintro e w1 ⟨rfl, hb1, hr1⟩
        have HR1 := Lib.hid hr1
        have HB1 := Lib.hid (HBT.out.trans hb1)
        clear hr1 hb1
        go_wp2
        go_roundw
        case measure => simp [intOf]; omega
        case rel =>
          refine ⟨P' ++ Y', X'.drop j, X'.take j, Q', by have := HIJ.out; simp; omega, by omega, ?_, ?_, ?_, ?_, ?_, HB1.out⟩
          · have := HIJ.out; simp; omega
          · rw [hU]
          · have := HMV.out; have := HIJ.out; simp; omega
          · rw [← HT.out]; simp only [List.append_assoc]; rw [← List.append_assoc (X'.take j), List.take_append_drop]
          · have := HR1.out; simpa using this
      · have hgt' : ¬ (j : Int) < (i : Int) := by omega
        have hlt' : i < j := by omega
        go_wp2_with fail
        have hV : (Y'.drop (j - i)).length = i := by have := HIJ.out; rw [List.length_drop]; omega
        refine (swapRange_at enc key N HE.out g cap len _ P' X' (Y'.take (j - i)) (Y'.drop (j - i)) Q' wr rfl (by have := HMEM.out; rw [← List.append_assoc (Y'.take _), List.take_append_drop]; exact this) (by have := HRW.out; rw [← List.append_assoc (Y'.take _), List.take_append_drop]; exact this) (by have := HLEN.out; have := HIJ.out; simp; omega) (by omega) (by rw [hV]; exact HIJ.out.1.symm) _ _ _ (by have := HMV.out; have := HIJ.out; omega) (by have := HMV.out; have := HIJ.out; simp; omega) (by have := HIJ.out; omega) _).mono ?_
        rintro e w1 ⟨rfl, hb1, hr1⟩
        have HR1 := Lib.hid hr1
        have HB1 := Lib.hid (HBT.out.trans hb1)
        clear hr1 hb1
        go_wp2
        go_roundw
        case measure => simp [intOf]; omega
        case rel =>
          refine ⟨P', Y'.drop (j - i), Y'.take (j - i), X' ++ Q', by omega, by have := HIJ.out; simp; omega, ?_, ?_, ?_, ?_, ?_, HB1.out⟩
          · rw [hV]
          · have := HIJ.out; simp; omega
          · have := HMV.out; have := HIJ.out; omega
          · rw [← HT.out]; rw [← List.append_assoc (Y'.take _), List.take_append_drop]
          · exact HR1.out
end Go.Proofs.Ythcphfpkinfjoaa
