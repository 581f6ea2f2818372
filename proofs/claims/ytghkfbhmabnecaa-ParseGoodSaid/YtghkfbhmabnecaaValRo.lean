/-
  Go's rotation of two runs of members that follow one another, in place.
  Conditions: none.
-/
import Derived.Test.YtghkfbhmabnecaaValSw
namespace Go.Proofs.Ytghkfbhmabnecaa
open Go.RowKit

theorem swapRange_at (enc : Nat → Nat → Value) (key : Nat → ByteArray) (N : Nat) (hE : Mems enc key N) (g cap len : Nat) (d : List Nat) (P X M Y Q : List Nat) (w : World) (hd : d = P ++ (X ++ (M ++ (Y ++ Q)))) (hlt : ∀ z ∈ d, z < N) (hrow : RowOwn w g cap enc d) (hlen : d.length = len) (hN : len ≤ 1000000)
    (hXY : X.length = Y.length) (av bv nv : Int) (ha : av = P.length) (hb : bv = P.length + X.length + M.length) (hn : nv = X.length) (fv : Value) :
    Calls Try.prog 122 #[.slice (some ⟨g, 0, none⟩) len cap, .int .i64 av, .int .i64 bv, .int .i64 nv, fv] w fun e w' => e = .returned (.tuple #[]) ∧ But g w w' ∧ RowOwn w' g cap enc (P ++ (Y ++ (M ++ (X ++ Q)))) := by
  subst hd hlen
  exact swapRange_any enc key N hE g cap P X M Y Q w hlt hrow hN hXY av bv nv ha hb hn fv

set_option maxRecDepth 100000 in
set_option maxHeartbeats 2000000 in
theorem rotate_any (enc : Nat → Nat → Value) (key : Nat → ByteArray) (N : Nat) (hE : Mems enc key N) (g cap len : Nat) (P X Y Q : List Nat) (w : World) (hlt : ∀ z ∈ P ++ (X ++ (Y ++ Q)), z < N) (hrow : RowOwn w g cap enc (P ++ (X ++ (Y ++ Q)))) (hlen : (P ++ (X ++ (Y ++ Q))).length = len) (hN : len ≤ 1000000)
    (hX : 0 < X.length) (hY : 0 < Y.length) (av mv bv : Int) (ha : av = P.length) (hm : mv = P.length + X.length) (hb : bv = P.length + X.length + Y.length) (fv : Value) :
    Calls Try.prog 107 #[.slice (some ⟨g, 0, none⟩) len cap, .int .i64 av, .int .i64 mv, .int .i64 bv, fv] w fun e w' => e = .returned (.tuple #[]) ∧ But g w w' ∧ RowOwn w' g cap enc (P ++ (Y ++ (X ++ Q))) := by
  have HL := Lib.hid hlen
  have HE := Lib.hid hE
  have HLT := Lib.hid hlt
  have HROW := Lib.hid hrow
  have HAB := Lib.hid (And.intro ha (And.intro hm hb))
  have HXY := Lib.hid (And.intro hX hY)
  have hav : 0 ≤ av ∧ av ≤ 1000000 ∧ 0 ≤ mv ∧ mv ≤ 1000000 ∧ 0 ≤ bv ∧ bv ≤ 1000000 := by simp at hlen; omega
  obtain ⟨hav0, hav1, hmv0, hmv1, hbv0, hbv1⟩ := hav
  clear hlen hE hlt hrow ha hm hb hX hY
  go_enter Try.func107, Try.ntmps107
  go_wp2_with fail
  go_loopw [10, 11] (fun iv jv wr => ∃ (P' X' Y' Q' : List Nat), 0 < X'.length ∧ 0 < Y'.length ∧ iv = .int .i64 (X'.length : Nat) ∧ jv = .int .i64 (Y'.length : Nat) ∧ mv = P'.length + X'.length ∧ P' ++ (Y' ++ (X' ++ Q')) = P ++ (Y ++ (X ++ Q)) ∧ RowOwn wr g cap enc (P' ++ (X' ++ (Y' ++ Q'))) ∧ But g w wr) (fun i j _ => (intOf i).toNat + (intOf j).toNat)
  case atStart => exact ⟨P, X, Y, Q, HXY.out.1, HXY.out.2, by have := HAB.out; congr 1; omega, by have := HAB.out; congr 1; omega, by have := HAB.out; omega, rfl, HROW.out, But.refl _ _⟩
  case round =>
    obtain ⟨P', X', Y', Q', hX', hY', rfl, rfl, hmv, hT, hrow, hbut⟩ := hrel
    have HT := Lib.hid hT
    have HRW := Lib.hid hrow
    have HBT := Lib.hid hbut
    have HMV := Lib.hid hmv
    have HMEM := Lib.hid (show ∀ z ∈ P' ++ (X' ++ (Y' ++ Q')), z < N by
      intro z hz
      have h1 : z ∈ P' ++ (Y' ++ (X' ++ Q')) := by
        simp at hz ⊢
        rcases hz with h | h | h | h <;> simp [h]
      rw [hT] at h1
      exact HLT.out z (by
        simp at h1 ⊢
        rcases h1 with h | h | h | h <;> simp [h]))
    have HLEN := Lib.hid (show P'.length + X'.length + Y'.length + Q'.length = len by
      have h1 := congrArg List.length hT
      have h2 := HL.out
      simp at h1 h2; omega)
    clear hT hrow hbut
    obtain ⟨i, hi⟩ : ∃ i, i = X'.length := ⟨_, rfl⟩
    obtain ⟨j, hj⟩ : ∃ j, j = Y'.length := ⟨_, rfl⟩
    rw [← hi, ← hj]
    have HIJ := Lib.hid (And.intro hi hj)
    have hmi : (i : Int) ≤ mv := by omega
    have hij : i + j ≤ 1000000 := by have := HLEN.out; omega
    have hmj : mv + (j : Int) ≤ 1000000 := by have := HLEN.out; omega
    have hi0 : 0 < i := by omega
    have hj0 : 0 < j := by omega
    clear hi hj hX' hY' hmv
    by_cases hne : i = j
    · have hneb : ((i : Int) != (j : Int)) = false := by simp; omega
      have HNE := Lib.hid hne
      clear hne
      go_wp2_with fail
      refine (swapRange_at enc key N HE.out g cap len _ P' X' [] Y' Q' wr rfl (by simpa using HMEM.out) (by simpa using HRW.out) (by have := HLEN.out; simp; omega) (by omega) (by have := HIJ.out; have := HNE.out; omega) _ _ _ (by have := HMV.out; have := HIJ.out; omega) (by have := HMV.out; have := HIJ.out; simp; omega) (by have := HIJ.out; omega) _).mono ?_
      rintro e w1 ⟨rfl, hb1, hr1⟩
      have HR1 := Lib.hid hr1
      have HB1 := Lib.hid (HBT.out.trans hb1)
      clear hr1 hb1
      go_wp2
      go_end0
      exact ⟨rfl, HB1.out, by have := HR1.out; rw [← HT.out]; simpa using this⟩
    · have hneb : ((i : Int) != (j : Int)) = true := by simp; omega
      by_cases hgt : j < i
      · have hgt' : (j : Int) < (i : Int) := by omega
        go_wp2_with fail
        have hU : (X'.take j).length = j := by have := HIJ.out; rw [List.length_take]; omega
        refine (swapRange_at enc key N HE.out g cap len _ P' (X'.take j) (X'.drop j) Y' Q' wr rfl (by have := HMEM.out; simpa [← List.append_assoc, List.take_append_drop] using this) (by have := HRW.out; simpa [← List.append_assoc, List.take_append_drop] using this) (by have := HLEN.out; simp; omega) (by omega) (by rw [hU]; exact HIJ.out.2) _ _ _ (by have := HMV.out; have := HIJ.out; omega) (by have := HMV.out; have := HIJ.out; simp; omega) (by rw [hU]) _).mono ?_
        rintro e w1 ⟨rfl, hb1, hr1⟩
        have HR1 := Lib.hid hr1
        have HB1 := Lib.hid (HBT.out.trans hb1)
        clear hr1 hb1
        go_wp2
        go_roundw
        case measure => simp [intOf]; omega
        case rel =>
          refine ⟨P' ++ Y', X'.drop j, X'.take j, Q', by have := HIJ.out; simp; omega, by omega, ?_, ?_, ?_, ?_, ?_, HB1.out⟩
          · have := HIJ.out; simp; omega
          · rw [hU]
          · have := HMV.out; have := HIJ.out; simp; omega
          · rw [← HT.out]; simp only [List.append_assoc]; rw [← List.append_assoc (X'.take j), List.take_append_drop]
          · have := HR1.out; simpa using this
      · have hgt' : ¬ (j : Int) < (i : Int) := by omega
        have hlt' : i < j := by omega
        go_wp2_with fail
        have hV : (Y'.drop (j - i)).length = i := by have := HIJ.out; rw [List.length_drop]; omega
        refine (swapRange_at enc key N HE.out g cap len _ P' X' (Y'.take (j - i)) (Y'.drop (j - i)) Q' wr rfl (by have := HMEM.out; rw [← List.append_assoc (Y'.take _), List.take_append_drop]; exact this) (by have := HRW.out; rw [← List.append_assoc (Y'.take _), List.take_append_drop]; exact this) (by have := HLEN.out; have := HIJ.out; simp; omega) (by omega) (by rw [hV]; exact HIJ.out.1.symm) _ _ _ (by have := HMV.out; have := HIJ.out; omega) (by have := HMV.out; have := HIJ.out; simp; omega) (by have := HIJ.out; omega) _).mono ?_
        rintro e w1 ⟨rfl, hb1, hr1⟩
        have HR1 := Lib.hid hr1
        have HB1 := Lib.hid (HBT.out.trans hb1)
        clear hr1 hb1
        go_wp2
        go_roundw
        case measure => simp [intOf]; omega
        case rel =>
          refine ⟨P', Y'.drop (j - i), Y'.take (j - i), X' ++ Q', by omega, by have := HIJ.out; simp; omega, ?_, ?_, ?_, ?_, ?_, HB1.out⟩
          · rw [hV]
          · have := HIJ.out; simp; omega
          · have := HMV.out; have := HIJ.out; omega
          · rw [← HT.out]; rw [← List.append_assoc (Y'.take _), List.take_append_drop]
          · exact HR1.out
end Go.Proofs.Ytghkfbhmabnecaa
