/-
  What a valid value is, as the document says it; package value's tests of one value's own fields.
  Conditions: none.
-/
import Derived.Test.YthcphfpkinfjoaaValA
import Derived.Test.YthcphfpkinfjoaaUtfG
import Derived.Deep.LoopGhost
import Derived.BigQuiet
import Derived.Deep.QuietTactic
import Derived.Deep.RegionHeld3
namespace Go.Proofs.Ythcphfpkinfjoaa
open Go.RowKit

def gS (s : ByteArray) : Bool := (uRunes s.data.toList).isSome
def ltS (a b : ByteArray) : Bool := Op.bytesLess a.toList b.toList
def KeysOK (m : List (ByteArray × VT)) : Prop := ∀ i (h : i < m.length), gS m[i].1 = true ∧ (∀ h0 : 0 < i, ltS m[i - 1].1 m[i].1 = true)

set_option maxHeartbeats 1000000 in
theorem null_any (k n : Int) (s : ByteArray) (a1 a2 : Option Addr) (l1 p1 l2 p2 : Nat) (w : World) (r : Bool) (hr : r = true ↔ n = 0 ∧ s.toList = [] ∧ l1 = 0 ∧ l2 = 0) :
    Calls Try.prog 55 #[.agg #[.int .i64 k, .int .i64 n, .string s, .slice a1 l1 p1, .slice a2 l2 p2]] w fun e w' => e = .returned (.bool r) ∧ Below w.heap.size w w' := by
  have HR := Lib.hid hr
  clear hr
  go_enter Try.func55, Try.ntmps55
  go_wp2
  all_goals go_ret
  all_goals exact ⟨ret_b (by rw [Bool.eq_iff_iff, HR.out]; first | (simp [*]; done) | (simp; intros; omega)), by first | exact (Below.refl _ w).alloc (Nat.le_refl _) _ | exact ((Below.refl _ w).alloc (Nat.le_refl _) _).alloc (by simp) _⟩

set_option maxHeartbeats 1000000 in
theorem bool_any (k n : Int) (s : ByteArray) (a1 a2 : Option Addr) (l1 p1 l2 p2 : Nat) (w : World) (r : Bool) (hr : r = true ↔ (n = 0 ∨ n = 1) ∧ s.toList = [] ∧ l1 = 0 ∧ l2 = 0) :
    Calls Try.prog 56 #[.agg #[.int .i64 k, .int .i64 n, .string s, .slice a1 l1 p1, .slice a2 l2 p2]] w fun e w' => e = .returned (.bool r) ∧ Below w.heap.size w w' := by
  have HR := Lib.hid hr
  clear hr
  go_enter Try.func56, Try.ntmps56
  go_wp2
  all_goals go_ret
  all_goals exact ⟨ret_b (by rw [Bool.eq_iff_iff, HR.out]; first | (simp [*]; done) | (simp; intros; omega)), by first | exact (Below.refl _ w).alloc (Nat.le_refl _) _ | exact ((Below.refl _ w).alloc (Nat.le_refl _) _).alloc (by simp) _⟩

set_option maxHeartbeats 1000000 in
theorem int_any (k n : Int) (s : ByteArray) (a1 a2 : Option Addr) (l1 p1 l2 p2 : Nat) (w : World) (r : Bool) (hr : r = true ↔ -9007199254740991 ≤ n ∧ n ≤ 9007199254740991 ∧ s.toList = [] ∧ l1 = 0 ∧ l2 = 0) :
    Calls Try.prog 57 #[.agg #[.int .i64 k, .int .i64 n, .string s, .slice a1 l1 p1, .slice a2 l2 p2]] w fun e w' => e = .returned (.bool r) ∧ Below w.heap.size w w' := by
  have HR := Lib.hid hr
  clear hr
  go_enter Try.func57, Try.ntmps57
  go_wp2
  all_goals go_ret
  all_goals exact ⟨ret_b (by rw [Bool.eq_iff_iff, HR.out]; first | (simp [*]; done) | (simp; intros; omega)), by first | exact (Below.refl _ w).alloc (Nat.le_refl _) _ | exact ((Below.refl _ w).alloc (Nat.le_refl _) _).alloc (by simp) _⟩

set_option maxHeartbeats 1000000 in
theorem list_any (k n : Int) (s : ByteArray) (a1 a2 : Option Addr) (l1 p1 l2 p2 : Nat) (w : World) (r : Bool) (hr : r = true ↔ n = 0 ∧ s.toList = [] ∧ l2 = 0) :
    Calls Try.prog 59 #[.agg #[.int .i64 k, .int .i64 n, .string s, .slice a1 l1 p1, .slice a2 l2 p2]] w fun e w' => e = .returned (.bool r) ∧ Below w.heap.size w w' := by
  have HR := Lib.hid hr
  clear hr
  go_enter Try.func59, Try.ntmps59
  go_wp2
  all_goals go_ret
  all_goals exact ⟨ret_b (by rw [Bool.eq_iff_iff, HR.out]; first | (simp [*]; done) | (simp; intros; omega)), by first | exact (Below.refl _ w).alloc (Nat.le_refl _) _ | exact ((Below.refl _ w).alloc (Nat.le_refl _) _).alloc (by simp) _⟩

set_option maxHeartbeats 1000000 in
theorem text_any (k n : Int) (s : ByteArray) (a1 a2 : Option Addr) (l1 p1 l2 p2 : Nat) (w : World) (r : Bool) (hs : s.size ≤ sMax) (hr : r = true ↔ n = 0 ∧ gS s = true ∧ l1 = 0 ∧ l2 = 0) :
    Calls Try.prog 58 #[.agg #[.int .i64 k, .int .i64 n, .string s, .slice a1 l1 p1, .slice a2 l2 p2]] w fun e w' => e = .returned (.bool r) ∧ Below w.heap.size w w' := by
  have HR := Lib.hid hr
  have HS := Lib.hid hs
  clear hr hs
  go_enter Try.func58, Try.ntmps58
  go_wp2_with fail
  · refine (good_any s _ (gS s) (Nat.le_trans HS.out sMax_le) rfl).mono ?_
    rintro e w1 ⟨rfl, hb1⟩
    have hb : Below w.heap.size w w1 := ((Below.refl _ w).alloc (Nat.le_refl _) _).trans (hb1.mono (by simp))
    have hz := hb.size
    have hz1 := hb1.size
    generalize hW0 : w.alloc _ = W0 at hb1
    have k0 : w1.cell? ⟨w.heap.size, 0, none⟩ = some (.int .i64 k) := by rw [hb1.cell (by subst hW0; simp)]; subst hW0; simp
    have k1 : w1.cell? ⟨w.heap.size, 1, none⟩ = some (.int .i64 n) := by rw [hb1.cell (by subst hW0; simp)]; subst hW0; simp; omega
    have k2 : w1.cell? ⟨w.heap.size, 2, none⟩ = some (.string s) := by rw [hb1.cell (by subst hW0; simp)]; subst hW0; simp
    have k3 : w1.cell? ⟨w.heap.size, 3, none⟩ = some (.slice a1 l1 p1) := by rw [hb1.cell (by subst hW0; simp)]; subst hW0; simp
    have k4 : w1.cell? ⟨w.heap.size, 4, none⟩ = some (.slice a2 l2 p2) := by rw [hb1.cell (by subst hW0; simp)]; subst hW0; simp
    generalize hg : gS s = g
    have HG := Lib.hid hg
    have HB := Lib.hid hb
    clear hW0 hb1 hb hg hz1
    go_wp2
    all_goals go_ret
    all_goals exact ⟨ret_b (by rw [Bool.eq_iff_iff, HR.out, HG.out]; simp [*]), by first | exact HB.out | exact HB.out.alloc hz _⟩
  · go_ret
    exact ⟨ret_b (by rw [Bool.eq_iff_iff, HR.out]; simp [*]), (Below.refl _ w).alloc (Nat.le_refl _) _⟩

set_option maxHeartbeats 1000000 in
theorem keys_any {n₀ : Nat} {w0 : World} (m : List (ByteArray × VT)) (cm : Nat → Nat → Value) (k n : Int) (s : ByteArray) (a1 a2 : Option Addr) (l1 p1 p2 : Nat) (hm : RowAt n₀ w0 6 (.slice a2 m.length p2) m.length cm) (hK : ∀ i (h : i < m.length), cm i 0 = .string m[i].1 ∧ m[i].1.size ≤ sMax)
    (hF : ∀ i (_ : i < m.length), Form5 (cm i) 1) (w : World) (hw : Below n₀ w0 w) (hz : n₀ ≤ w.heap.size) (r : Bool) (hr : r = true ↔ KeysOK m) :
    Calls Try.prog 85 #[.agg #[.int .i64 k, .int .i64 n, .string s, .slice a1 l1 p1, .slice a2 m.length p2]] w fun e w' => e = .returned (.bool r) ∧ Below w.heap.size w w' := by
  have HR := Lib.hid hr
  have HK := Lib.hid hK
  have HF := Lib.hid hF
  have HM := Lib.hid hm
  have HW := Lib.hid hw
  have HZ := Lib.hid hz
  have hmm : m.length ≤ 1000000000000000 := by have := hm.len; have := sMax_lt; omega
  clear hr hK hm hw hz hF
  go_enter Try.func85, Try.ntmps85
  go_wp2_with fail
  generalize hW0 : w.alloc _ = W0
  have hb4 : W0.cell? ⟨w.heap.size, 4, none⟩ = some (.slice a2 m.length p2) := by subst hW0; simp
  have hw0 : Below w.heap.size w W0 := by subst hW0; exact (Below.refl _ w).alloc (Nat.le_refl _) _
  have hz0 : W0.heap.size = w.heap.size + 1 := by subst hW0; simp
  have HW0 := Lib.hid hw0
  have HZ0 := Lib.hid hz0
  clear hW0 hw0 hz0
  go_loopw [8] (fun iv wr => ∃ j : Nat, j ≤ m.length ∧ iv = .int .i64 j ∧ Below W0.heap.size W0 wr ∧ (∀ i (h : i < m.length), i < j → gS m[i].1 = true ∧ (∀ h0 : 0 < i, ltS m[i - 1].1 m[i].1 = true))) (fun i _ => m.length - (intOf i).toNat)
  case atStart => exact ⟨0, by omega, rfl, Below.refl _ _, fun _ _ h => absurd h (Nat.not_lt_zero _)⟩
  case round =>
    obtain ⟨j, hj, rfl, hbr, hal⟩ := hrel
    have hc4 : wr.cell? ⟨w.heap.size, 4, none⟩ = some (.slice a2 m.length p2) := by rw [hbr.cell (by show w.heap.size < _; have := HZ0.out; omega)]; exact hb4
    have HBR := Lib.hid hbr
    have HAL := Lib.hid hal
    have hBw : Below w.heap.size w wr := HW0.out.trans (hbr.mono HW0.out.size)
    have hzr : w.heap.size < wr.heap.size := by have := hbr.size; have := HZ0.out; omega
    have HBw := Lib.hid hBw
    clear hbr hal hb4 hBw
    by_cases hA1 : j < m.length
    · have hB0 : Below n₀ w0 wr := HW.out.trans (HBw.out.mono HZ.out)
      obtain ⟨b, off, rfl, hbn, c0, c1, c2, c3, c4, c5⟩ := (HM.out.below hB0).at6 hA1
      obtain ⟨kk, nn, ss, b1, l2, p3, b2, l3, p4, e1, e2, e3, e4, e5⟩ := HF.out j hA1
      simp only [Nat.reduceAdd] at e1 e2 e3 e4 e5
      rw [(HK.out j hA1).1] at c0
      rw [e1] at c1; rw [e2] at c2; rw [e3] at c3; rw [e4] at c4; rw [e5] at c5
      have hks := (HK.out j hA1).2
      generalize hky : m[j].1 = key at c0 hks
      have HKY := Lib.hid hky
      have HKS := Lib.hid hks
      have HB0 := Lib.hid hB0
      have hbz : b < wr.heap.size := by have := HZ.out; omega
      clear hky hks hB0 e1 e2 e3 e4 e5
      have cz : (∀ h0 : 0 < j, wr.cell? ⟨b, off + (j - 1) * 6, none⟩ = some (.string m[j - 1].1)) := by
        intro h0
        obtain ⟨b', off', hh, _, d0, _⟩ := (HM.out.below HB0.out).at6 (j := j - 1) (by omega)
        cases hh
        rw [(HK.out (j - 1) (by omega)).1] at d0
        exact d0
      have HCZ := Lib.hid cz
      clear cz
      go_wp2_with fail
      refine (good_any key _ (gS key) (Nat.le_trans HKS.out sMax_le) rfl).mono ?_
      rintro e w1 ⟨rfl, hb1⟩
      generalize hWk : wr.alloc _ = Wk at hb1
      have q0 : Wk.cell? ⟨wr.heap.size, 0, none⟩ = some (.string key) := by subst hWk; simp
      have hbk : Below wr.heap.size wr Wk := by subst hWk; exact (Below.refl _ _).alloc (Nat.le_refl _) _
      have hzk : Wk.heap.size = wr.heap.size + 1 := by subst hWk; simp
      have q1 : w1.cell? ⟨wr.heap.size, 0, none⟩ = some (.string key) := by rw [hb1.cell (by show wr.heap.size < _; omega)]; exact q0
      have hbw : Below wr.heap.size wr w1 := hbk.trans (hb1.mono (by omega))
      have q4 : w1.cell? ⟨w.heap.size, 4, none⟩ = some (.slice (some ⟨b, off, none⟩) m.length p2) := by rw [hbw.cell (by show w.heap.size < _; omega)]; exact hc4
      have HBW1 := Lib.hid hbw
      have hz1 : wr.heap.size + 1 ≤ w1.heap.size := by have := hb1.size; omega
      have HGK := Lib.hid (show gS key = gS m[j].1 by rw [HKY.out])
      generalize hgk : gS key = g at HGK
      clear hWk hb1 q0 hbk hzk hbw hgk hc4 c0 c1 c2 c3 c4 c5
      by_cases hj0 : 0 < j
      · have cp : w1.cell? ⟨b, off + (j - 1) * 6, none⟩ = some (.string m[j - 1].1) := by rw [HBW1.out.cell (by show b < _; exact hbz)]; exact HCZ.out hj0
        have HLT := Lib.hid (show ltS m[j - 1].1 key = ltS m[j - 1].1 m[j].1 by rw [HKY.out])
        generalize hpk : m[j - 1].1 = pk at cp HLT
        have HPK := Lib.hid hpk
        clear hpk
        cases g with
        | false =>
          go_wp2
          go_ret
          exact ⟨ret_b (by rw [Bool.eq_iff_iff, HR.out]; simp; intro hh; have := (hh j hA1).1; rw [← HGK.out] at this; cases this), HBw.out.trans (HBW1.out.mono HBw.out.size)⟩
        | true =>
          generalize hlt : ltS pk key = lt at HLT
          have HL2 := Lib.hid hlt
          clear hlt
          have g1 : decide ((0 : Int) < (j : Int)) = true := by simp; omega
          have g2 : IntKind.i64.wrap ((j : Int) - 1) = ((j - 1 : Nat) : Int) := by rw [iw_id _ (by omega)]; omega
          have g3 : (0 : Int) ≤ ((j - 1 : Nat) : Int) := by omega
          have g4 : ((j - 1 : Nat) : Int) < (m.length : Int) := by omega
          have g5 : j - 1 < m.length := by omega
          go_wp2_with fail
          go_region_held3 (fun x => x.cell? ⟨w.heap.size, 4, none⟩ = some (.slice (some ⟨b, off, none⟩) m.length p2) ∧ x.cell? ⟨b, off + (j - 1) * 6, none⟩ = some (.string pk) ∧ x.cell? ⟨wr.heap.size, 0, none⟩ = some (.string key))
            (first | exact ⟨q4, cp, q1⟩ | exact ⟨by assumption, by assumption, by assumption⟩)
            (first | (go_at_call 63; refine (less_any _ _ lt _ HL2.out).mono ?_; rintro e w' ⟨rfl, rfl⟩))
          have hbd : Below w.heap.size w w1.drew := (HBw.out.trans (HBW1.out.mono HBw.out.size)).drew
          cases lt with
          | false =>
            go_wp2
            go_ret
            exact ⟨ret_b (by rw [Bool.eq_iff_iff, HR.out]; simp; intro hh; have := (hh j hA1).2 hj0; rw [HPK.out, ← HLT.out] at this; cases this), hbd⟩
          | true =>
            have HBD := Lib.hid (show Below W0.heap.size W0 w1.drew from (HBR.out.trans (HBW1.out.mono HBR.out.size)).drew)
            clear g1 g2 g3 g4 g5 cp q1 q4
            go_wp2
            go_roundw
            case measure => simp [intOf]; omega
            case rel =>
              refine ⟨j + 1, by omega, by go_num, HBD.out, fun i hi hij => ?_⟩
              by_cases hlt : i < j
              · exact HAL.out i hi hlt
              · obtain rfl : i = j := by omega
                exact ⟨HGK.out.symm, fun _ => by rw [HPK.out]; exact HLT.out.symm⟩
      · obtain rfl : j = 0 := by omega
        cases g with
        | false =>
          go_wp2
          go_ret
          exact ⟨ret_b (by rw [Bool.eq_iff_iff, HR.out]; simp; intro hh; have := (hh 0 hA1).1; rw [← HGK.out] at this; cases this), HBw.out.trans (HBW1.out.mono HBw.out.size)⟩
        | true =>
          have HBD := Lib.hid (fun n => belowN (HBR.out.trans (HBW1.out.mono HBR.out.size)) n)
          have g1 : decide ((0 : Int) < 0) = false := by decide
          go_wp2_with fail
          go_quiet (fail)
          go_wp2
          go_roundw
          case measure => simp [intOf]; omega
          case rel =>
            refine ⟨1, by omega, by go_num, HBD.out _, fun i hi hij => ?_⟩
            obtain rfl : i = 0 := by omega
            exact ⟨HGK.out.symm, fun h => absurd h (Nat.lt_irrefl _)⟩
    · go_wp2
      go_ret
      exact ⟨ret_b (by rw [Bool.eq_iff_iff, HR.out]; simp; intro i hi; exact HAL.out i hi (by omega)), HBw.out⟩

set_option maxHeartbeats 1000000 in
theorem map_any {n₀ : Nat} {w0 : World} (m : List (ByteArray × VT)) (cm : Nat → Nat → Value) (k n : Int) (s : ByteArray) (a1 a2 : Option Addr) (l1 p1 p2 : Nat) (hm : RowAt n₀ w0 6 (.slice a2 m.length p2) m.length cm) (hK : ∀ i (h : i < m.length), cm i 0 = .string m[i].1 ∧ m[i].1.size ≤ sMax)
    (hF : ∀ i (_ : i < m.length), Form5 (cm i) 1) (w : World) (hw : Below n₀ w0 w) (hz : n₀ ≤ w.heap.size) (r : Bool) (hr : r = true ↔ n = 0 ∧ s.toList = [] ∧ l1 = 0 ∧ KeysOK m) :
    Calls Try.prog 60 #[.agg #[.int .i64 k, .int .i64 n, .string s, .slice a1 l1 p1, .slice a2 m.length p2]] w fun e w' => e = .returned (.bool r) ∧ Below w.heap.size w w' := by
  have HR := Lib.hid hr
  have HKM := Lib.hid (fun (w : World) (hw : Below n₀ w0 w) (hz : n₀ ≤ w.heap.size) (n : Int) (l1 : Nat) => keys_any m cm k n s a1 a2 l1 p1 p2 hm hK hF w hw hz)
  have HW := Lib.hid hw
  have HZ := Lib.hid hz
  clear hr hK hm hw hz hF
  go_enter Try.func60, Try.ntmps60
  go_wp2_with fail
  · classical
    refine (HKM.out _ (HW.out.trans (((Below.refl _ w).alloc (Nat.le_refl _) _).mono HZ.out)) (by have := HZ.out; simp; omega) _ _ (decide (KeysOK m)) (by simp)).mono ?_
    rintro e w1 ⟨rfl, hb1⟩
    have hb : Below w.heap.size w w1 := ((Below.refl _ w).alloc (Nat.le_refl _) _).trans (hb1.mono (by simp))
    generalize hg : decide (KeysOK m) = g
    have HG := Lib.hid hg
    clear hg hb1
    go_wp2
    go_ret
    exact ⟨ret_b (by rw [Bool.eq_iff_iff, HR.out, ← HG.out]; simp [*]), hb⟩
  all_goals go_ret
  all_goals exact ⟨ret_b (by rw [Bool.eq_iff_iff, HR.out]; simp [*]), (Below.refl _ w).alloc (Nat.le_refl _) _⟩
end Go.Proofs.Ythcphfpkinfjoaa
