/-
  The document's own answer at lists and maps.
  Conditions: none.
-/
import Derived.Test.YthcphfpkinfjoaaValL
import Derived.Test.YthcphfpkinfjoaaValB
namespace Go.Proofs.Ythcphfpkinfjoaa
open Go.RowKit Go.Shelf

set_option maxRecDepth 100000 in
set_option maxHeartbeats 1000000 in
theorem may_list {n₀ : Nat} {w0 : World} (n : Int) (s : ByteArray) (l : List VT) (ml : Nat) (aol aom : Option Addr) (capl capm : Nat) (cl : Nat → Nat → Value) (hl : RowAt n₀ w0 5 (.slice aol l.length capl) l.length cl)
    (ih : ∀ i (h : i < l.length) (w : World), Below n₀ w0 w → n₀ ≤ w.heap.size → ∀ (r : Bool), (r = true ↔ May l[i]) → Calls Try.prog 102 #[.agg #[cl i 0, cl i 1, cl i 2, cl i 3, cl i 4]] w fun e w' => e = .returned (.bool r) ∧ Below w.heap.size w w')
    (w : World) (hw : Below n₀ w0 w) (hz : n₀ ≤ w.heap.size) (r : Bool) (hr : r = true ↔ n = 0 ∧ s.toList = [] ∧ ml = 0 ∧ ∀ i (h : i < l.length), May l[i]) :
    Calls Try.prog 102 #[.agg #[.int .i64 4, .int .i64 n, .string s, .slice aol l.length capl, .slice aom ml capm]] w fun e w' => e = .returned (.bool r) ∧ Below w.heap.size w w' := by
  have hll : l.length ≤ 1000000000000000 := by have := hl.len; have := sMax_lt; omega
  have IHL := Lib.hid ih
  have HR := Lib.hid hr
  have HRL := Lib.hid hl
  have HW := Lib.hid hw
  have HZ := Lib.hid hz
  clear ih hr hl hw hz
  go_enter Try.func102, Try.ntmps102
  go_wp2_with fail
  generalize hW0 : w.alloc _ = W0
  have hv0 : W0.heap[w.heap.size]? = some (.cells #[.int .i64 4, .int .i64 n, .string s, .slice aol l.length capl, .slice aom ml capm] 26 (0, 0)) := by subst hW0; exact World.alloc_heap_new w _
  have hw0 : Below w.heap.size w W0 := by subst hW0; exact (Below.refl _ w).alloc (Nat.le_refl _) _
  have hz0 : W0.heap.size = w.heap.size + 1 := by subst hW0; simp
  have HV0 := Lib.hid hv0
  have HW0 := Lib.hid hw0
  have HZ0 := Lib.hid hz0
  clear hW0 hv0 hw0 hz0
  go_loopw [3] (fun iv wr => ∃ j : Nat, j ≤ l.length ∧ iv = .int .i64 j ∧ Below W0.heap.size W0 wr ∧ (∀ i (h : i < l.length), i < j → May l[i])) (fun i _ => l.length - (intOf i).toNat)
  case atStart => exact ⟨0, by omega, rfl, Below.refl _ _, fun _ _ h => absurd h (Nat.not_lt_zero _)⟩
  case round =>
    obtain ⟨j, hj, rfl, hbr, hal⟩ := hrel
    have hv1 := (hbr.block _ (by have := HZ0.out; omega)).trans HV0.out
    obtain ⟨x0, x1, x2, x3, x4⟩ := c5of hv1
    have HBR := Lib.hid hbr
    have HAL := Lib.hid hal
    have HBw := Lib.hid (HW0.out.trans (hbr.mono HW0.out.size))
    clear hbr hal hv1
    by_cases hA1 : j < l.length
    · have HB0 := Lib.hid (show Below n₀ w0 wr from HW.out.trans (HBw.out.mono HZ.out))
      obtain ⟨b, off, rfl, hbn, c0, c1, c2, c3, c4⟩ := (HRL.out.below HB0.out).at5 hA1
      by_cases hx : May l[j]
      · have HX := Lib.hid hx
        clear hx
        go_wp2_with fail
        refine (IHL.out j hA1 _ HB0.out (by have := HZ.out; have := HBw.out.size; omega) true (by simp [HX.out])).mono ?_
        rintro e w' ⟨rfl, hb'⟩
        go_wp2
        go_roundw
        case measure => simp [intOf]; omega
        case rel =>
          refine ⟨j + 1, by omega, by go_num, HBR.out.trans (hb'.mono HBR.out.size), fun i hi hij => ?_⟩
          by_cases hlt : i < j
          · exact HAL.out i hi hlt
          · obtain rfl : i = j := by omega
            exact HX.out
      · have HX := Lib.hid hx
        clear hx
        go_wp2_with fail
        refine (IHL.out j hA1 _ HB0.out (by have := HZ.out; have := HBw.out.size; omega) false (by simp [HX.out])).mono ?_
        rintro e w' ⟨rfl, hb'⟩
        go_wp2
        go_ret
        exact ⟨ret_b (by rw [Bool.eq_iff_iff, HR.out]; simp; intro _ _ _; exact ⟨j, hA1, HX.out⟩), HBw.out.trans (hb'.mono HBw.out.size)⟩
    · have hall : ∀ i (h : i < l.length), May l[i] := fun i hi => HAL.out i hi (by omega)
      have hiff : r = true ↔ n = 0 ∧ s.toList = [] ∧ ml = 0 := by rw [HR.out]; constructor; exact fun h => ⟨h.1, h.2.1, h.2.2.1⟩; exact fun h => ⟨h.1, h.2.1, h.2.2, hall⟩
      have HIFF := Lib.hid hiff
      clear hall hiff
      go_wp2
      all_goals go_ret
      all_goals exact ⟨ret_b (by rw [Bool.eq_iff_iff, HIFF.out]; first | (simp [*]; done) | (simp; intros; omega)), HBw.out⟩

/-- What holds of the keys and values ahead of j. -/
def MapTo (m : List (ByteArray × VT)) (j : Nat) : Prop := ∀ i (h : i < m.length), i < j → gS m[i].1 = true ∧ (∀ h0 : 0 < i, ltS m[i - 1].1 m[i].1 = true) ∧ May m[i].2
theorem MapTo.step {m : List (ByteArray × VT)} {j : Nat} (h : MapTo m j) (hj : j < m.length) (h1 : gS m[j].1 = true) (h2 : ∀ h0 : 0 < j, ltS m[j - 1].1 m[j].1 = true) (h3 : May m[j].2) : MapTo m (j + 1) := fun i hi hij => by
  by_cases hlt : i < j
  · exact h i hi hlt
  · obtain rfl : i = j := by omega
    exact ⟨h1, h2, h3⟩
theorem bl_total : ∀ (a b : List UInt8), (Op.bytesLess a b || a == b) = !Op.bytesLess b a
  | [], [] => rfl
  | [], _ :: _ => rfl
  | _ :: _, [] => rfl
  | x :: a, y :: b => by
    have ih := bl_total a b
    simp only [Op.bytesLess, List.cons_beq_cons]
    rcases Nat.lt_trichotomy x.toNat y.toNat with h | h | h
    · have h1 : x < y := h
      have h2 : ¬ y < x := fun h' => by have : y.toNat < x.toNat := h'; omega
      have h3 : ¬ y = x := fun e => by subst e; omega
      simp [h1, h2, h3]
    · have h1 : x = y := UInt8.toNat_inj.1 h
      subst h1
      simp only [BEq.rfl, Bool.true_and]
      have : ¬ x < x := fun h' => by have : x.toNat < x.toNat := h'; omega
      simp only [this, decide_false, Bool.false_or]
      exact ih
    · have h1 : y < x := h
      have h2 : ¬ x < y := fun h' => by have : x.toNat < y.toNat := h'; omega
      have h3 : ¬ x = y := fun e => by subst e; omega
      simp [h1, h2, h3]

set_option maxRecDepth 100000 in
set_option maxHeartbeats 1000000 in
theorem may_map {n₀ : Nat} {w0 : World} (n : Int) (s : ByteArray) (m : List (ByteArray × VT)) (ll : Nat) (aol aom : Option Addr) (capl capm : Nat) (cm : Nat → Nat → Value) (hm : RowAt n₀ w0 6 (.slice aom m.length capm) m.length cm)
    (hK : ∀ i (h : i < m.length), cm i 0 = .string m[i].1 ∧ m[i].1.size ≤ sMax)
    (ih : ∀ i (h : i < m.length) (w : World), Below n₀ w0 w → n₀ ≤ w.heap.size → ∀ (r : Bool), (r = true ↔ May m[i].2) → Calls Try.prog 102 #[.agg #[cm i 1, cm i 2, cm i 3, cm i 4, cm i 5]] w fun e w' => e = .returned (.bool r) ∧ Below w.heap.size w w')
    (w : World) (hw : Below n₀ w0 w) (hz : n₀ ≤ w.heap.size) (r : Bool) (hr : r = true ↔ n = 0 ∧ s.toList = [] ∧ ll = 0 ∧ MapTo m m.length) :
    Calls Try.prog 102 #[.agg #[.int .i64 5, .int .i64 n, .string s, .slice aol ll capl, .slice aom m.length capm]] w fun e w' => e = .returned (.bool r) ∧ Below w.heap.size w w' := by
  have hmm : m.length ≤ 1000000000000000 := by have := hm.len; have := sMax_lt; omega
  have IHM := Lib.hid ih
  have HR := Lib.hid hr
  have HRM := Lib.hid hm
  have HW := Lib.hid hw
  have HZ := Lib.hid hz
  have HK := Lib.hid hK
  clear ih hr hm hw hz hK
  go_enter Try.func102, Try.ntmps102
  go_wp2_with fail
  generalize hW0 : w.alloc _ = W0
  have hv0 : W0.heap[w.heap.size]? = some (.cells #[.int .i64 5, .int .i64 n, .string s, .slice aol ll capl, .slice aom m.length capm] 26 (0, 0)) := by subst hW0; exact World.alloc_heap_new w _
  have hw0 : Below w.heap.size w W0 := by subst hW0; exact (Below.refl _ w).alloc (Nat.le_refl _) _
  have hz0 : W0.heap.size = w.heap.size + 1 := by subst hW0; simp
  have HV0 := Lib.hid hv0
  have HW0 := Lib.hid hw0
  have HZ0 := Lib.hid hz0
  clear hW0 hv0 hw0 hz0
  go_loopw [4] (fun iv wr => ∃ j : Nat, j ≤ m.length ∧ iv = .int .i64 j ∧ Below W0.heap.size W0 wr ∧ MapTo m j) (fun i _ => m.length - (intOf i).toNat)
  case atStart => exact ⟨0, by omega, rfl, Below.refl _ _, fun _ _ h => absurd h (Nat.not_lt_zero _)⟩
  case round =>
    obtain ⟨j, hj, rfl, hbr, hal⟩ := hrel
    have hv1 := (hbr.block _ (by have := HZ0.out; omega)).trans HV0.out
    obtain ⟨x0, x1, x2, x3, x4⟩ := c5of hv1
    have HBR := Lib.hid hbr
    have HAL := Lib.hid hal
    have HBw := Lib.hid (HW0.out.trans (hbr.mono HW0.out.size))
    have hzr : w.heap.size < wr.heap.size := by have := hbr.size; have := HZ0.out; omega
    clear hbr hal hv1
    by_cases hA1 : j < m.length
    · have HB0 := Lib.hid (show Below n₀ w0 wr from HW.out.trans (HBw.out.mono HZ.out))
      obtain ⟨b, off, rfl, hbn, c0, c1, c2, c3, c4, c5⟩ := (HRM.out.below HB0.out).at6 hA1
      rw [(HK.out j hA1).1] at c0
      have hks := (HK.out j hA1).2
      generalize hky : m[j].1 = key at c0 hks
      have HKY := Lib.hid hky
      have HKS := Lib.hid hks
      have hbz : b < wr.heap.size := by have := HZ.out; omega
      clear hky hks
      have cz : (∀ h0 : 0 < j, wr.cell? ⟨b, off + (j - 1) * 6, none⟩ = some (.string m[j - 1].1)) := by
        intro h0
        obtain ⟨b', off', hh, _, d0, _⟩ := (HRM.out.below HB0.out).at6 (j := j - 1) (by omega)
        cases hh
        rw [(HK.out (j - 1) (by omega)).1] at d0
        exact d0
      have HCZ := Lib.hid cz
      clear cz
      have g8 : (0 : Int) ≤ (j : Int) := by omega
      have g9 : (j : Int) < (m.length : Int) := by omega
      generalize hgk : gS key = g
      have HGK := Lib.hid hgk
      clear hgk
      have HGR := Lib.hid (fun (w : World) => (refGood_any key w g (Nat.le_trans HKS.out sMax_le) HGK.out).mono (R' := fun e w' => e = .returned (.bool g) ∧ w' = w) (fun e w' h => ⟨h.1, h.2.symm⟩))
      cases g with
      | false =>
        go_wp2_with fail
        go_quiet (first | (go_at_call 54; refine Calls.quiet_of_same (HGR.out _)))
        go_wp2
        go_ret
        exact ⟨ret_b (by rw [Bool.eq_iff_iff, HR.out]; simp; intro _ _ _ hh; have := (hh j hA1 hA1).1; rw [HKY.out, HGK.out] at this; cases this), belowN HBw.out _⟩
      | true =>
        by_cases hj0 : 0 < j
        · have cp := HCZ.out hj0
          generalize hpk : m[j - 1].1 = pk at cp
          have HPK := Lib.hid hpk
          clear hpk
          have g1 : decide ((0 : Int) < (j : Int)) = true := by simp; omega
          have g2 : IntKind.i64.wrap ((j : Int) - 1) = ((j - 1 : Nat) : Int) := by rw [iw_id _ (by omega)]; omega
          have g3 : (0 : Int) ≤ ((j - 1 : Nat) : Int) := by omega
          have g4 : ((j - 1 : Nat) : Int) < (m.length : Int) := by omega
          have g5 : j - 1 < m.length := by omega
          have htot := bl_total key.toList pk.toList
          generalize hlt : Op.bytesLess pk.toList key.toList = lt at htot
          have HLT := Lib.hid hlt
          clear hlt
          cases lt with
          | false =>
            have htot' : (Op.bytesLess key.toList pk.toList || key.toList == pk.toList) = true := htot
            clear htot
            go_wp2_with fail
            go_quiet (first | (go_at_call 54; refine Calls.quiet_of_same (HGR.out _)))
            go_wp2
            go_ret
            exact ⟨ret_b (by rw [Bool.eq_iff_iff, HR.out]; simp; intro _ _ _ hh; have := (hh j hA1 hA1).2.1 hj0; rw [HKY.out, HPK.out] at this; unfold ltS at this; rw [HLT.out] at this; cases this), belowN HBw.out _⟩
          | true =>
            have htot' : (Op.bytesLess key.toList pk.toList || key.toList == pk.toList) = false := htot
            clear htot
            by_cases hx : May m[j].2
            · have HX := Lib.hid hx
              clear hx
              go_wp2_with fail
              go_region_held3 (fun x => x.cell? ⟨w.heap.size, 4, none⟩ = some (.slice (some ⟨b, off, none⟩) m.length capm) ∧ x.cell? ⟨b, off + j * 6, none⟩ = some (.string key) ∧ x.cell? ⟨b, off + j * 6 + 1, none⟩ = some (cm j 1) ∧ x.cell? ⟨b, off + j * 6 + 2, none⟩ = some (cm j 2) ∧ x.cell? ⟨b, off + j * 6 + 3, none⟩ = some (cm j 3) ∧ x.cell? ⟨b, off + j * 6 + 4, none⟩ = some (cm j 4) ∧ x.cell? ⟨b, off + j * 6 + 5, none⟩ = some (cm j 5) ∧ x.cell? ⟨b, off + (j - 1) * 6, none⟩ = some (.string pk))
                (first | exact ⟨x4, c0, c1, c2, c3, c4, c5, cp⟩ | exact ⟨by assumption, by assumption, by assumption, by assumption, by assumption, by assumption, by assumption, by assumption⟩)
                (first
                  | (go_at_call 54; refine (HGR.out _).mono ?_; rintro e w1 ⟨rfl, rfl⟩)
                  | (go_at_call 102; refine (IHM.out j hA1 _ HB0.out.drew (by have := HZ.out; have := HBw.out.size; simp; omega) true (by simp [HX.out])).mono ?_; rintro e w' ⟨rfl, hb0⟩; have hb' : Below wr.heap.size wr w' := (Below.refl _ wr).drew.trans hb0; clear hb0; have k4 := (hb'.cell (p := ⟨w.heap.size, 4, none⟩) hzr).trans x4; have d0 := (hb'.cell (p := ⟨b, off + j * 6, none⟩) hbz).trans c0; have d1 := (hb'.cell (p := ⟨b, off + j * 6 + 1, none⟩) hbz).trans c1; have d2 := (hb'.cell (p := ⟨b, off + j * 6 + 2, none⟩) hbz).trans c2; have d3 := (hb'.cell (p := ⟨b, off + j * 6 + 3, none⟩) hbz).trans c3; have d4 := (hb'.cell (p := ⟨b, off + j * 6 + 4, none⟩) hbz).trans c4; have d5 := (hb'.cell (p := ⟨b, off + j * 6 + 5, none⟩) hbz).trans c5; have d6 := (hb'.cell (p := ⟨b, off + (j - 1) * 6, none⟩) hbz).trans cp))
              go_wp2
              go_roundw
              case measure => simp [intOf]; omega
              case rel => exact ⟨j + 1, by omega, by go_num, HBR.out.trans (hb'.mono HBR.out.size), HAL.out.step hA1 (by rw [HKY.out]; exact HGK.out) (fun _ => by rw [HKY.out, HPK.out]; exact HLT.out) HX.out⟩
            · have HX := Lib.hid hx
              clear hx
              go_wp2_with fail
              go_region_held3 (fun x => x.cell? ⟨w.heap.size, 4, none⟩ = some (.slice (some ⟨b, off, none⟩) m.length capm) ∧ x.cell? ⟨b, off + j * 6, none⟩ = some (.string key) ∧ x.cell? ⟨b, off + j * 6 + 1, none⟩ = some (cm j 1) ∧ x.cell? ⟨b, off + j * 6 + 2, none⟩ = some (cm j 2) ∧ x.cell? ⟨b, off + j * 6 + 3, none⟩ = some (cm j 3) ∧ x.cell? ⟨b, off + j * 6 + 4, none⟩ = some (cm j 4) ∧ x.cell? ⟨b, off + j * 6 + 5, none⟩ = some (cm j 5) ∧ x.cell? ⟨b, off + (j - 1) * 6, none⟩ = some (.string pk))
                (first | exact ⟨x4, c0, c1, c2, c3, c4, c5, cp⟩ | exact ⟨by assumption, by assumption, by assumption, by assumption, by assumption, by assumption, by assumption, by assumption⟩)
                (first
                  | (go_at_call 54; refine (HGR.out _).mono ?_; rintro e w1 ⟨rfl, rfl⟩)
                  | (go_at_call 102; refine (IHM.out j hA1 _ HB0.out.drew (by have := HZ.out; have := HBw.out.size; simp; omega) false (by simp [HX.out])).mono ?_; rintro e w' ⟨rfl, hb0⟩; have hb' : Below wr.heap.size wr w' := (Below.refl _ wr).drew.trans hb0; clear hb0; have k4 := (hb'.cell (p := ⟨w.heap.size, 4, none⟩) hzr).trans x4; have d0 := (hb'.cell (p := ⟨b, off + j * 6, none⟩) hbz).trans c0; have d1 := (hb'.cell (p := ⟨b, off + j * 6 + 1, none⟩) hbz).trans c1; have d2 := (hb'.cell (p := ⟨b, off + j * 6 + 2, none⟩) hbz).trans c2; have d3 := (hb'.cell (p := ⟨b, off + j * 6 + 3, none⟩) hbz).trans c3; have d4 := (hb'.cell (p := ⟨b, off + j * 6 + 4, none⟩) hbz).trans c4; have d5 := (hb'.cell (p := ⟨b, off + j * 6 + 5, none⟩) hbz).trans c5; have d6 := (hb'.cell (p := ⟨b, off + (j - 1) * 6, none⟩) hbz).trans cp))
              go_wp2
              go_ret
              exact ⟨ret_b (by rw [Bool.eq_iff_iff, HR.out]; simp; intro _ _ _ hh; exact HX.out (hh j hA1 hA1).2.2), HBw.out.trans (hb'.mono HBw.out.size)⟩
        · have g1 : decide ((0 : Int) < (j : Int)) = false := by simp; omega
          have HJ0 := Lib.hid hj0
          by_cases hx : May m[j].2
          · have HX := Lib.hid hx
            clear hx
            have HMAY := Lib.hid (fun p : KidOf wr => IHM.out j hA1 p.x (HB0.out.trans (p.h.mono (by have := HZ.out; have := HBw.out.size; omega))) (by have := HZ.out; have := HBw.out.size; have := p.h.size; omega) true (by simp [HX.out]))
            have k4 := fun p => KidOf.cell hzr x4 p
            have d0 := fun p => KidOf.cell hbz c0 p
            have d1 := fun p => KidOf.cell hbz c1 p
            have d2 := fun p => KidOf.cell hbz c2 p
            have d3 := fun p => KidOf.cell hbz c3 p
            have d4 := fun p => KidOf.cell hbz c4 p
            have d5 := fun p => KidOf.cell hbz c5 p
            go_wp2_with fail
            refine wp_region_below (by kernel_rfl) (by kernel_rfl) ?_
            repeat (go_big_quiet_step (first | (go_at_call 54; exact Calls.below_of ((HGR.out _).mono fun _ _ h => ⟨h.1, by rw [h.2]; exact Below.refl _ _⟩)) | (go_at_call 102; exact Calls.below_of (HMAY.out _))))
            refine wpQuiet_nil ?_
            rintro _ ⟨⟨w', hb'⟩, rfl⟩
            go_wp2
            go_roundw
            case measure => simp [intOf]; omega
            case rel => exact ⟨j + 1, by omega, by go_num, HBR.out.trans (hb'.mono HBR.out.size), HAL.out.step hA1 (by rw [HKY.out]; exact HGK.out) (fun h => absurd h HJ0.out) HX.out⟩
          · have HX := Lib.hid hx
            clear hx
            have HMAY := Lib.hid (fun p : KidOf wr => IHM.out j hA1 p.x (HB0.out.trans (p.h.mono (by have := HZ.out; have := HBw.out.size; omega))) (by have := HZ.out; have := HBw.out.size; have := p.h.size; omega) false (by simp [HX.out]))
            have k4 := fun p => KidOf.cell hzr x4 p
            have d0 := fun p => KidOf.cell hbz c0 p
            have d1 := fun p => KidOf.cell hbz c1 p
            have d2 := fun p => KidOf.cell hbz c2 p
            have d3 := fun p => KidOf.cell hbz c3 p
            have d4 := fun p => KidOf.cell hbz c4 p
            have d5 := fun p => KidOf.cell hbz c5 p
            go_wp2_with fail
            refine wp_region_below (by kernel_rfl) (by kernel_rfl) ?_
            repeat (go_big_quiet_step (first | (go_at_call 54; exact Calls.below_of ((HGR.out _).mono fun _ _ h => ⟨h.1, by rw [h.2]; exact Below.refl _ _⟩)) | (go_at_call 102; exact Calls.below_of (HMAY.out _))))
            refine wpQuiet_nil ?_
            rintro _ ⟨⟨w', hb'⟩, rfl⟩
            go_wp2
            go_ret
            exact ⟨ret_b (by rw [Bool.eq_iff_iff, HR.out]; simp; intro _ _ _ hh; exact HX.out (hh j hA1 hA1).2.2), HBw.out.trans (hb'.mono HBw.out.size)⟩
    · have hall : MapTo m m.length := by have e : j = m.length := by omega
                                         rw [← e]; exact HAL.out
      have hiff : r = true ↔ n = 0 ∧ s.toList = [] ∧ ll = 0 := by rw [HR.out]; constructor; exact fun h => ⟨h.1, h.2.1, h.2.2.1⟩; exact fun h => ⟨h.1, h.2.1, h.2.2, hall⟩
      have HIFF := Lib.hid hiff
      clear hall hiff
      go_wp2
      all_goals go_ret
      all_goals exact ⟨ret_b (by rw [Bool.eq_iff_iff, HIFF.out]; first | (simp [*]; done) | (simp; intros; omega)), HBw.out⟩
end Go.Proofs.Ythcphfpkinfjoaa
