/-
  The document's own answer: whether two values are the same in all parts.
  Conditions: none.
-/
import Derived.Test.YthcphfpkinfjoaaValB
import Derived.Test.YthcphfpkinfjoaaValV
namespace Go.Proofs.Ythcphfpkinfjoaa
open Go.RowKit

theorem bytes_eq {a b : ByteArray} : a.toList = b.toList ↔ a = b := by
  constructor
  · intro h; rw [ByteArray.toList_eq, ByteArray.toList_eq] at h; exact Go.WideShapes.bytes_inj h
  · intro h; rw [h]
theorem list_eq_iff {α : Type} (l l' : List α) (h : l.length = l'.length) : l = l' ↔ ∀ i (h1 : i < l.length), l[i] = l'[i]'(by omega) := by
  constructor
  · intro e; subst e; intros; rfl
  · intro hh; exact List.ext_getElem h (fun i h1 _ => hh i h1)

set_option maxRecDepth 100000 in
set_option maxHeartbeats 2000000 in
theorem rsame_any {n₀ : Nat} {w0 : World} {t : VT} {v : Value} (h : VAt n₀ w0 t v) : ∀ {u : VT} {v' : Value} (_ : VAt n₀ w0 u v') (w : World) (_ : Below n₀ w0 w) (_ : n₀ ≤ w.heap.size) (r : Bool) (_ : r = true ↔ t = u),
    Calls Try.prog 28 #[v, v'] w fun e w' => e = .returned (.bool r) ∧ Below w.heap.size w w' := by
  induction h with
  | @mk k n s l m sl sm cl cm hk hn hs hl hm hL hK hM ihL ihM =>
    intro u v' h' w hw hz r hr
    cases h' with
    | @mk k' n' s' l' m' sl' sm' cl' cm' hk' hn' hs' hl' hm' hL' hK' hM' =>
    obtain ⟨aol, capl, rfl, -⟩ := hl.form
    obtain ⟨aom, capm, rfl, -⟩ := hm.form
    obtain ⟨aol', capl', rfl, -⟩ := hl'.form
    obtain ⟨aom', capm', rfl, -⟩ := hm'.form
    have hll : l.length ≤ 1000000000000000 := by have := hl.len; have := sMax_lt; omega
    have hmm : m.length ≤ 1000000000000000 := by have := hm.len; have := sMax_lt; omega
    have IHL := Lib.hid ihL
    have IHM := Lib.hid ihM
    have HR := Lib.hid hr
    have HKE := Lib.hid hK
    have HKE' := Lib.hid hK'
    have HL' := Lib.hid hL'
    have HM' := Lib.hid hM'
    have HRL := Lib.hid hl
    have HRM := Lib.hid hm
    have HRL' := Lib.hid hl'
    have HRM' := Lib.hid hm'
    have HW := Lib.hid hw
    have HZ := Lib.hid hz
    clear hr hs hk hn ihL ihM hL hM hK hl hm hw hz hk' hn' hs' hl' hm' hL' hK' hM'
    go_enter Try.func28, Try.ntmps28
    go_wp2_with fail
    rotate_left
    · have e1 : k = k' := by assumption
      have e2 : n = n' := by assumption
      have e3 : s = s' := bytes_eq.1 (by assumption)
      have e4 : l.length = l'.length := by omega
      have e5' : ((m.length : Int) != m'.length) = false := by assumption
      have e5 : m.length = m'.length := by simp at e5'; omega
      subst e1 e2 e3
      have hiff : r = true ↔ (∀ i : Nat, l[i]? = l'[i]?) ∧ (∀ i : Nat, m[i]? = m'[i]?) := by
        rw [HR.out]
        constructor
        · intro e; cases e; exact ⟨fun _ => rfl, fun _ => rfl⟩
        · rintro ⟨h1, h2⟩; rw [List.ext_getElem? h1, List.ext_getElem? h2]
      have HE := Lib.hid (And.intro e4 e5)
      clear e4 e5 e5'
      clear ‹(l.length : Int) = (l'.length : Int)›
      clear ‹((m.length : Int) != (m'.length : Int)) = false›
      generalize hW2 : (w.alloc _).alloc _ = W2
      have hv1 : W2.heap[w.heap.size]? = some (.cells #[.int .i64 k, .int .i64 n, .string s, .slice aol l.length capl, .slice aom m.length capm] 26 (0, 0)) := by
        subst hW2; rw [Below.heap_alloc _ _ _ (by simp)]; exact World.alloc_heap_new w _
      have hv2 : W2.heap[w.heap.size + 1]? = some (.cells #[.int .i64 k, .int .i64 n, .string s, .slice aol' l'.length capl', .slice aom' m'.length capm'] 26 (0, 0)) := by
        subst hW2; have := World.alloc_heap_new (w.alloc (.cells #[.int .i64 k, .int .i64 n, .string s, .slice aol l.length capl, .slice aom m.length capm] 26)) (.cells #[.int .i64 k, .int .i64 n, .string s, .slice aol' l'.length capl', .slice aom' m'.length capm'] 26); rwa [World.size_alloc] at this
      have hb2 : Below w.heap.size w W2 := by subst hW2; exact ((Below.refl _ w).alloc (Nat.le_refl _) _).alloc (by simp) _
      have hz2 : w.heap.size + 2 ≤ W2.heap.size := by subst hW2; simp
      have HB2 := Lib.hid hb2
      have HZ2 := Lib.hid hz2
      have HV1 := Lib.hid hv1
      have HV2 := Lib.hid hv2
      have HIFF := Lib.hid hiff
      clear hW2 hv1 hv2 hb2 hz2 hiff
      go_loopw [5] (fun iv wq => ∃ j : Nat, j ≤ l.length ∧ iv = .int .i64 j ∧ Below W2.heap.size W2 wq ∧ (∀ i : Nat, i < j → l[i]? = l'[i]?)) (fun i _ => l.length - (intOf i).toNat)
      case atStart => exact ⟨0, by omega, rfl, Below.refl _ _, fun _ h => absurd h (Nat.not_lt_zero _)⟩
      case round =>
        obtain ⟨j, hj, rfl, hbr, hal⟩ := hrel
        have HBR := Lib.hid (HB2.out.trans (hbr.mono HB2.out.size))
        have HBI := Lib.hid hbr
        have HAL := Lib.hid hal
        have hzr : w.heap.size + 1 < wr.heap.size := by have := hbr.size; have := HZ2.out; omega
        have hv1 := (hbr.block _ (by have := HZ2.out; omega)).trans HV1.out
        have hv2 := (hbr.block _ (by have := HZ2.out; omega)).trans HV2.out
        obtain ⟨x0, x1, x2, x3, x4⟩ := c5of hv1
        obtain ⟨y0, y1, y2, y3, y4⟩ := c5of hv2
        have HVN := Lib.hid (And.intro hv1 hv2)
        clear hv1 hv2
        clear hbr hal
        by_cases hj1 : j < l.length
        · have HB0 := Lib.hid (show Below n₀ w0 wr from HW.out.trans (HBR.out.mono HZ.out))
          obtain ⟨b, off, rfl, hbn, c0, c1, c2, c3, c4⟩ := (HRL.out.below HB0.out).at5 hj1
          obtain ⟨b', off', rfl, hbn', d0, d1, d2, d3, d4⟩ := (HRL'.out.below HB0.out).at5 (j := j) (by have := HE.out; omega)
          have hbz : b < wr.heap.size := by have := HZ.out; omega
          have hbz' : b' < wr.heap.size := by have := HZ.out; omega
          have k3 := fun p => KidOf.cell (show w.heap.size < wr.heap.size by omega) x3 p
          have q3 := fun p => KidOf.cell hzr y3 p
          have kc0 := fun p => KidOf.cell hbz c0 p
          have kd0 := fun p => KidOf.cell hbz' d0 p
          have kc1 := fun p => KidOf.cell hbz c1 p
          have kd1 := fun p => KidOf.cell hbz' d1 p
          have kc2 := fun p => KidOf.cell hbz c2 p
          have kd2 := fun p => KidOf.cell hbz' d2 p
          have kc3 := fun p => KidOf.cell hbz c3 p
          have kd3 := fun p => KidOf.cell hbz' d3 p
          have kc4 := fun p => KidOf.cell hbz c4 p
          have kd4 := fun p => KidOf.cell hbz' d4 p
          have g8 : (0 : Int) ≤ (j : Int) := by omega
          have g9 : (j : Int) < (l.length : Int) := by omega
          have g6 : j < l'.length := by have := HE.out; omega
          have g7 : (j : Int) < (l'.length : Int) := by omega
          by_cases hx : l[j] = l'[j]
          · have HX := Lib.hid hx
            clear hx
            have HCALL := Lib.hid (fun p : KidOf wr => IHL.out j hj1 (HL'.out j g6) p.x (HB0.out.trans (p.h.mono (by have := HZ.out; omega))) (by have := HZ.out; have := p.h.size; omega) true (by simp [HX.out]))
            go_wp2_with fail
            refine wp_region_below (by kernel_rfl) (by kernel_rfl) ?_
            repeat (go_big_quiet_step (first | (go_at_call 28; exact Calls.below_of (HCALL.out _))))
            refine wpQuiet_nil ?_
            rintro _ ⟨⟨w', hb'⟩, rfl⟩
            go_wp2
            go_roundw
            case measure => simp [intOf]; omega
            case rel =>
              refine ⟨j + 1, by omega, by go_num, HBI.out.trans (hb'.mono HBI.out.size), fun i hij => ?_⟩
              by_cases hlt : i < j
              · exact HAL.out i hlt
              · obtain rfl : i = j := by omega
                rw [List.getElem?_eq_getElem hj1, List.getElem?_eq_getElem g6, HX.out]
          · have HX := Lib.hid hx
            clear hx
            have HCALL := Lib.hid (fun p : KidOf wr => IHL.out j hj1 (HL'.out j g6) p.x (HB0.out.trans (p.h.mono (by have := HZ.out; omega))) (by have := HZ.out; have := p.h.size; omega) false (by simp [HX.out]))
            go_wp2_with fail
            refine wp_region_below (by kernel_rfl) (by kernel_rfl) ?_
            repeat (go_big_quiet_step (first | (go_at_call 28; exact Calls.below_of (HCALL.out _))))
            refine wpQuiet_nil ?_
            rintro _ ⟨⟨w', hb'⟩, rfl⟩
            go_wp2
            go_ret
            exact ⟨ret_b (Eq.symm (by rw [← Bool.not_eq_true, HIFF.out]; intro hh; have := hh.1 j; rw [List.getElem?_eq_getElem hj1, List.getElem?_eq_getElem g6] at this; exact HX.out (Option.some.inj this))), HBR.out.trans (hb'.mono HBR.out.size)⟩
        · have HLL := Lib.hid (show ∀ i : Nat, l[i]? = l'[i]? from fun i => by
            by_cases hi : i < j
            · exact HAL.out i hi
            · rw [List.getElem?_eq_none (by omega), List.getElem?_eq_none (by have := HE.out; omega)])
          go_wp2_with fail
          clear HB2 HZ2 HV1 HV2 HBI HAL
          have HB2 := Lib.hid HBR.out
          have HZ2 := Lib.hid (show w.heap.size + 2 ≤ wr.heap.size by omega)
          have HV1 := Lib.hid HVN.out.1
          have HV2 := Lib.hid HVN.out.2
          clear HBR HVN
          go_loopw [6] (fun iv wq => ∃ j : Nat, j ≤ m.length ∧ iv = .int .i64 j ∧ Below wr.heap.size wr wq ∧ (∀ i : Nat, i < j → m[i]? = m'[i]?)) (fun i _ => m.length - (intOf i).toNat)
          case atStart => exact ⟨0, by omega, rfl, Below.refl _ _, fun _ h => absurd h (Nat.not_lt_zero _)⟩
          case round =>
            obtain ⟨j, hj, rfl, hbr, hal⟩ := hrel
            have HBR := Lib.hid (HB2.out.trans (hbr.mono HB2.out.size))
            have HBI := Lib.hid hbr
            have HAL := Lib.hid hal
            have hzr : w.heap.size + 1 < wr.heap.size := by have := hbr.size; have := HZ2.out; omega
            have hv1 := (hbr.block _ (by have := HZ2.out; omega)).trans HV1.out
            have hv2 := (hbr.block _ (by have := HZ2.out; omega)).trans HV2.out
            obtain ⟨x0, x1, x2, x3, x4⟩ := c5of hv1
            obtain ⟨y0, y1, y2, y3, y4⟩ := c5of hv2
            clear hv1 hv2
            clear hbr hal
            by_cases hj1 : j < m.length
            · have HB0 := Lib.hid (show Below n₀ w0 wr from HW.out.trans (HBR.out.mono HZ.out))
              obtain ⟨b, off, rfl, hbn, c0, c1, c2, c3, c4, c5⟩ := (HRM.out.below HB0.out).at6 hj1
              obtain ⟨b', off', rfl, hbn', d0, d1, d2, d3, d4, d5⟩ := (HRM'.out.below HB0.out).at6 (j := j) (by have := HE.out; omega)
              have hbz : b < wr.heap.size := by have := HZ.out; omega
              have hbz' : b' < wr.heap.size := by have := HZ.out; omega
              rw [(HKE.out j hj1).1] at c0
              have hj2 : j < m'.length := by have := HE.out; omega
              rw [(HKE'.out j hj2).1] at d0
              generalize hky : m[j].1 = key at c0
              generalize hky' : m'[j].1 = key' at d0
              have HKY := Lib.hid (show m[j]? = some (key, m[j].2) ∧ m'[j]? = some (key', m'[j].2) by subst hky hky'; simp [hj1, hj2])
              clear hky hky'
              have k3 := fun p => KidOf.cell (show w.heap.size < wr.heap.size by omega) x4 p
              have q3 := fun p => KidOf.cell hzr y4 p
              have kc0 := fun p => KidOf.cell hbz c0 p
              have kd0 := fun p => KidOf.cell hbz' d0 p
              have kc1 := fun p => KidOf.cell hbz c1 p
              have kd1 := fun p => KidOf.cell hbz' d1 p
              have kc2 := fun p => KidOf.cell hbz c2 p
              have kd2 := fun p => KidOf.cell hbz' d2 p
              have kc3 := fun p => KidOf.cell hbz c3 p
              have kd3 := fun p => KidOf.cell hbz' d3 p
              have kc4 := fun p => KidOf.cell hbz c4 p
              have kd4 := fun p => KidOf.cell hbz' d4 p
              have kc5 := fun p => KidOf.cell hbz c5 p
              have kd5 := fun p => KidOf.cell hbz' d5 p
              have g8 : (0 : Int) ≤ (j : Int) := by omega
              have g9 : (j : Int) < (m.length : Int) := by omega
              have g6 : j < m'.length := by have := HE.out; omega
              have g7 : (j : Int) < (m'.length : Int) := by omega
              by_cases hk : key.toList = key'.toList
              · have HKK := Lib.hid (bytes_eq.1 hk)
                by_cases hx : m[j].2 = m'[j].2
                · have HX := Lib.hid hx
                  clear hx
                  have HCALL := Lib.hid (fun p : KidOf wr => IHM.out j hj1 (HM'.out j g6) p.x (HB0.out.trans (p.h.mono (by have := HZ.out; omega))) (by have := HZ.out; have := p.h.size; omega) true (by simp [HX.out]))
                  go_wp2_with fail
                  refine wp_region_below (by kernel_rfl) (by kernel_rfl) ?_
                  repeat (go_big_quiet_step (first | (go_at_call 28; exact Calls.below_of (HCALL.out _))))
                  refine wpQuiet_nil ?_
                  rintro _ ⟨⟨w', hb'⟩, rfl⟩
                  go_wp2
                  go_roundw
                  case measure => simp [intOf]; omega
                  case rel =>
                    refine ⟨j + 1, by omega, by go_num, HBI.out.trans (hb'.mono HBI.out.size), fun i hij => ?_⟩
                    by_cases hlt : i < j
                    · exact HAL.out i hlt
                    · obtain rfl : i = j := by omega
                      rw [HKY.out.1, HKY.out.2, HKK.out, HX.out]
                · have HX := Lib.hid hx
                  clear hx
                  have HCALL := Lib.hid (fun p : KidOf wr => IHM.out j hj1 (HM'.out j g6) p.x (HB0.out.trans (p.h.mono (by have := HZ.out; omega))) (by have := HZ.out; have := p.h.size; omega) false (by simp [HX.out]))
                  go_wp2_with fail
                  refine wp_region_below (by kernel_rfl) (by kernel_rfl) ?_
                  repeat (go_big_quiet_step (first | (go_at_call 28; exact Calls.below_of (HCALL.out _))))
                  refine wpQuiet_nil ?_
                  rintro _ ⟨⟨w', hb'⟩, rfl⟩
                  go_wp2
                  go_ret
                  exact ⟨ret_b (Eq.symm (by rw [← Bool.not_eq_true, HIFF.out]; intro hh; have := hh.2 j; rw [HKY.out.1, HKY.out.2] at this; exact HX.out (Prod.mk.inj (Option.some.inj this)).2)), HBR.out.trans (hb'.mono HBR.out.size)⟩
              · have HKK := Lib.hid hk
                have hkb : (key.toList == key'.toList) = false := by simpa using hk
                have hkc : (key.toList != key'.toList) = true := by simpa using hk
                go_wp2_with fail
                refine wp_region_below (by kernel_rfl) (by kernel_rfl) ?_
                repeat (go_big_quiet_step (fail))
                refine wpQuiet_nil ?_
                rintro _ ⟨⟨w', hb'⟩, rfl⟩
                go_wp2
                go_ret
                exact ⟨ret_b (Eq.symm (by rw [← Bool.not_eq_true, HIFF.out]; intro hh; have := hh.2 j; rw [HKY.out.1, HKY.out.2] at this; exact HKK.out (by rw [(Prod.mk.inj (Option.some.inj this)).1]))), HBR.out.trans (hb'.mono HBR.out.size)⟩
            · have hM : ∀ i : Nat, m[i]? = m'[i]? := fun i => by
                by_cases hi : i < j
                · exact HAL.out i hi
                · rw [List.getElem?_eq_none (by omega), List.getElem?_eq_none (by have := HE.out; omega)]
              have hrt : r = true := HIFF.out.2 ⟨HLL.out, hM⟩
              subst hrt
              go_wp2
              go_ret
              exact ⟨rfl, HBR.out⟩
    · go_ret
      refine ⟨ret_b (Eq.symm ?_), ((Below.refl _ w).alloc (Nat.le_refl _) _).alloc (by simp) _⟩
      rw [← Bool.not_eq_true, HR.out]
      intro e
      cases e
      simp at *
    · go_ret
      refine ⟨ret_b (Eq.symm ?_), ((Below.refl _ w).alloc (Nat.le_refl _) _).alloc (by simp) _⟩
      rw [← Bool.not_eq_true, HR.out]
      intro e
      cases e
      simp at *
    · go_ret
      refine ⟨ret_b (Eq.symm ?_), ((Below.refl _ w).alloc (Nat.le_refl _) _).alloc (by simp) _⟩
      rw [← Bool.not_eq_true, HR.out]
      intro e
      cases e
      simp at *
    · go_ret
      refine ⟨ret_b (Eq.symm ?_), ((Below.refl _ w).alloc (Nat.le_refl _) _).alloc (by simp) _⟩
      rw [← Bool.not_eq_true, HR.out]
      intro e
      cases e
      simp at *
    · go_ret
      refine ⟨ret_b (Eq.symm ?_), ((Below.refl _ w).alloc (Nat.le_refl _) _).alloc (by simp) _⟩
      rw [← Bool.not_eq_true, HR.out]
      intro e
      cases e
      simp at *
end Go.Proofs.Ythcphfpkinfjoaa
