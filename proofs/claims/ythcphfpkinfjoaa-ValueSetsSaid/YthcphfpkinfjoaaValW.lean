/-
  The statements' own function weight: how much a value is.
  Conditions: none.
-/
import Derived.Test.YthcphfpkinfjoaaValA
import Derived.Deep.LoopGhost
import Derived.BigQuiet
import Derived.Deep.RegionHeld3
namespace Go.Proofs.Ythcphfpkinfjoaa
open Go.RowKit

set_option maxHeartbeats 1000000 in
theorem weight_any {n₀ : Nat} {w0 : World} {t : VT} {v : Value} (h : VAt n₀ w0 t v) : ∀ (f : Nat) (_ : f ≤ 71) (w : World) (_ : Below n₀ w0 w) (_ : n₀ ≤ w.heap.size) (deep : Int) (_ : deep = 71 - f),
    Calls Try.prog 48 #[v, .int .i64 deep, .int .i64 800] w fun e w' => e = .returned (.int .i64 (wt 800 f t)) ∧ Below w.heap.size w w' := by
  induction h with
  | @mk k n s l m sl sm cl cm hk hn hs hl hm hL hK hM ihL ihM =>
    intro f hf w hw hz deep hdeep
    have hV := VAt.mk hk hn hs hl hm hL hK hM
    have HLT := Lib.hid (fun f j hj => wt_le 800 (by decide) (hL j hj) f)
    have HMT := Lib.hid (fun f j hj => wt_le 800 (by decide) (hM j hj) f)
    clear hV
    obtain ⟨aol, capl, rfl, hl1, hl2, hl3⟩ := hl.form
    obtain ⟨aom, capm, rfl, hm1, hm2, hm3⟩ := hm.form
    have hs' : s.size ≤ 140737488355328 := hs
    have hd1 : deep ≤ 71 := by omega
    have hd0 : 0 ≤ deep := by omega
    have HD := Lib.hid hdeep
    have HS := Lib.hid hs
    have HCL := Lib.hid (And.intro hl1 hl2)
    have HCM := Lib.hid (And.intro hm1 hm2)
    have IHL := Lib.hid ihL
    have IHM := Lib.hid ihM
    have HK := Lib.hid hK
    have hll : l.length ≤ 1000000000000000 := by have := sMax_lt; omega
    have hmm : m.length ≤ 1000000000000000 := by have := sMax_lt; omega
    clear hdeep hs hk hn hl1 hl2 hl3 hm1 hm2 hm3 ihL ihM hL hM hK
    go_enter Try.func48, Try.ntmps48
    go_wp2_with fail
    · go_ret
      have : f = 0 := by have := HD.out; omega
      subst this
      exact ⟨rfl, (Below.refl _ w).alloc (Nat.le_refl _) _⟩
    · obtain ⟨f, rfl⟩ : ∃ f', f = f' + 1 := ⟨f - 1, by have := HD.out; omega⟩
      generalize hW0 : w.alloc _ = W0
      have hb3 : W0.cell? ⟨w.heap.size, 3, none⟩ = some (.slice aol l.length capl) := by subst hW0; simp
      have hb4 : W0.cell? ⟨w.heap.size, 4, none⟩ = some (.slice aom m.length capm) := by subst hW0; simp
      have hw0 : Below w.heap.size w W0 := by subst hW0; exact (Below.refl _ w).alloc (Nat.le_refl _) _
      have hz0 : W0.heap.size = w.heap.size + 1 := by subst hW0; simp
      clear hW0 hs'
      have HLL := Lib.hid (fun j => (wtL_le (most := 800) (B := wtB 800 71) (g := wt 800 f) (l.take j) (fun t ht => by
        obtain ⟨i, hi, rfl⟩ := List.getElem_of_mem (List.mem_of_mem_take ht)
        exact ⟨(HLT.out f i hi).1, Int.le_trans (HLT.out f i hi).2 (wtB_mono 800 (by decide) (by omega))⟩) (1 + s.size)))
      have HBW := Lib.hid hw
      have HZ := Lib.hid (And.intro hz hz0)
      have HW0 := Lib.hid hw0
      have HRL := Lib.hid hl
      have HRM := Lib.hid hm
      have HF := Lib.hid hf
      clear hw hz hw0 hl hm hf
      go_loopw [7, 8] (fun nv iv wr => ∃ j : Nat, j ≤ l.length ∧ iv = .int .i64 j ∧ nv = .int .i64 (wtL 800 (wt 800 f) (1 + s.size) (l.take j)) ∧ Below W0.heap.size W0 wr) (fun _ i _ => l.length - (intOf i).toNat)
      case atStart => exact ⟨0, by omega, rfl, by simp [wtL], Below.refl _ _⟩
      case round =>
        obtain ⟨j, hj, rfl, rfl, hbr⟩ := hrel
        have hc3 : wr.cell? ⟨w.heap.size, 3, none⟩ = some (.slice aol l.length capl) := by rw [hbr.cell (by show w.heap.size < _; omega)]; exact hb3
        have Hn := HLL.out j
        generalize hnn : wtL 800 (wt 800 f) (1 + s.size) (l.take j) = nn at Hn
        have HNN := Lib.hid hnn
        have HN := Lib.hid Hn
        have HBR := Lib.hid hbr
        clear hnn Hn hbr
        by_cases hA : j < l.length ∧ nn ≤ 800
        · obtain ⟨hA1, hA2⟩ := hA
          have hB0 : Below n₀ w0 wr := (HBW.out.trans (HW0.out.mono HZ.out.1)).trans (HBR.out.mono (by have := HZ.out; omega))
          obtain ⟨b, off, rfl, hbn, c0, c1, c2, c3, c4⟩ := (HRL.out.below hB0).at5 hA1
          have HB0 := Lib.hid hB0
          clear hB0
          go_wp2_with fail
          refine (IHL.out j hA1 f (by have := HF.out; omega) _ HB0.out (by have := HZ.out; have := HBR.out.size; omega) _ (by have := HD.out; omega)).mono ?_
          rintro e w' ⟨rfl, hb'⟩
          go_wp2_with fail
          go_roundw
          case measure => simp [intOf]; omega
          case rel =>
            have hst := wtL_step (most := 800) (g := wt 800 f) l (1 + s.size) j hA1 (by rw [HNN.out]; exact hA2)
            rw [HNN.out] at hst
            have hlt := HLT.out f j hA1
            have hbb := wtB_mono 800 (by decide) (f := f) (g := 71) (by have := HF.out; omega)
            have h71 := wtB_71
            have hnn0 := HN.out
            exact ⟨j + 1, by omega, by go_num, by rw [hst]; exact w64 rfl (by omega) (by omega), HBR.out.trans (hb'.mono HBR.out.size)⟩
        · have hfull : nn = wtL 800 (wt 800 f) (1 + s.size) l := by
            rw [← HNN.out]; exact wtL_take _ _ _ (by rw [HNN.out]; omega)
          have HFU := Lib.hid hfull
          clear hfull hb3
          have hc4 : wr.cell? ⟨w.heap.size, 4, none⟩ = some (.slice aom m.length capm) := by rw [HBR.out.cell (by show w.heap.size < _; have := HZ.out; omega)]; exact hb4
          clear hb4
          have hBw : Below w.heap.size w wr := HW0.out.trans (HBR.out.mono HW0.out.size)
          have hzr : w.heap.size + 1 ≤ wr.heap.size := by have := HBR.out.size; have := HZ.out; omega
          have HBw := Lib.hid hBw
          have HZr := Lib.hid hzr
          have HML := Lib.hid (fun j => (wtM_le (most := 800) (B := sMax + wtB 800 71) (g := wt 800 f) (m.take j) (fun t ht => by
            obtain ⟨i, hi, rfl⟩ := List.getElem_of_mem (List.mem_of_mem_take ht)
            have h1 := HMT.out f i hi
            have h2 := wtB_mono 800 (by decide) (f := f) (g := 71) (by have := HF.out; omega)
            have h3 := (HK.out i hi).2
            omega) nn))
          clear hBw hzr
          by_cases hA1 : j < l.length
          · have h8 : 800 < nn := by omega
            clear hA
            go_wp2_with fail
            clear hc3
            go_loopw [7, 9] (fun nv iv wq => ∃ i : Nat, i ≤ m.length ∧ iv = .int .i64 i ∧ nv = .int .i64 (wtM 800 (wt 800 f) nn (m.take i)) ∧ Below wr.heap.size wr wq) (fun _ i _ => m.length - (intOf i).toNat)
            case atStart => exact ⟨0, by omega, rfl, by simp [wtM], Below.refl _ _⟩
            case round =>
              obtain ⟨i, hi, rfl, rfl, hbq⟩ := hrel
              have hd4 : wr.cell? ⟨w.heap.size, 4, none⟩ = some (.slice aom m.length capm) := by rw [hbq.cell (by show w.heap.size < _; have := HZr.out; omega)]; exact hc4
              have Hn := HML.out i
              generalize hnm : wtM 800 (wt 800 f) nn (m.take i) = nm at Hn
              have HNM := Lib.hid hnm
              have HN2 := Lib.hid Hn
              have HBQ := Lib.hid hbq
              clear hnm Hn hbq hc4
              by_cases hB : i < m.length ∧ nm ≤ 800
              · obtain ⟨hB1, hB2⟩ := hB
                have hB0 : Below n₀ w0 wr := (HBW.out.trans (HBw.out.mono HZ.out.1)).trans (HBQ.out.mono (by have := HZ.out; have := HZr.out; omega))
                obtain ⟨b, off, rfl, hbn, c0, c1, c2, c3, c4, c5⟩ := (HRM.out.below hB0).at6 hB1
                have hkey := (HK.out i hB1).1
                rw [hkey] at c0
                have hksz := Lib.hid (HK.out i hB1).2
                generalize hky : m[i].1 = key at c0 hksz
                have HKY := Lib.hid hky
                have HB0 := Lib.hid hB0
                clear hB0 hkey hky
                have hbz : b < wr.heap.size := by have := HZ.out; have := HZr.out; have := HBQ.out.size; omega
                have hwz : w.heap.size < wr.heap.size := by have := HZr.out; have := HBQ.out.size; omega
                go_wp2_with fail
                go_region_held3 (fun x => x.cell? ⟨w.heap.size, 4, none⟩ = some (.slice (some ⟨b, off, none⟩) m.length capm) ∧ x.cell? ⟨b, off + i * 6, none⟩ = some (.string key) ∧ x.cell? ⟨b, off + i * 6 + 1, none⟩ = some (cm i 1) ∧ x.cell? ⟨b, off + i * 6 + 2, none⟩ = some (cm i 2) ∧ x.cell? ⟨b, off + i * 6 + 3, none⟩ = some (cm i 3) ∧ x.cell? ⟨b, off + i * 6 + 4, none⟩ = some (cm i 4) ∧ x.cell? ⟨b, off + i * 6 + 5, none⟩ = some (cm i 5) ∧ Below wr.heap.size wr x)
                  (first | exact ⟨hd4, c0, c1, c2, c3, c4, c5, (Below.refl _ _).drew⟩ | exact ⟨by assumption, by assumption, by assumption, by assumption, by assumption, by assumption, by assumption, by assumption⟩)
                  (first | (go_at_call 48; refine (IHM.out i hB1 f (by have := HF.out; omega) _ HB0.out.drew (by have := HZ.out; simp; omega) _ (by have := HD.out; rw [iw_id _ (by omega)]; omega)).mono ?_; rintro e w' ⟨rfl, hb'⟩; have hb1 : Below wr.heap.size wr w' := ((Below.refl _ wr).drew).trans hb'; clear hb'; have k1 := (hb1.cell (p := ⟨w.heap.size, 4, none⟩) hwz).trans hd4; have k2 := (hb1.cell (p := ⟨b, off + i * 6, none⟩) hbz).trans c0; have k3 := (hb1.cell (p := ⟨b, off + i * 6 + 1, none⟩) hbz).trans c1; have k4 := (hb1.cell (p := ⟨b, off + i * 6 + 2, none⟩) hbz).trans c2; have k5 := (hb1.cell (p := ⟨b, off + i * 6 + 3, none⟩) hbz).trans c3; have k6 := (hb1.cell (p := ⟨b, off + i * 6 + 4, none⟩) hbz).trans c4; have k7 := (hb1.cell (p := ⟨b, off + i * 6 + 5, none⟩) hbz).trans c5))
                go_wp2_with fail
                go_roundw
                case measure => simp [intOf]; omega
                case rel =>
                  have hst := wtM_step (most := 800) (g := wt 800 f) m nn i hB1 (by rw [HNM.out]; exact hB2)
                  rw [HNM.out, HKY.out] at hst
                  have hlt := HMT.out f i hB1
                  have hbb := wtB_mono 800 (by decide) (f := f) (g := 71) (by have := HF.out; omega)
                  have h71 := wtB_71
                  have hks := hksz.out
                  have hsm := sMax_lt
                  have hnm0 : 0 ≤ nm := by have := HN2.out; have := HN.out; omega
                  refine ⟨i + 1, by omega, by go_num, ?_, HBQ.out.trans (Below.mono (by assumption) HBQ.out.size)⟩
                  rw [hst]
                  rw [iw_id ((key.size : Int) + _) (by omega), iw_id _ (by omega)]
              · have hfm : nm = wtM 800 (wt 800 f) nn m := by
                  rw [← HNM.out]; exact wtM_take _ _ _ (by rw [HNM.out]; omega)
                have HRES := Lib.hid hfm
                have hfin : Below w.heap.size w wr := HBw.out.trans (HBQ.out.mono HBw.out.size)
                have HFIN := Lib.hid hfin
                clear hfm hfin
                by_cases hB1 : i < m.length
                · have h9 : 800 < nm := by omega
                  clear hB
                  go_wp2
                  go_ret
                  exact ⟨by rw [HRES.out, HFU.out]; rfl, HFIN.out⟩
                · clear hB
                  go_wp2
                  go_ret
                  exact ⟨by rw [HRES.out, HFU.out]; rfl, HFIN.out⟩
          · clear hA
            go_wp2_with fail
            clear hc3
            go_loopw [7, 9] (fun nv iv wq => ∃ i : Nat, i ≤ m.length ∧ iv = .int .i64 i ∧ nv = .int .i64 (wtM 800 (wt 800 f) nn (m.take i)) ∧ Below wr.heap.size wr wq) (fun _ i _ => m.length - (intOf i).toNat)
            case atStart => exact ⟨0, by omega, rfl, by simp [wtM], Below.refl _ _⟩
            case round =>
              obtain ⟨i, hi, rfl, rfl, hbq⟩ := hrel
              have hd4 : wr.cell? ⟨w.heap.size, 4, none⟩ = some (.slice aom m.length capm) := by rw [hbq.cell (by show w.heap.size < _; have := HZr.out; omega)]; exact hc4
              have Hn := HML.out i
              generalize hnm : wtM 800 (wt 800 f) nn (m.take i) = nm at Hn
              have HNM := Lib.hid hnm
              have HN2 := Lib.hid Hn
              have HBQ := Lib.hid hbq
              clear hnm Hn hbq hc4
              by_cases hB : i < m.length ∧ nm ≤ 800
              · obtain ⟨hB1, hB2⟩ := hB
                have hB0 : Below n₀ w0 wr := (HBW.out.trans (HBw.out.mono HZ.out.1)).trans (HBQ.out.mono (by have := HZ.out; have := HZr.out; omega))
                obtain ⟨b, off, rfl, hbn, c0, c1, c2, c3, c4, c5⟩ := (HRM.out.below hB0).at6 hB1
                have hkey := (HK.out i hB1).1
                rw [hkey] at c0
                have hksz := Lib.hid (HK.out i hB1).2
                generalize hky : m[i].1 = key at c0 hksz
                have HKY := Lib.hid hky
                have HB0 := Lib.hid hB0
                clear hB0 hkey hky
                have hbz : b < wr.heap.size := by have := HZ.out; have := HZr.out; have := HBQ.out.size; omega
                have hwz : w.heap.size < wr.heap.size := by have := HZr.out; have := HBQ.out.size; omega
                go_wp2_with fail
                go_region_held3 (fun x => x.cell? ⟨w.heap.size, 4, none⟩ = some (.slice (some ⟨b, off, none⟩) m.length capm) ∧ x.cell? ⟨b, off + i * 6, none⟩ = some (.string key) ∧ x.cell? ⟨b, off + i * 6 + 1, none⟩ = some (cm i 1) ∧ x.cell? ⟨b, off + i * 6 + 2, none⟩ = some (cm i 2) ∧ x.cell? ⟨b, off + i * 6 + 3, none⟩ = some (cm i 3) ∧ x.cell? ⟨b, off + i * 6 + 4, none⟩ = some (cm i 4) ∧ x.cell? ⟨b, off + i * 6 + 5, none⟩ = some (cm i 5) ∧ Below wr.heap.size wr x)
                  (first | exact ⟨hd4, c0, c1, c2, c3, c4, c5, (Below.refl _ _).drew⟩ | exact ⟨by assumption, by assumption, by assumption, by assumption, by assumption, by assumption, by assumption, by assumption⟩)
                  (first | (go_at_call 48; refine (IHM.out i hB1 f (by have := HF.out; omega) _ HB0.out.drew (by have := HZ.out; simp; omega) _ (by have := HD.out; rw [iw_id _ (by omega)]; omega)).mono ?_; rintro e w' ⟨rfl, hb'⟩; have hb1 : Below wr.heap.size wr w' := ((Below.refl _ wr).drew).trans hb'; clear hb'; have k1 := (hb1.cell (p := ⟨w.heap.size, 4, none⟩) hwz).trans hd4; have k2 := (hb1.cell (p := ⟨b, off + i * 6, none⟩) hbz).trans c0; have k3 := (hb1.cell (p := ⟨b, off + i * 6 + 1, none⟩) hbz).trans c1; have k4 := (hb1.cell (p := ⟨b, off + i * 6 + 2, none⟩) hbz).trans c2; have k5 := (hb1.cell (p := ⟨b, off + i * 6 + 3, none⟩) hbz).trans c3; have k6 := (hb1.cell (p := ⟨b, off + i * 6 + 4, none⟩) hbz).trans c4; have k7 := (hb1.cell (p := ⟨b, off + i * 6 + 5, none⟩) hbz).trans c5))
                go_wp2_with fail
                go_roundw
                case measure => simp [intOf]; omega
                case rel =>
                  have hst := wtM_step (most := 800) (g := wt 800 f) m nn i hB1 (by rw [HNM.out]; exact hB2)
                  rw [HNM.out, HKY.out] at hst
                  have hlt := HMT.out f i hB1
                  have hbb := wtB_mono 800 (by decide) (f := f) (g := 71) (by have := HF.out; omega)
                  have h71 := wtB_71
                  have hks := hksz.out
                  have hsm := sMax_lt
                  have hnm0 : 0 ≤ nm := by have := HN2.out; have := HN.out; omega
                  refine ⟨i + 1, by omega, by go_num, ?_, HBQ.out.trans (Below.mono (by assumption) HBQ.out.size)⟩
                  rw [hst]
                  rw [iw_id ((key.size : Int) + _) (by omega), iw_id _ (by omega)]
              · have hfm : nm = wtM 800 (wt 800 f) nn m := by
                  rw [← HNM.out]; exact wtM_take _ _ _ (by rw [HNM.out]; omega)
                have HRES := Lib.hid hfm
                have hfin : Below w.heap.size w wr := HBw.out.trans (HBQ.out.mono HBw.out.size)
                have HFIN := Lib.hid hfin
                clear hfm hfin
                by_cases hB1 : i < m.length
                · have h9 : 800 < nm := by omega
                  clear hB
                  go_wp2
                  go_ret
                  exact ⟨by rw [HRES.out, HFU.out]; rfl, HFIN.out⟩
                · clear hB
                  go_wp2
                  go_ret
                  exact ⟨by rw [HRES.out, HFU.out]; rfl, HFIN.out⟩
end Go.Proofs.Ythcphfpkinfjoaa
