/-
  The document's own answer: how deep lists and maps are nested in a value.
  Conditions: none.
-/
import Derived.Test.YtghkfbhmabnecaaValA
import Derived.Deep.LoopGhost
import Derived.BigQuiet
import Derived.Deep.RegionHeld3
namespace Go.Proofs.Ytghkfbhmabnecaa
open Go.RowKit

theorem dep_k (k n : Int) (s : ByteArray) (l : List VT) (m : List (ByteArray × VT)) (h4 : k ≠ 4) (h5 : k ≠ 5) : dep (.mk k n s l m) = 0 := by
  rw [dep, if_neg h4, if_neg h5]
theorem max_cast (a b : Nat) : max (a : Int) (b : Int) = ((max a b : Nat) : Int) := by omega

set_option maxHeartbeats 1000000 in
theorem rdepth_any {n₀ : Nat} {w0 : World} {t : VT} {v : Value} (h : VAt n₀ w0 t v) (hbig : dep t ≤ 1000000) : ∀ (w : World) (_ : Below n₀ w0 w) (_ : n₀ ≤ w.heap.size),
    Calls Try.prog 103 #[v] w fun e w' => e = .returned (.int .i64 (dep t : Nat)) ∧ Below w.heap.size w w' := by
  induction h with
  | @mk k n s l m sl sm cl cm hk hn hs hl hm hL hK hM ihL ihM =>
    intro w hw hz
    obtain ⟨aol, capl, rfl, hl1, hl2, hl3⟩ := hl.form
    obtain ⟨aom, capm, rfl, hm1, hm2, hm3⟩ := hm.form
    have hll : l.length ≤ 1000000000000000 := by have := sMax_lt; omega
    have hmm : m.length ≤ 1000000000000000 := by have := sMax_lt; omega
    have IHL := Lib.hid ihL
    have IHM := Lib.hid ihM
    have HBG := Lib.hid hbig
    clear hbig hs hk hn hl1 hl2 hl3 hm1 hm2 hm3 ihL ihM hL hM hK
    go_enter Try.func103, Try.ntmps103
    go_wp2_with fail
    · have hk4 : k = 4 := by simpa using ‹(k == 4) = true›
      have hd : dep (.mk k n s l m) = 1 + depL l := by rw [dep, if_pos hk4]
      have HDE := Lib.hid hd
      clear hd
      generalize hW0 : w.alloc _ = W0
      have hb : W0.cell? ⟨w.heap.size, 3, none⟩ = some (.slice aol l.length capl) := by subst hW0; simp
      have hw0 : Below w.heap.size w W0 := by subst hW0; exact (Below.refl _ w).alloc (Nat.le_refl _) _
      have hz0 : W0.heap.size = w.heap.size + 1 := by subst hW0; simp
      clear hW0
      have HBW := Lib.hid hw
      have HZ := Lib.hid (And.intro hz hz0)
      have HW0 := Lib.hid hw0
      have HRL := Lib.hid hl
      clear hw hz hw0 hl hm hz0
      go_loopw [3, 4] (fun dv iv wr => ∃ j : Nat, j ≤ l.length ∧ iv = .int .i64 j ∧ dv = .int .i64 (depL (l.take j) : Nat) ∧ Below W0.heap.size W0 wr) (fun _ i _ => l.length - (intOf i).toNat)
      case atStart => exact ⟨0, by omega, rfl, rfl, Below.refl _ _⟩
      case round =>
        obtain ⟨j, hj, rfl, rfl, hbr⟩ := hrel
        have hc3 : wr.cell? ⟨w.heap.size, 3, none⟩ = some (.slice aol l.length capl) := by rw [hbr.cell (by show w.heap.size < _; have := HZ.out; omega)]; exact hb
        have HBR := Lib.hid hbr
        have hdl := depL_take l j
        have HDL := Lib.hid hdl
        generalize hdd : depL (l.take j) = dd at HDL
        have HDD := Lib.hid hdd
        clear hdd hdl hbr hb
        by_cases hA1 : j < l.length
        · have hB0 : Below n₀ w0 wr := (HBW.out.trans (HW0.out.mono HZ.out.1)).trans (HBR.out.mono (by have := HZ.out; omega))
          obtain ⟨b, off, rfl, hbn, c0, c1, c2, c3, c4⟩ := (HRL.out.below hB0).at5 hA1
          have HB0 := Lib.hid hB0
          clear hB0
          go_wp2_with fail
          refine (IHL.out j hA1 (by have := depL_mem l j hA1; have := HBG.out; have := HDE.out; omega) _ HB0.out (by have := HZ.out; have := HBR.out.size; omega)).mono ?_
          rintro e w' ⟨rfl, hb'⟩
          go_wp2_with fail
          all_goals
            go_roundw
            case measure => simp [intOf]; omega
            case rel =>
              have hst := depL_step l j hA1
              rw [HDD.out] at hst
              exact ⟨j + 1, by omega, by go_num, by rw [hst]; first | rw [Nat.max_eq_right (by omega)] | rw [Nat.max_eq_left (by omega)], HBR.out.trans (hb'.mono HBR.out.size)⟩
        · have hfull : dd = depL l := by rw [← HDD.out, List.take_of_length_le (by omega)]
          have HFU := Lib.hid hfull
          have hdd9 : dd ≤ 1000000 := by have := HBG.out; have := HDE.out; omega
          clear hfull
          go_wp2
          go_ret
          exact ⟨by rw [HDE.out, ← HFU.out]; go_num, HW0.out.trans (HBR.out.mono HW0.out.size)⟩
    · have hk4 : k ≠ 4 := by simpa using ‹(k == 4) = false›
      have hk5 : k = 5 := by simpa using ‹(k == 5) = true›
      have hd : dep (.mk k n s l m) = 1 + depM m := by rw [dep, if_neg hk4, if_pos hk5]
      have HDE := Lib.hid hd
      clear hd
      generalize hW0 : w.alloc _ = W0
      have hb : W0.cell? ⟨w.heap.size, 4, none⟩ = some (.slice aom m.length capm) := by subst hW0; simp
      have hw0 : Below w.heap.size w W0 := by subst hW0; exact (Below.refl _ w).alloc (Nat.le_refl _) _
      have hz0 : W0.heap.size = w.heap.size + 1 := by subst hW0; simp
      clear hW0
      have HBW := Lib.hid hw
      have HZ := Lib.hid (And.intro hz hz0)
      have HW0 := Lib.hid hw0
      have HRL := Lib.hid hm
      clear hw hz hw0 hl hm hz0
      go_loopw [3, 5] (fun dv iv wr => ∃ j : Nat, j ≤ m.length ∧ iv = .int .i64 j ∧ dv = .int .i64 (depM (m.take j) : Nat) ∧ Below W0.heap.size W0 wr) (fun _ i _ => m.length - (intOf i).toNat)
      case atStart => exact ⟨0, by omega, rfl, rfl, Below.refl _ _⟩
      case round =>
        obtain ⟨j, hj, rfl, rfl, hbr⟩ := hrel
        have hc3 : wr.cell? ⟨w.heap.size, 4, none⟩ = some (.slice aom m.length capm) := by rw [hbr.cell (by show w.heap.size < _; have := HZ.out; omega)]; exact hb
        have HBR := Lib.hid hbr
        have hdl := depM_take m j
        have HDL := Lib.hid hdl
        generalize hdd : depM (m.take j) = dd at HDL
        have HDD := Lib.hid hdd
        clear hdd hdl hbr hb
        by_cases hA1 : j < m.length
        · have hB0 : Below n₀ w0 wr := (HBW.out.trans (HW0.out.mono HZ.out.1)).trans (HBR.out.mono (by have := HZ.out; omega))
          obtain ⟨b, off, rfl, hbn, c0, c1, c2, c3, c4, c5⟩ := (HRL.out.below hB0).at6 hA1
          have HB0 := Lib.hid hB0
          clear hB0
          go_wp2_with fail
          refine (IHM.out j hA1 (by have := depM_mem m j hA1; have := HBG.out; have := HDE.out; omega) _ HB0.out (by have := HZ.out; have := HBR.out.size; omega)).mono ?_
          rintro e w' ⟨rfl, hb'⟩
          go_wp2_with fail
          all_goals
            go_roundw
            case measure => simp [intOf]; omega
            case rel =>
              have hst := depM_step m j hA1
              rw [HDD.out] at hst
              exact ⟨j + 1, by omega, by go_num, by rw [hst]; first | rw [Nat.max_eq_right (by omega)] | rw [Nat.max_eq_left (by omega)], HBR.out.trans (hb'.mono HBR.out.size)⟩
        · have hfull : dd = depM m := by rw [← HDD.out, List.take_of_length_le (by omega)]
          have HFU := Lib.hid hfull
          have hdd9 : dd ≤ 1000000 := by have := HBG.out; have := HDE.out; omega
          clear hfull
          go_wp2
          go_ret
          exact ⟨by rw [HDE.out, ← HFU.out]; go_num, HW0.out.trans (HBR.out.mono HW0.out.size)⟩
    · have hk4 : k ≠ 4 := by simpa using ‹(k == 4) = false›
      have hk5 : k ≠ 5 := by simpa using ‹(k == 5) = false›
      go_ret
      exact ⟨by rw [dep_k _ _ _ _ _ hk4 hk5]; rfl, (Below.refl _ w).alloc (Nat.le_refl _) _⟩
end Go.Proofs.Ytghkfbhmabnecaa
