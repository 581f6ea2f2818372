/-
  A block is mixed in: what (*hash256).mix does.
  Conditions: none.
-/
import Derived.Test.YtfjkinmmidmjaaaDoorShH256
namespace Go.Proofs.YtfjkinmmidmjaaaDoor
open Go.RowKit

theorem sc256_len : ∀ (n : Nat) (l : List Nat), (sc256 n l).length = l.length + n
  | 0, l => rfl
  | n + 1, l => by rw [sc256, sc256_len n, List.length_append]; simp; omega
theorem sc256_lt : ∀ (n : Nat) (l : List Nat), (∀ i, l.getD i 0 < 4294967296) → ∀ i, (sc256 n l).getD i 0 < 4294967296
  | 0, _, h => h
  | n + 1, l, h => sc256_lt n _ (app256_lt l _ h (Nat.mod_lt _ (by decide)))
theorem kk256_len : kk256.length = 64 := by decide +kernel
theorem kk256_get (i : Nat) (hi : i < 64) : kk256.getD i 0 = cube.getD i 0 / 4294967296 := by
  have : ∀ j : Fin 64, kk256.getD j.val 0 = cube.getD j.val 0 / 4294967296 := by decide +kernel
  exact this ⟨i, hi⟩
theorem rds256_cons (x y : Nat) (A B : List Nat) (v : W8) : rds256 (x :: A) (y :: B) v = rds256 A B (rnd256 v ((x + y) % 4294967296)) := by conv => lhs; unfold rds256
theorem rds256_step (ws ks : List Nat) (v : W8) (i : Nat) (h1 : i < ws.length) (h2 : i < ks.length) : rds256 (ws.drop i) (ks.drop i) v = rds256 (ws.drop (i + 1)) (ks.drop (i + 1)) (rnd256 v ((ws.getD i 0 + ks.getD i 0) % 4294967296)) := by
  have e1 : ws.getD i 0 = ws[i] := by rw [List.getD_eq_getElem?_getD, List.getElem?_eq_getElem h1]; rfl
  have e2 : ks.getD i 0 = ks[i] := by rw [List.getD_eq_getElem?_getD, List.getElem?_eq_getElem h2]; rfl
  rw [List.drop_eq_getElem_cons h1, List.drop_eq_getElem_cons h2, e1, e2]
  exact rds256_cons _ _ _ _ _
theorem zw256 (w : World) : (zeroValue 37).run Tryd.prog w = .ok (.agg (nums .u32 (zer 8))) w :=
  (zero_of_info (P := Tryd.prog) (t := 37) (v := .agg (nums .u32 (zer 8))) (n := 8) (by kernel_rfl)).1 w
theorem sw256 (v : W8) : (Tryd.prog.info? 37).map (·.size) = some (nums .u32 v.l).size := by kernel_rfl
theorem one_w256 (w : World) : (sizeOf 35).run Tryd.prog w = .ok 1 w ∧ (isAgg 35).run Tryd.prog w = .ok false w := ⟨by kernel_rfl, by kernel_rfl⟩
set_option maxRecDepth 100000 in
set_option maxHeartbeats 2000000 in
theorem mix256_any (b : Nat) (v : W8) (L : List UInt8) (at' : Nat) (w : World) (h : HB256 w b v L at') (hG : Gl w) :
    Calls Tryd.prog 25 #[.pointer (some ⟨b, 0, none⟩)] w fun e w' => e = .returned (.tuple #[]) ∧ HB256 w' b (mix256 v L) L at' ∧ BelowX w.heap.size b w w' := by
  have hbl := h.lt
  have HH := Lib.hid h
  have HV := Lib.hid h.2.2
  have HI := Lib.hid (show (Tryd.prog.info? 26).map (·.size) = some (byteVals L).toArray.size by rw [show (byteVals L).toArray.size = 64 by simpa [byteVals] using h.2.1]; exact szb256)
  have HC := Lib.hid (fun (j : Nat) (x : Value) (hj : (byteVals L).toArray.toList[j]? = some x) => show w.cell? ⟨b, 8 + j, none⟩ = some x by
    have hlt : j < L.length := by
      have := (List.getElem?_eq_some_iff.1 hj).1
      simpa [byteVals] using this
    rw [h.byte (by rw [← h.2.1]; exact hlt), ← hj]
    simp [byteVals, List.getElem?_eq_getElem hlt])
  have HLB := Lib.hid h.2.1
  have HGL := Lib.hid hG
  clear h hG
  go_enter Tryd.func25, Tryd.ntmps25
  go_wp2_with (refine wpList_load_part rfl 26 _ rfl b 8 rfl _ _ HC.out Tryd.underlying26 rfl HI.out ?_)
  refine (schedule256_any L w HLB.out).mono ?_
  rintro e w1 ⟨rfl, hb1⟩
  obtain ⟨S, hS⟩ : ∃ S, sc256 (64 - 16) (wds256 L) = S := ⟨_, rfl⟩
  have HSL := Lib.hid (show S.length = 64 by rw [← hS, sc256_len, wds256_len 16 L (by rw [HLB.out])])
  have HSM := Lib.hid (show ∀ i, S.getD i 0 < 4294967296 by rw [← hS]; exact sc256_lt _ _ (wds256_lt 16 L (by rw [HLB.out])))
  rw [hS]
  have HS := Lib.hid hS
  have HB1 := Lib.hid hb1
  have HBL := Lib.hid (show b < w1.heap.size from Nat.lt_of_lt_of_le hbl hb1.size)
  have HH1 := Lib.hid (HH.out.keep (hb1.block b hbl))
  have HSZ := Lib.hid (show (Tryd.prog.info? 56).map (·.size) = some (nums .u32 S).size by rw [size_nums, HSL.out]; exact sz256)
  have hz := zv256
  have hzw := zw256
  clear hS hb1
  go_wp2_with (refine wpList_store_row rfl 56 _ _ rfl w1.heap.size (nums .u32 S) rfl rfl 56 _ (Go.heap_alloc_new _ _) HSZ.out ?hold (nums_one _ _) (Stop.out ?_))
  case hold => rw [size_nums, size_nums, HSL.out, zer_len]
  generalize hW2 : World.setRow _ _ _ = W2
  obtain ⟨n1, hn1⟩ : ∃ n, w1.heap.size = n := ⟨_, rfl⟩
  have HRS := Lib.hid (show RW W2 n1 .u32 56 S by subst hW2; rw [← hn1]; exact setRow_heap _ _ _ _ _ _ (Go.heap_alloc_new _ _))
  have HB2 := Lib.hid (show Below w.heap.size w W2 by subst hW2; exact Below.setRow (HB1.out.alloc HB1.out.size _) HB1.out.size _)
  have HN2 := Lib.hid (show W2.heap.size = n1 + 1 by subst hW2; rw [setRow_size]; simpa using hn1)
  have HH2 := Lib.hid (HH.out.keep (HB2.out.block b hbl))
  have HLT := Lib.hid (show b < n1 by rw [← hn1]; exact HBL.out)
  have HNN := Lib.hid (show w.heap.size ≤ n1 by rw [← hn1]; exact HB1.out.size)
  rw [hn1]
  clear hW2 hn1 HB1 HBL HH1
  refine ⟨?_⟩
  have HCW := Lib.hid (fun (j : Nat) (x : Value) (hj : (nums .u32 v.l).toList[j]? = some x) => show W2.cell? ⟨b, 0 + j, none⟩ = some x by
    have hlt : j < 8 := by
      have := (List.getElem?_eq_some_iff.1 hj).1
      simpa [nums, W8.l] using this
    rw [Nat.zero_add, HH2.out.word hlt, ← hj]
    have hl : j < v.l.length := hlt
    simp [nums, List.getElem?_eq_getElem hl])
  go_wp2_with (refine wpList_load_part rfl 37 _ rfl b 0 rfl (nums .u32 v.l) _ HCW.out Tryd.underlying37 rfl (sw256 v) (Stop.out ?_))
  clear HCW
  refine ⟨?_⟩
  go_wp2_with (refine wpList_store_row rfl 37 _ _ rfl W2.heap.size (nums .u32 v.l) rfl rfl 37 _ (Go.heap_alloc_new _ _) (sw256 v) ?hold (nums_one _ _) (Stop.out ?_))
  case hold => rw [size_nums, size_nums, zer_len]; rfl
  generalize hW3 : World.setRow _ _ _ = W3
  have HRV := Lib.hid (show RW W3 (n1 + 1) .u32 37 v.l by subst hW3; rw [← HN2.out]; exact setRow_heap _ _ _ _ _ _ (Go.heap_alloc_new _ _))
  have HB3 := Lib.hid (show Below w.heap.size w W3 by subst hW3; exact Below.setRow (HB2.out.alloc HB2.out.size _) HB2.out.size _)
  have HRS3 := Lib.hid (show RW W3 n1 .u32 56 S by subst hW3; exact (setRow_other _ _ _ _ (by rw [HN2.out]; omega)).trans ((Go.heap_alloc_old _ _ (by rw [HN2.out]; omega)).trans HRS.out))
  have HN3 := Lib.hid (show W3.heap.size = n1 + 1 + 1 by subst hW3; rw [setRow_size]; simpa using HN2.out)
  rw [HN2.out]
  clear hW3 HB2 HN2 HH2 HRS hz hzw
  refine ⟨?_⟩
  go_wp2_with (refine wpList_load_row rfl 56 _ rfl n1 rfl 56 (nums .u32 S) (0, 0) _ HRS3.out Tryd.underlying56 rfl HSZ.out ?_)
  have HNW := HNN
  go_loopw [20] (fun iv wr => ∃ (k : Nat) (u : W8), iv = .int .i64 k ∧ k ≤ 64 ∧ u.lt 4294967296 ∧ RW wr (n1 + 1) .u32 37 u.l ∧ Below w.heap.size w wr ∧ n1 + 1 < wr.heap.size ∧ rds256 (S.drop k) (kk256.drop k) u = rds256 S kk256 v) (fun i _ => 64 - (intOf i).toNat)
  case atStart => exact ⟨0, v, rfl, Nat.zero_le _, HV.out, HRV.out, HB3.out, by rw [HN3.out]; omega, by rw [List.drop_zero, List.drop_zero]⟩
  case round =>
    obtain ⟨k, u, rfl, hk, hu, hru, hbel, hsz, hgo⟩ := hrel
    have HU := Lib.hid hu
    have HRU := Lib.hid hru
    have HBEL := Lib.hid hbel
    have HSZ2 := Lib.hid hsz
    have HGO := Lib.hid hgo
    clear hu hru hbel hsz hgo
    by_cases hlt : k < 64
    · have hlt' : (k : Int) < 64 := by omega
      have hlt80 : (k : Int) < 80 := by omega
      obtain ⟨s, hs⟩ : ∃ s, S.getD k 0 = s := ⟨_, rfl⟩
      obtain ⟨C, hC⟩ : ∃ C, cube.getD k 0 = C := ⟨_, rfl⟩
      have hsS : (nums .u32 S)[k]? = some (.int .u32 (s : Int)) := by
        rw [← hs]
        simp [nums, List.getElem?_eq_getElem (show k < S.length by rw [HSL.out]; exact hlt)]
      have hix := index_arr (P := Tryd.prog) wr 56 35 64 (nums .u32 S) .i64 k _ Tryd.underlying56 (one_w256 wr).1 (one_w256 wr).2 hlt hsS
      have hcc := (HGL.out.below HBEL.out).2 k (by omega)
      rw [hC] at hcc
      have hC64 : C < 18446744073709551616 := by rw [← hC]; exact cube_lt k
      obtain ⟨c, hc⟩ : ∃ c, C / 4294967296 = c := ⟨_, rfl⟩
      have hc1 : (C : Int) / 4294967296 = (c : Int) := by omega
      have hc2 : (c : Int) % 4294967296 = (c : Int) := by omega
      obtain ⟨z, hz⟩ : ∃ z, (s + c) % 4294967296 = z := ⟨_, rfl⟩
      have hz1 : ((s : Int) + c) % 4294967296 = (z : Int) := by omega
      have HKK := Lib.hid (show kk256.getD k 0 = c by rw [kk256_get k hlt, hC, hc])
      have HST := Lib.hid (show rds256 (S.drop (k + 1)) (kk256.drop (k + 1)) (rnd256 u z) = rds256 S kk256 v by
        rw [← HGO.out, rds256_step S kk256 u k (by rw [HSL.out]; exact hlt) (by rw [kk256_len]; exact hlt), hs, HKK.out, hz])
      clear hs hC hsS hC64 hz HKK
      clear hc
      go_wp2_with fail
      refine (round256_any (n1 + 1) u z wr HU.out HRU.out).mono ?_
      rintro e w4 ⟨rfl, hr4, hb4⟩
      have HR4 := Lib.hid hr4
      have HB4 := Lib.hid (show Below w.heap.size w w4 from ⟨hb4.os.trans HBEL.out.os, hb4.tape.trans HBEL.out.tape, hb4.output.trans HBEL.out.output, Nat.le_trans HBEL.out.size hb4.size, fun i hi => (hb4.block i (by have := HBEL.out.size; omega) (by have := HNW.out; omega)).trans (HBEL.out.block i hi)⟩)
      have HS4 := Lib.hid (Nat.lt_of_lt_of_le HSZ2.out hb4.size)
      clear hr4 hb4
      go_wp2
      go_roundw
      case rel => exact ⟨k + 1, _, rfl, hlt, rnd256_lt _ HU.out, HR4.out, HB4.out, HS4.out, HST.out⟩
      case measure => simp [intOf]; omega
    · have hlt' : ¬ (k : Int) < 64 := by omega
      have HUU := Lib.hid (show u = rds256 S kk256 v by
        rw [← HGO.out, List.drop_eq_nil_of_le (by rw [HSL.out]; omega)]
        conv => rhs; unfold rds256)
      have HH4 := Lib.hid (HH.out.keep (HBEL.out.block b hbl))
      go_wp2_with (refine wpList_load_row rfl 37 _ rfl (n1 + 1) rfl 37 (nums .u32 u.l) (0, 0) _ HRU.out Tryd.underlying37 rfl (sw256 u) ?_)
      have HBX0 := Lib.hid (show BelowX w.heap.size b w wr from ⟨HBEL.out.os, HBEL.out.tape, HBEL.out.output, HBEL.out.size, fun i hi _ => HBEL.out.block i hi⟩)
      clear HRU HBEL HGO HRV HB3 HRS3
      go_loopw [35] (fun iv wq => ∃ (j : Nat), iv = .int .i64 j ∧ j ≤ 8 ∧ HB256 wq b (adN256 v u j) L at' ∧ BelowX w.heap.size b w wq) (fun i _ => 8 - (intOf i).toNat)
      case atStart => exact ⟨0, rfl, Nat.zero_le _, HH4.out, HBX0.out⟩
      case round =>
        obtain ⟨j, rfl, hj, hhb, hbx⟩ := hrel
        have HHB := Lib.hid hhb
        have HBX := Lib.hid hbx
        clear hhb hbx HH4 HBX0
        by_cases hlt2 : j < 8
        · have hlt2' : (j : Int) < 8 := by omega
          obtain ⟨y, hy⟩ : ∃ y, u.l.getD j 0 = y := ⟨_, rfl⟩
          obtain ⟨x, hx⟩ : ∃ x, v.l.getD j 0 = x := ⟨_, rfl⟩
          have huS : (nums .u32 u.l)[j]? = some (.int .u32 (y : Int)) := by
            rw [← hy]
            simp [nums, List.getElem?_eq_getElem (show j < u.l.length from hlt2)]
          have hix2 := index_arr (P := Tryd.prog) wr 37 35 8 (nums .u32 u.l) .i64 j _ Tryd.underlying37 (one_w256 wr).1 (one_w256 wr).2 hlt2 huS
          have hce := HHB.out.word hlt2
          rw [adN256_get v u j hlt2, hx] at hce
          have hfr := HHB.out.frozen j
          obtain ⟨z, hz⟩ : ∃ z, (x + y) % 4294967296 = z := ⟨_, rfl⟩
          have hz1 : ((x : Int) + y) % 4294967296 = (z : Int) := by omega
          have HZ := Lib.hid (show z = (v.l.getD j 0 + u.l.getD j 0) % 4294967296 by rw [hx, hy, hz])
          clear hy hx huS hz
          go_wp2_with fail
          go_still_tail 11, (by kernel_rfl)
          change wpList _ _ _ _ _ wr.drew
          generalize hWY : wr.drew = wy
          have hce2 : wy.cell? ⟨b, j, none⟩ = some (.int .u32 (x : Int)) := by subst hWY; exact hce
          have hfr2 : wy.frozen? ⟨b, j, none⟩ = false := by subst hWY; exact hfr
          have HHY := Lib.hid (show HB256 wy b (adN256 v u j) L at' by subst hWY; exact HHB.out)
          have HBY := Lib.hid (show BelowX w.heap.size b w wy by subst hWY; exact ⟨HBX.out.os, HBX.out.tape, HBX.out.output, HBX.out.size, HBX.out.block⟩)
          clear hWY hce hfr HHB HBX hix2
          go_wp2
          go_roundw
          case rel => exact ⟨j + 1, rfl, hlt2, HHY.out.setWord HV.out hlt2 z HZ.out, HBY.out.trans (BelowX.set1 _ _ _)⟩
          case measure => simp [intOf]; omega
        · have hlt2' : ¬ (j : Int) < 8 := by omega
          have HJ := Lib.hid (show j = 8 by omega)
          go_wp2
          go_end0
          refine ⟨rfl, ?_, HBX.out⟩
          have h1 := HHB.out
          rw [HJ.out] at h1
          have h2 : mix256 v L = adN256 v u 8 := by
            rw [HUU.out, ← HS.out]
            rfl
          rw [h2]
          exact h1
end Go.Proofs.YtfjkinmmidmjaaaDoor
