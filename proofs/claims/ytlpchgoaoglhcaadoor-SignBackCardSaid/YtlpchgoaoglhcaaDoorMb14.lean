/-
  A block is mixed in: what (*hash512).mix does.
  A byte is taken in: what (*hash512).add does.
  Rows of rows of bytes.
  The padding, as package sha passes it to a hash512.
  What package sha passes to a hash512: all bytes of all rows, and the padding.
  The words that SHA-512 starts with; its digest.
  What sha.Sum512 returns.
  Conditions: none.
-/
import Derived.Test.YtlpchgoaoglhcaaDoorMb13
namespace Go.Proofs.YtlpchgoaoglhcaaDoor
open Go.RowKit
theorem sc512_len : ∀ (n : Nat) (l : List Nat), (sc512 n l).length = l.length + n
  | 0, l => rfl
  | n + 1, l => by rw [sc512, sc512_len n, List.length_append]; simp; omega
theorem sc512_lt : ∀ (n : Nat) (l : List Nat), (∀ i, l.getD i 0 < 18446744073709551616) → ∀ i, (sc512 n l).getD i 0 < 18446744073709551616
  | 0, _, h => h
  | n + 1, l, h => sc512_lt n _ (app512_lt l _ h (Nat.mod_lt _ (by decide)))
theorem kk512_len : kk512.length = 80 := by decide +kernel
theorem kk512_get (i : Nat) (hi : i < 80) : kk512.getD i 0 = cube.getD i 0 := by
  have : ∀ j : Fin 80, kk512.getD j.val 0 = cube.getD j.val 0 := by decide +kernel
  exact this ⟨i, hi⟩
theorem rds512_cons (x y : Nat) (A B : List Nat) (v : W8) : rds512 (x :: A) (y :: B) v = rds512 A B (rnd512 v ((x + y) % 18446744073709551616)) := by conv => lhs; unfold rds512
theorem rds512_step (ws ks : List Nat) (v : W8) (i : Nat) (h1 : i < ws.length) (h2 : i < ks.length) : rds512 (ws.drop i) (ks.drop i) v = rds512 (ws.drop (i + 1)) (ks.drop (i + 1)) (rnd512 v ((ws.getD i 0 + ks.getD i 0) % 18446744073709551616)) := by
  have e1 : ws.getD i 0 = ws[i] := by rw [List.getD_eq_getElem?_getD, List.getElem?_eq_getElem h1]; rfl
  have e2 : ks.getD i 0 = ks[i] := by rw [List.getD_eq_getElem?_getD, List.getElem?_eq_getElem h2]; rfl
  rw [List.drop_eq_getElem_cons h1, List.drop_eq_getElem_cons h2, e1, e2]
  exact rds512_cons _ _ _ _ _
theorem zw512 (w : World) : (zeroValue 54).run Tryd.prog w = .ok (.agg (nums .u64 (zer 8))) w :=
  (zero_of_info (P := Tryd.prog) (t := 54) (v := .agg (nums .u64 (zer 8))) (n := 8) (by kernel_rfl)).1 w
theorem sw512 (v : W8) : (Tryd.prog.info? 54).map (·.size) = some (nums .u64 v.l).size := by kernel_rfl
theorem one_w512 (w : World) : (sizeOf 52).run Tryd.prog w = .ok 1 w ∧ (isAgg 52).run Tryd.prog w = .ok false w := ⟨by kernel_rfl, by kernel_rfl⟩
set_option maxRecDepth 100000 in
set_option maxHeartbeats 2000000 in
theorem mix512_any (b : Nat) (v : W8) (L : List UInt8) (at' : Nat) (w : World) (h : HB512 w b v L at') (hG : Gl w) :
    Calls Tryd.prog 38 #[.pointer (some ⟨b, 0, none⟩)] w fun e w' => e = .returned (.tuple #[]) ∧ HB512 w' b (mix512 v L) L at' ∧ BelowX w.heap.size b w w' := by
  have hbl := h.lt
  have HH := Lib.hid h
  have HV := Lib.hid h.2.2
  have HI := Lib.hid (show (Tryd.prog.info? 56).map (·.size) = some (byteVals L).toArray.size by rw [show (byteVals L).toArray.size = 128 by simpa [byteVals] using h.2.1]; exact szb512)
  have HC := Lib.hid (fun (j : Nat) (x : Value) (hj : (byteVals L).toArray.toList[j]? = some x) => show w.cell? ⟨b, 8 + j, none⟩ = some x by
    have hlt : j < L.length := by
      have := (List.getElem?_eq_some_iff.1 hj).1
      simpa [byteVals] using this
    rw [h.byte (by rw [← h.2.1]; exact hlt), ← hj]
    simp [byteVals, List.getElem?_eq_getElem hlt])
  have HLB := Lib.hid h.2.1
  have HGL := Lib.hid hG
  clear h hG
  go_enter Tryd.func38, Tryd.ntmps38
  go_wp2_with (refine wpList_load_part rfl 56 _ rfl b 8 rfl _ _ HC.out Tryd.underlying56 rfl HI.out ?_)
  refine (schedule512_any L w HLB.out).mono ?_
  rintro e w1 ⟨rfl, hb1⟩
  obtain ⟨S, hS⟩ : ∃ S, sc512 (80 - 16) (wds512 L) = S := ⟨_, rfl⟩
  have HSL := Lib.hid (show S.length = 80 by rw [← hS, sc512_len, wds512_len 16 L (by rw [HLB.out])])
  have HSM := Lib.hid (show ∀ i, S.getD i 0 < 18446744073709551616 by rw [← hS]; exact sc512_lt _ _ (wds512_lt 16 L (by rw [HLB.out])))
  rw [hS]
  have HS := Lib.hid hS
  have HB1 := Lib.hid hb1
  have HBL := Lib.hid (show b < w1.heap.size from Nat.lt_of_lt_of_le hbl hb1.size)
  have HH1 := Lib.hid (HH.out.keep (hb1.block b hbl))
  have HSZ := Lib.hid (show (Tryd.prog.info? 60).map (·.size) = some (nums .u64 S).size by rw [size_nums, HSL.out]; exact sz512)
  have hz := zv512
  have hzw := zw512
  clear hS hb1
  go_wp2_with (refine wpList_store_row rfl 60 _ _ rfl w1.heap.size (nums .u64 S) rfl rfl 60 _ (Go.heap_alloc_new _ _) HSZ.out ?hold (nums_one _ _) (Stop.out ?_))
  case hold => rw [size_nums, size_nums, HSL.out, zer_len]
  generalize hW2 : World.setRow _ _ _ = W2
  obtain ⟨n1, hn1⟩ : ∃ n, w1.heap.size = n := ⟨_, rfl⟩
  have HRS := Lib.hid (show RW W2 n1 .u64 60 S by subst hW2; rw [← hn1]; exact setRow_heap _ _ _ _ _ _ (Go.heap_alloc_new _ _))
  have HB2 := Lib.hid (show Below w.heap.size w W2 by subst hW2; exact Below.setRow (HB1.out.alloc HB1.out.size _) HB1.out.size _)
  have HN2 := Lib.hid (show W2.heap.size = n1 + 1 by subst hW2; rw [setRow_size]; simpa using hn1)
  have HH2 := Lib.hid (HH.out.keep (HB2.out.block b hbl))
  have HLT := Lib.hid (show b < n1 by rw [← hn1]; exact HBL.out)
  have HNN := Lib.hid (show w.heap.size ≤ n1 by rw [← hn1]; exact HB1.out.size)
  rw [hn1]
  clear hW2 hn1 HB1 HBL HH1
  refine ⟨?_⟩
  have HCW := Lib.hid (fun (j : Nat) (x : Value) (hj : (nums .u64 v.l).toList[j]? = some x) => show W2.cell? ⟨b, 0 + j, none⟩ = some x by
    have hlt : j < 8 := by
      have := (List.getElem?_eq_some_iff.1 hj).1
      simpa [nums, W8.l] using this
    rw [Nat.zero_add, HH2.out.word hlt, ← hj]
    have hl : j < v.l.length := hlt
    simp [nums, List.getElem?_eq_getElem hl])
  go_wp2_with (refine wpList_load_part rfl 54 _ rfl b 0 rfl (nums .u64 v.l) _ HCW.out Tryd.underlying54 rfl (sw512 v) (Stop.out ?_))
  clear HCW
  refine ⟨?_⟩
  go_wp2_with (refine wpList_store_row rfl 54 _ _ rfl W2.heap.size (nums .u64 v.l) rfl rfl 54 _ (Go.heap_alloc_new _ _) (sw512 v) ?hold (nums_one _ _) (Stop.out ?_))
  case hold => rw [size_nums, size_nums, zer_len]; rfl
  generalize hW3 : World.setRow _ _ _ = W3
  have HRV := Lib.hid (show RW W3 (n1 + 1) .u64 54 v.l by subst hW3; rw [← HN2.out]; exact setRow_heap _ _ _ _ _ _ (Go.heap_alloc_new _ _))
  have HB3 := Lib.hid (show Below w.heap.size w W3 by subst hW3; exact Below.setRow (HB2.out.alloc HB2.out.size _) HB2.out.size _)
  have HRS3 := Lib.hid (show RW W3 n1 .u64 60 S by subst hW3; exact (setRow_other _ _ _ _ (by rw [HN2.out]; omega)).trans ((Go.heap_alloc_old _ _ (by rw [HN2.out]; omega)).trans HRS.out))
  have HN3 := Lib.hid (show W3.heap.size = n1 + 1 + 1 by subst hW3; rw [setRow_size]; simpa using HN2.out)
  rw [HN2.out]
  clear hW3 HB2 HN2 HH2 HRS hz hzw
  refine ⟨?_⟩
  go_wp2_with (refine wpList_load_row rfl 60 _ rfl n1 rfl 60 (nums .u64 S) (0, 0) _ HRS3.out Tryd.underlying60 rfl HSZ.out ?_)
  have HNW := HNN
  go_loopw [20] (fun iv wr => ∃ (k : Nat) (u : W8), iv = .int .i64 k ∧ k ≤ 80 ∧ u.lt 18446744073709551616 ∧ RW wr (n1 + 1) .u64 54 u.l ∧ Below w.heap.size w wr ∧ n1 + 1 < wr.heap.size ∧ rds512 (S.drop k) (kk512.drop k) u = rds512 S kk512 v) (fun i _ => 80 - (intOf i).toNat)
  case atStart => exact ⟨0, v, rfl, Nat.zero_le _, HV.out, HRV.out, HB3.out, by rw [HN3.out]; omega, by rw [List.drop_zero, List.drop_zero]⟩
  case round =>
    obtain ⟨k, u, rfl, hk, hu, hru, hbel, hsz, hgo⟩ := hrel
    have HU := Lib.hid hu
    have HRU := Lib.hid hru
    have HBEL := Lib.hid hbel
    have HSZ2 := Lib.hid hsz
    have HGO := Lib.hid hgo
    clear hu hru hbel hsz hgo
    by_cases hlt : k < 80
    · have hlt' : (k : Int) < 80 := by omega
      obtain ⟨s, hs⟩ : ∃ s, S.getD k 0 = s := ⟨_, rfl⟩
      obtain ⟨C, hC⟩ : ∃ C, cube.getD k 0 = C := ⟨_, rfl⟩
      have hsS : (nums .u64 S)[k]? = some (.int .u64 (s : Int)) := by
        rw [← hs]
        simp [nums, List.getElem?_eq_getElem (show k < S.length by rw [HSL.out]; exact hlt)]
      have hix := index_arr (P := Tryd.prog) wr 60 52 80 (nums .u64 S) .i64 k _ Tryd.underlying60 (one_w512 wr).1 (one_w512 wr).2 hlt hsS
      have hcc := (HGL.out.below HBEL.out).2 k (by omega)
      rw [hC] at hcc
      have hC64 : C < 18446744073709551616 := by rw [← hC]; exact cube_lt k
      obtain ⟨z, hz⟩ : ∃ z, (s + C) % 18446744073709551616 = z := ⟨_, rfl⟩
      have hz1 : IntKind.u64.wrap ((s : Int) + C) = (z : Int) := by rw [IntKind.wrap_u64]; omega
      have HKK := Lib.hid (show kk512.getD k 0 = C by rw [kk512_get k hlt, hC])
      have HST := Lib.hid (show rds512 (S.drop (k + 1)) (kk512.drop (k + 1)) (rnd512 u z) = rds512 S kk512 v by
        rw [← HGO.out, rds512_step S kk512 u k (by rw [HSL.out]; exact hlt) (by rw [kk512_len]; exact hlt), hs, HKK.out, hz])
      clear hs hC hsS hC64 hz HKK
      go_wp2_with fail
      refine (round512_any (n1 + 1) u z wr HU.out HRU.out).mono ?_
      rintro e w4 ⟨rfl, hr4, hb4⟩
      have HR4 := Lib.hid hr4
      have HB4 := Lib.hid (show Below w.heap.size w w4 from ⟨hb4.os.trans HBEL.out.os, hb4.tape.trans HBEL.out.tape, hb4.output.trans HBEL.out.output, Nat.le_trans HBEL.out.size hb4.size, fun i hi => (hb4.block i (by have := HBEL.out.size; omega) (by have := HNW.out; omega)).trans (HBEL.out.block i hi)⟩)
      have HS4 := Lib.hid (Nat.lt_of_lt_of_le HSZ2.out hb4.size)
      clear hr4 hb4
      go_wp2
      go_roundw
      case rel => exact ⟨k + 1, _, rfl, hlt, rnd512_lt _ HU.out, HR4.out, HB4.out, HS4.out, HST.out⟩
      case measure => simp [intOf]; omega
    · have hlt' : ¬ (k : Int) < 80 := by omega
      have HUU := Lib.hid (show u = rds512 S kk512 v by
        rw [← HGO.out, List.drop_eq_nil_of_le (by rw [HSL.out]; omega)]
        conv => rhs; unfold rds512)
      have HH4 := Lib.hid (HH.out.keep (HBEL.out.block b hbl))
      go_wp2_with (refine wpList_load_row rfl 54 _ rfl (n1 + 1) rfl 54 (nums .u64 u.l) (0, 0) _ HRU.out Tryd.underlying54 rfl (sw512 u) ?_)
      have HBX0 := Lib.hid (show BelowX w.heap.size b w wr from ⟨HBEL.out.os, HBEL.out.tape, HBEL.out.output, HBEL.out.size, fun i hi _ => HBEL.out.block i hi⟩)
      clear HRU HBEL HGO HRV HB3 HRS3
      go_loopw [33] (fun iv wq => ∃ (j : Nat), iv = .int .i64 j ∧ j ≤ 8 ∧ HB512 wq b (adN512 v u j) L at' ∧ BelowX w.heap.size b w wq) (fun i _ => 8 - (intOf i).toNat)
      case atStart => exact ⟨0, rfl, Nat.zero_le _, HH4.out, HBX0.out⟩
      case round =>
        obtain ⟨j, rfl, hj, hhb, hbx⟩ := hrel
        have HHB := Lib.hid hhb
        have HBX := Lib.hid hbx
        clear hhb hbx HH4 HBX0
        by_cases hlt2 : j < 8
        · have hlt2' : (j : Int) < 8 := by omega
          obtain ⟨y, hy⟩ : ∃ y, u.l.getD j 0 = y := ⟨_, rfl⟩
          obtain ⟨x, hx⟩ : ∃ x, v.l.getD j 0 = x := ⟨_, rfl⟩
          have huS : (nums .u64 u.l)[j]? = some (.int .u64 (y : Int)) := by
            rw [← hy]
            simp [nums, List.getElem?_eq_getElem (show j < u.l.length from hlt2)]
          have hix2 := index_arr (P := Tryd.prog) wr 54 52 8 (nums .u64 u.l) .i64 j _ Tryd.underlying54 (one_w512 wr).1 (one_w512 wr).2 hlt2 huS
          have hce := HHB.out.word hlt2
          rw [adN512_get v u j hlt2, hx] at hce
          have hfr := HHB.out.frozen j
          obtain ⟨z, hz⟩ : ∃ z, (x + y) % 18446744073709551616 = z := ⟨_, rfl⟩
          have hz1 : IntKind.u64.wrap ((x : Int) + y) = (z : Int) := by rw [IntKind.wrap_u64]; omega
          have HZ := Lib.hid (show z = (v.l.getD j 0 + u.l.getD j 0) % 18446744073709551616 by rw [hx, hy, hz])
          clear hy hx huS hz
          go_wp2_with fail
          go_still_tail 11, (by kernel_rfl)
          change wpList _ _ _ _ _ wr.drew
          generalize hWY : wr.drew = wy
          have hce2 : wy.cell? ⟨b, j, none⟩ = some (.int .u64 (x : Int)) := by subst hWY; exact hce
          have hfr2 : wy.frozen? ⟨b, j, none⟩ = false := by subst hWY; exact hfr
          have HHY := Lib.hid (show HB512 wy b (adN512 v u j) L at' by subst hWY; exact HHB.out)
          have HBY := Lib.hid (show BelowX w.heap.size b w wy by subst hWY; exact ⟨HBX.out.os, HBX.out.tape, HBX.out.output, HBX.out.size, HBX.out.block⟩)
          clear hWY hce hfr HHB HBX hix2
          go_wp2
          go_roundw
          case rel => exact ⟨j + 1, rfl, hlt2, HHY.out.setWord HV.out hlt2 z HZ.out, HBY.out.trans (BelowX.set1 _ _ _)⟩
          case measure => simp [intOf]; omega
        · have hlt2' : ¬ (j : Int) < 8 := by omega
          have HJ := Lib.hid (show j = 8 by omega)
          go_wp2
          go_end0
          refine ⟨rfl, ?_, HBX.out⟩
          have h1 := HHB.out
          rw [HJ.out] at h1
          have h2 : mix512 v L = adN512 v u 8 := by
            rw [HUU.out, ← HS.out]
            rfl
          rw [h2]
          exact h1
end Go.Proofs.YtlpchgoaoglhcaaDoor
namespace Go.Proofs.YtlpchgoaoglhcaaDoor
open Go.RowKit
/-- Block b is a hash that has taken in so much: h of whole blocks, and the bytes buf. -/
def ST512 (w : World) (b : Nat) (s : W8 × List UInt8) : Prop := ∃ L, HB512 w b s.1 L s.2.length ∧ L.take s.2.length = s.2 ∧ s.2.length < 128
theorem ST512.keep {w w' : World} {b : Nat} {s : W8 × List UInt8} (h : ST512 w b s) (hb : w'.heap[b]? = w.heap[b]?) : ST512 w' b s :=
  let ⟨L, h1, h2⟩ := h
  ⟨L, h1.keep hb, h2⟩
theorem ST512.lt {w : World} {b : Nat} {s : W8 × List UInt8} (h : ST512 w b s) : b < w.heap.size := let ⟨_, h1, _⟩ := h; h1.lt
theorem take_set_512 (L : List UInt8) (k : Nat) (x : UInt8) (h : k < L.length) : (L.set k x).take (k + 1) = L.take k ++ [x] := by
  rw [List.take_add_one]
  simp [h, List.take_set_of_le]
set_option maxRecDepth 100000 in
set_option maxHeartbeats 2000000 in
theorem add512_any (b : Nat) (x : UInt8) (y : Int) (s : W8 × List UInt8) (w : World) (hy : y = (x.toNat : Int)) (h : ST512 w b s) (hG : Gl w) (hb : 1 < b) :
    Calls Tryd.prog 24 #[.pointer (some ⟨b, 0, none⟩), .int .u8 y] w fun e w' => e = .returned (.tuple #[]) ∧ ST512 w' b (eat512 s.1 s.2 [x]) ∧ BelowX w.heap.size b w w' := by
  subst hy
  obtain ⟨hh, buf⟩ := s
  obtain ⟨L, hb0, htk, hlen⟩ := h
  simp only at hb0 htk hlen ⊢
  obtain ⟨k, hk⟩ : ∃ k, buf.length = k := ⟨_, rfl⟩
  rw [hk] at hb0 htk hlen
  have hkI : (k : Int) < 128 := by omega
  have hpl : w.cell? ⟨b, 136, none⟩ = some (.int .i64 (k : Int)) := hb0.place
  have hby := hb0.byte hlen
  have hfb := hb0.frozen (8 + k)
  have hne : ¬ 8 + k = 136 := by omega
  have hbl := hb0.lt
  have HB0 := Lib.hid hb0
  have HTK := Lib.hid htk
  have HK := Lib.hid hk
  have HG := Lib.hid hG
  have HLL := Lib.hid hb0.2.1
  clear hb0 htk hk hG
  go_enter Tryd.func24, Tryd.ntmps24
  go_wp2_with fail
  go_still_tail 9, (by kernel_rfl)
  change wpList _ _ _ _ _ w.drew
  generalize hWY : w.drew = wy
  have hby2 : wy.cell? ⟨b, 8 + k, none⟩ = some (.int .u8 ((L.getD k 0).toNat : Int)) := by subst hWY; exact hby
  have hfb2 : wy.frozen? ⟨b, 8 + k, none⟩ = false := by subst hWY; exact hfb
  have HHY := Lib.hid (show HB512 wy b hh L k by subst hWY; exact HB0.out)
  have HBY := Lib.hid (show BelowX w.heap.size b w wy by subst hWY; exact ⟨rfl, rfl, rfl, Nat.le_refl _, fun _ _ _ => rfl⟩)
  have hpl2 : wy.cell? ⟨b, 136, none⟩ = some (.int .i64 (k : Int)) := by subst hWY; exact hpl
  have hfp2 : wy.frozen? ⟨b, 136, none⟩ = false := HHY.out.frozen 136
  have hne2 : ¬ 136 = 8 + k := fun e => hne e.symm
  clear hby hfb hpl HB0 hWY
  by_cases hlast : k + 1 = 128
  · have hl2 : (k : Int) + 1 = 128 := by omega
    go_wp2_with fail
    generalize hW3 : World.setCell _ _ _ = W3
    have h3 : HB512 W3 b hh (L.set k x) 0 := by
      subst hW3
      have h1 := ((HHY.out.setByte hlen x).setPlace (k + 1)).setPlace 0
      rw [show ((k + 1 : Nat) : Int) = 128 by omega] at h1
      exact h1
    have h4 : BelowX w.heap.size b w W3 := by
      subst hW3
      exact ((HBY.out.trans (BelowX.set1 _ _ _)).trans (BelowX.set1 _ _ _)).trans (BelowX.set1 _ _ _)
    clear hW3
    have h5 : Gl W3 := HG.out.belowX h4 hb (by omega)
    refine (mix512_any b hh (L.set k x) 0 W3 h3 h5).mono ?_
    rintro e w4 ⟨rfl, h6, h7⟩
    have HE := Lib.hid (show ST512 w4 b (eat512 hh buf [x]) ∧ BelowX w.heap.size b w w4 by
      refine ⟨?_, h4.trans ⟨h7.os, h7.tape, h7.output, h7.size, fun i hi hn => h7.block i (by have := h4.size; omega) hn⟩⟩
      have e1 : eat512 hh buf [x] = (mix512 hh (L.set k x), []) := by
        conv => lhs; unfold eat512
        rw [if_pos (by rw [HK.out]; exact hlast)]
        have : L.set k x = buf ++ [x] := by
          rw [← HTK.out, ← take_set_512 L k x (by rw [HLL.out]; exact hlen), hlast, List.take_of_length_le (by rw [List.length_set, HLL.out]; exact Nat.le_refl _)]
        rw [this]
        rfl
      rw [e1]
      exact ⟨L.set k x, h6, rfl, by show 0 < 128; decide⟩)
    clear h3 h4 h5 h6 h7
    go_wp2
    go_end0
    exact ⟨rfl, HE.out⟩
  · have hl2 : ¬ (k : Int) + 1 = 128 := by omega
    go_wp2
    go_end0
    refine ⟨rfl, ?_⟩
    generalize hW3 : World.setCell _ _ _ = W3
    have h3 : HB512 W3 b hh (L.set k x) (k + 1) := by
      subst hW3
      exact (HHY.out.setByte hlen x).setPlace (k + 1)
    have h4 : BelowX w.heap.size b w W3 := by
      subst hW3
      exact (HBY.out.trans (BelowX.set1 _ _ _)).trans (BelowX.set1 _ _ _)
    refine ⟨?_, h4⟩
    have e1 : eat512 hh buf [x] = (hh, buf ++ [x]) := by
      conv => lhs; unfold eat512
      rw [if_neg (by rw [HK.out]; exact hlast)]
      rfl
    rw [e1]
    have e2 : (buf ++ [x]).length = k + 1 := by rw [List.length_append, HK.out]; rfl
    refine ⟨L.set k x, ?_, ?_, ?_⟩
    · show HB512 W3 b hh (L.set k x) (buf ++ [x]).length
      rw [e2]; exact h3
    · show (L.set k x).take (buf ++ [x]).length = buf ++ [x]
      rw [e2, take_set_512 L k x (by rw [HLL.out]; exact hlen), HTK.out]
    · show (buf ++ [x]).length < 128
      omega
end Go.Proofs.YtlpchgoaoglhcaaDoor
namespace Go.Proofs.YtlpchgoaoglhcaaDoor
open Go.RowKit
/-- A slice of bytes that lies below block B. -/
def BysB (B : Nat) (w : World) (v : Value) (l : List UInt8) : Prop :=
  ∃ ao cap, v = .slice ao l.length cap ∧ (l = [] ∨ ∃ g off, ao = some ⟨g, off, none⟩ ∧ g < B ∧ ∀ i (h : i < l.length), w.cell? ⟨g, off + i, none⟩ = some (.int .u8 (l[i].toNat : Int)))
theorem Bys.b {w : World} {v : Value} {l : List UInt8} {B : Nat} (h : Bys w v l) (hB : w.heap.size ≤ B) : BysB B w v l := by
  obtain ⟨ao, cap, rfl, _, h | ⟨g, off, rfl, hg, h⟩⟩ := h
  · exact ⟨ao, cap, rfl, .inl h⟩
  · exact ⟨_, cap, rfl, .inr ⟨g, off, rfl, by omega, h⟩⟩
theorem BysB.mono {B B' : Nat} {w : World} {v : Value} {l : List UInt8} (h : BysB B w v l) (hB : B ≤ B') : BysB B' w v l := by
  obtain ⟨ao, cap, rfl, h | ⟨g, off, rfl, hg, h⟩⟩ := h
  · exact ⟨ao, cap, rfl, .inl h⟩
  · exact ⟨_, cap, rfl, .inr ⟨g, off, rfl, by omega, h⟩⟩
theorem BysB.keep {B : Nat} {w w' : World} {v : Value} {l : List UInt8} (h : BysB B w v l) (hb : ∀ k, k < B → w'.heap[k]? = w.heap[k]?) : BysB B w' v l := by
  obtain ⟨ao, cap, rfl, h | ⟨g, off, rfl, hg, h⟩⟩ := h
  · exact ⟨ao, cap, rfl, .inl h⟩
  · exact ⟨_, cap, rfl, .inr ⟨g, off, rfl, hg, fun i hi => by rw [World.cell?_of_block (hb g hg)]; exact h i hi⟩⟩
/-- A slice of such slices, below block B. -/
def Bss (B : Nat) (w : World) (v : Value) (ll : List (List UInt8)) : Prop :=
  ∃ ao cap, v = .slice ao ll.length cap ∧ (ll = [] ∨ ∃ g off, ao = some ⟨g, off, none⟩ ∧ g < B ∧ ∀ i (h : i < ll.length), ∃ u, w.cell? ⟨g, off + i, none⟩ = some u ∧ BysB B w u ll[i])
theorem Bss.keep {B : Nat} {w w' : World} {v : Value} {ll : List (List UInt8)} (h : Bss B w v ll) (hb : ∀ k, k < B → w'.heap[k]? = w.heap[k]?) : Bss B w' v ll := by
  obtain ⟨ao, cap, rfl, h | ⟨g, off, rfl, hg, h⟩⟩ := h
  · exact ⟨ao, cap, rfl, .inl h⟩
  · refine ⟨_, cap, rfl, .inr ⟨g, off, rfl, hg, fun i hi => ?_⟩⟩
    obtain ⟨u, h1, h2⟩ := h i hi
    exact ⟨u, by rw [World.cell?_of_block (hb g hg)]; exact h1, h2.keep hb⟩
theorem BelowX.up {b : Nat} {u v w : World} (h : BelowX u.heap.size b u v) (k : BelowX v.heap.size b v w) : BelowX u.heap.size b u w :=
  h.trans ⟨k.os, k.tape, k.output, k.size, fun i hi hn => k.block i (by have := h.size; omega) hn⟩
/-- All bytes of rows. -/
def flat (ll : List (List UInt8)) : List UInt8 := ll.flatten
theorem flat_take (ll : List (List UInt8)) (k : Nat) (h : k < ll.length) : flat (ll.take (k + 1)) = flat (ll.take k) ++ ll[k] := by
  have e : ll.take (k + 1) = ll.take k ++ [ll[k]] := by rw [List.take_add_one, List.getElem?_eq_getElem h]; rfl
  unfold flat
  rw [e, List.flatten_append]
  exact congrArg _ (List.append_nil _)
end Go.Proofs.YtlpchgoaoglhcaaDoor
namespace Go.Proofs.YtlpchgoaoglhcaaDoor
open Go.RowKit
/-- The j-th byte of the length. -/
def lb512 (n j : Nat) : UInt8 := UInt8.ofNat (n * 8 / 2 ^ (8 * (16 - 1 - j)) % 256)
theorem pad512_eq (n : Nat) : pad512 n = [128] ++ List.replicate ((128 - 16 + 128 - (n + 1) % 128) % 128) 0 ++ (List.range 16).map (lb512 n) := rfl
theorem eat512_snoc (s : W8 × List UInt8) (p : List UInt8) (x : UInt8) : eat512 (eat512 s.1 s.2 p).1 (eat512 s.1 s.2 p).2 [x] = eat512 s.1 s.2 (p ++ [x]) := (eat512_app p [x] s.1 s.2).symm
set_option maxRecDepth 100000 in
set_option maxHeartbeats 2000000 in
theorem padding512_any (b n : Nat) (s : W8 × List UInt8) (w : World) (hn : n ≤ 1000000) (h : ST512 w b s) (hG : Gl w) (hb : 1 < b) :
    Calls Tryd.prog 36 #[.int .u64 (n : Int), .int .i64 128, .int .i64 16, .func (.func 24) #[.pointer (some ⟨b, 0, none⟩)] #[]] w fun e w' => e = .returned (.tuple #[]) ∧ ST512 w' b (eat512 s.1 s.2 (pad512 n)) ∧ BelowX w.heap.size b w w' := by
  have HST := Lib.hid h
  have HG := Lib.hid hG
  have hbl := h.lt
  have hlt1 : 1 < w.heap.size := by omega
  obtain ⟨Z, hZ⟩ : ∃ Z, (128 - 16 + 128 - (n + 1) % 128) % 128 = Z := ⟨_, rfl⟩
  have HP := Lib.hid (show pad512 n = [128] ++ List.replicate Z 0 ++ (List.range 16).map (lb512 n) by rw [pad512_eq, hZ])
  have hw1 : IntKind.u64.wrap ((n : Int) + 1) = ((n + 1 : Nat) : Int) := by rw [IntKind.wrap_u64]; omega
  have hw8 : IntKind.u64.wrap ((n : Int) * 8) = ((n * 8 : Nat) : Int) := by rw [IntKind.wrap_u64]; omega
  have HZ := Lib.hid hZ
  clear h hG hZ
  go_enter Tryd.func36, Tryd.ntmps36
  go_wp2_with fail
  refine (add512_any b 128 _ s w (by rfl) HST.out HG.out hb).mono ?_
  rintro e w1 ⟨rfl, hs1, hb1⟩
  have HS1 := Lib.hid hs1
  have HB1 := Lib.hid hb1
  clear hs1 hb1
  go_wp2_with fail
  go_loopw [8] (fun av wr => ∃ (a t : Nat) (z : Int), av = .int .i64 z ∧ z = (a : Int) ∧ a < 128 ∧ t + (128 - 16 + 128 - a) % 128 = Z ∧ ST512 wr b (eat512 s.1 s.2 ([128] ++ List.replicate t 0)) ∧ BelowX w.heap.size b w wr) (fun a _ => (128 - 16 + 128 - (intOf a).toNat) % 128)
  case atStart => exact ⟨(n + 1) % 128, 0, _, rfl, by omega, Nat.mod_lt _ (by decide), by rw [Nat.zero_add]; exact HZ.out, HS1.out, HB1.out⟩
  case round =>
    obtain ⟨a, t, z, rfl, hza, ha, ht, hst, hbx⟩ := hrel
    have HS2 := Lib.hid hst
    have HB2 := Lib.hid hbx
    have HG2 := Lib.hid (HG.out.belowX hbx hb (by omega))
    have HT := Lib.hid ht
    clear hst hbx ht
    by_cases hne : a = 128 - 16
    · obtain rfl : z = 112 := by omega
      have HTZ := Lib.hid (show t = Z by have := HT.out; omega)
      clear HS1 HB1 hne hza ha
      go_wp2_with fail
      go_loopw [10] (fun iv wr => ∃ (j : Nat) (z : Int), j ≤ 16 ∧ iv = .int .i64 z ∧ z = 16 - 1 - (j : Int) ∧ ST512 wr b (eat512 s.1 s.2 ([128] ++ List.replicate Z 0 ++ (List.range j).map (lb512 n))) ∧ BelowX w.heap.size b w wr) (fun i _ => (intOf i + 1).toNat)
      case atStart => exact ⟨0, _, Nat.zero_le _, rfl, rfl, by rw [← HTZ.out, List.range_zero, List.map_nil, List.append_nil]; exact HS2.out, HB2.out⟩
      case round =>
        obtain ⟨j, z, hj, rfl, hzj, hst, hbx⟩ := hrel
        have HS3 := Lib.hid hst
        have HB3 := Lib.hid hbx
        have HG3 := Lib.hid (HG.out.belowX hbx hb (by omega))
        clear hst hbx
        by_cases hlt : j < 16
        · obtain ⟨m, hm⟩ : ∃ m, 16 - 1 - j = m := ⟨_, rfl⟩
          obtain rfl : z = (m : Int) := by omega
          have HM := Lib.hid hzj
          clear hzj
          have h0 : (0 : Int) ≤ (m : Int) := by omega
          have h8 : (0 : Int) ≤ 8 * (m : Int) := by omega
          have HX := Lib.hid (show ((n * 8 / 2 ^ (8 * m) % 256 : Nat) : Int) = ((lb512 n j).toNat : Int) by
            unfold lb512
            rw [hm, UInt8.toNat_ofNat']
            congr 1
            rw [Nat.mod_mod])
          have HY := Lib.hid (show ((n : Int) * 8 / 2 ^ (min (8 * m) 64) % 256) = ((lb512 n j).toNat : Int) by
            have e : n * 8 / 2 ^ (8 * m) = n * 8 / 2 ^ (min (8 * m) 64) := by
              by_cases h : 8 * m ≤ 64
              · rw [Nat.min_eq_left h]
              · rw [Nat.min_eq_right (by omega), Nat.div_eq_of_lt (Nat.lt_of_lt_of_le (show n * 8 < 2 ^ 64 by omega) (Nat.pow_le_pow_right (by decide) (by omega))), Nat.div_eq_of_lt (show n * 8 < 2 ^ 64 by omega)]
            rw [← HX.out, e, Int.natCast_emod, Int.natCast_ediv, Int.natCast_mul, Int.natCast_pow]; rfl)
          go_wp2_with fail
          refine (add512_any b (lb512 n j) _ _ wr HY.out HS3.out HG3.out hb).mono ?_
          rintro e w4 ⟨rfl, hs4, hb4⟩
          rw [eat512_snoc] at hs4
          have HS4 := Lib.hid (show ST512 w4 b (eat512 s.1 s.2 ([128] ++ List.replicate Z 0 ++ (List.range (j + 1)).map (lb512 n))) by
            rw [List.range_succ, List.map_append, ← List.append_assoc]; exact hs4)
          have HB4 := Lib.hid (BelowX.up HB3.out hb4)
          clear hs4 hb4
          go_wp2
          go_roundw
          case rel => exact ⟨j + 1, _, hlt, rfl, by have := HM.out; omega, HS4.out, HB4.out⟩
          case measure => simp [intOf]
        · have hjL : j = 16 := by omega
          have hneg : ¬ (0 : Int) ≤ z := by omega
          clear hzj
          have HJ := Lib.hid hjL
          clear hjL
          go_wp2
          go_end0
          refine ⟨rfl, ?_, HB3.out⟩
          rw [HP.out]
          have := HS3.out
          rw [HJ.out] at this
          exact this
    · have hne2 : (z == 112) = false := by simp; omega
      have hz0 : 0 ≤ z := by omega
      have hz1 : z < 128 := by omega
      have HZA := Lib.hid hza
      clear hza
      clear HS1 HB1
      go_wp2_with fail
      refine (add512_any b 0 _ _ wr (by rfl) HS2.out HG2.out hb).mono ?_
      rintro e w4 ⟨rfl, hs4, hb4⟩
      rw [eat512_snoc] at hs4
      have HS4 := Lib.hid (show ST512 w4 b (eat512 s.1 s.2 ([128] ++ List.replicate (t + 1) 0)) by
        rw [List.replicate_succ', ← List.append_assoc]; exact hs4)
      have HB4 := Lib.hid (BelowX.up HB2.out hb4)
      clear hs4 hb4
      go_wp2
      go_roundw
      case rel => exact ⟨(a + 1) % 128, t + 1, _, rfl, by have := HZA.out; omega, Nat.mod_lt _ (by decide), by have := HT.out; omega, HS4.out, HB4.out⟩
      case measure => have := HZA.out; simp [intOf]; omega
end Go.Proofs.YtlpchgoaoglhcaaDoor
namespace Go.Proofs.YtlpchgoaoglhcaaDoor
open Go.RowKit
set_option maxRecDepth 100000 in
set_option maxHeartbeats 2000000 in
theorem feed512_any (b : Nat) (v : Value) (ll : List (List UInt8)) (s : W8 × List UInt8) (w : World) (hv : Bss b w v ll) (hn : (flat ll).length ≤ 1000000) (hn2 : ll.length ≤ 1000000) (h : ST512 w b s) (hG : Gl w) (hb : 1 < b) :
    Calls Tryd.prog 20 #[v, .int .i64 128, .int .i64 16, .func (.func 24) #[.pointer (some ⟨b, 0, none⟩)] #[]] w fun e w' => e = .returned (.tuple #[]) ∧ ST512 w' b (eat512 s.1 s.2 (flat ll ++ pad512 (flat ll).length)) ∧ BelowX w.heap.size b w w' := by
  obtain ⟨ao, cap, rfl, hao⟩ := hv
  have HAO := Lib.hid hao
  have HST := Lib.hid h
  have HG := Lib.hid hG
  have hbl := h.lt
  have hlt1 : 1 < w.heap.size := by omega
  have HN := Lib.hid hn
  have HLE := Lib.hid (fun k => show (flat (ll.take k)).length ≤ (flat ll).length by
    have : flat ll = flat (ll.take k) ++ flat (ll.drop k) := by unfold flat; rw [← List.flatten_append, List.take_append_drop]
    rw [this, List.length_append]; omega)
  clear hao h hG hn
  go_enter Tryd.func20, Tryd.ntmps20
  go_wp2_with fail
  go_loopw [8, 15] (fun cv iv wr => ∃ (k c : Nat), cv = .int .u64 c ∧ iv = .int .i64 k ∧ k ≤ ll.length ∧ c = (flat (ll.take k)).length ∧ ST512 wr b (eat512 s.1 s.2 (flat (ll.take k))) ∧ BelowX w.heap.size b w wr) (fun _ i _ => ll.length - (intOf i).toNat)
  case atStart => exact ⟨0, 0, rfl, rfl, Nat.zero_le _, rfl, HST.out, BelowX.refl _ _ _⟩
  case round =>
    obtain ⟨k, c, rfl, rfl, hk, hc, hst, hbx⟩ := hrel
    have HS := Lib.hid hst
    have HB := Lib.hid hbx
    have HC := Lib.hid hc
    clear hst hbx hc HST
    by_cases hlt : k < ll.length
    · have hlt' : (k : Int) < (ll.length : Int) := by omega
      obtain ⟨g, off, rfl, hg, hcell⟩ : ∃ g off, ao = some ⟨g, off, none⟩ ∧ g < b ∧ ∀ i (h : i < ll.length), ∃ u, w.cell? ⟨g, off + i, none⟩ = some u ∧ BysB b w u ll[i] := by
        rcases HAO.out with rfl | h
        · simp at hlt
        · exact h
      obtain ⟨u, hu, hub⟩ := hcell k hlt
      have hu2 : wr.cell? ⟨g, off + k, none⟩ = some u := by
        rw [World.cell?_of_block (HB.out.block g (by omega) (by omega))]; exact hu
      obtain ⟨l, hl⟩ : ∃ l, ll[k] = l := ⟨_, rfl⟩
      rw [hl] at hub
      have HFT := Lib.hid (show flat (ll.take (k + 1)) = flat (ll.take k) ++ l by rw [flat_take ll k hlt, hl])
      have HLL := Lib.hid (show (flat (ll.take k)).length + l.length ≤ 1000000 by
        have h1 := HLE.out (k + 1)
        rw [HFT.out, List.length_append] at h1
        have h2 := HN.out
        omega)
      obtain ⟨ao2, cap2, rfl, hao2⟩ := hub
      have HAO2 := Lib.hid hao2
      have hll : l.length ≤ 1000000 := by have := HLL.out; omega
      have hcn : c ≤ 1000000 := by have := HLL.out; have := HC.out; omega
      clear hcell hu hl hao2 HAO
      go_wp2_with fail
      go_loopw [21] (fun iv wq => ∃ (j : Nat), iv = .int .i64 j ∧ j ≤ l.length ∧ ST512 wq b (eat512 s.1 s.2 (flat (ll.take k) ++ l.take j)) ∧ BelowX w.heap.size b w wq) (fun i _ => l.length - (intOf i).toNat)
      case atStart => exact ⟨0, rfl, Nat.zero_le _, by rw [List.take_zero, List.append_nil]; exact HS.out, HB.out⟩
      case round =>
        obtain ⟨j, rfl, hj, hst, hbx⟩ := hrel
        have HS2 := Lib.hid hst
        have HB2 := Lib.hid hbx
        have HG2 := Lib.hid (HG.out.belowX hbx hb (by omega))
        clear hst hbx HS HB
        by_cases hlt2 : j < l.length
        · have hlt2' : (j : Int) < (l.length : Int) := by omega
          obtain ⟨g2, off2, rfl, hg2, hcell2⟩ : ∃ g off, ao2 = some ⟨g, off, none⟩ ∧ g < b ∧ ∀ i (h : i < l.length), w.cell? ⟨g, off + i, none⟩ = some (.int .u8 (l[i].toNat : Int)) := by
            rcases HAO2.out with rfl | h
            · simp at hlt2
            · exact h
          have hce : wr.cell? ⟨g2, off2 + j, none⟩ = some (.int .u8 (l[j].toNat : Int)) := by
            rw [World.cell?_of_block (HB2.out.block g2 (by omega) (by omega))]; exact hcell2 j hlt2
          obtain ⟨x, hx⟩ : ∃ x, l[j] = x := ⟨_, rfl⟩
          rw [hx] at hce
          have HX := Lib.hid hx
          clear hcell2 hx HAO2 hu2
          go_wp2_with fail
          refine (add512_any b x _ _ wr (by rfl) HS2.out HG2.out hb).mono ?_
          rintro e w4 ⟨rfl, hs4, hb4⟩
          rw [eat512_snoc] at hs4
          have HS4 := Lib.hid (show ST512 w4 b (eat512 s.1 s.2 (flat (ll.take k) ++ l.take (j + 1))) by
            rw [List.take_add_one, List.getElem?_eq_getElem hlt2, HX.out, Option.toList_some, ← List.append_assoc]; exact hs4)
          have HB4 := Lib.hid (BelowX.up HB2.out hb4)
          clear hs4 hb4
          go_wp2
          go_roundw
          case rel => exact ⟨j + 1, rfl, hlt2, HS4.out, HB4.out⟩
          case measure => simp [intOf]; omega
        · have hlt2' : ¬ (j : Int) < (l.length : Int) := by omega
          have HS3 := Lib.hid (show ST512 wr b (eat512 s.1 s.2 (flat (ll.take (k + 1)))) by
            rw [HFT.out]
            have := HS2.out
            rw [show l.take j = l from List.take_of_length_le (by omega)] at this
            exact this)
          have hw1 : IntKind.u64.wrap (l.length : Int) = (l.length : Int) := by rw [IntKind.wrap_u64]; omega
          have hw2 : IntKind.u64.wrap ((c : Int) + (l.length : Int)) = ((c + l.length : Nat) : Int) := by rw [IntKind.wrap_u64]; omega
          have HCC := Lib.hid (show c + l.length = (flat (ll.take (k + 1))).length by rw [HFT.out, List.length_append, ← HC.out])
          clear hu2 HAO2
          go_wp2
          go_roundw
          case rel => exact ⟨k + 1, c + l.length, rfl, rfl, hlt, HCC.out, HS3.out, HB2.out⟩
          case measure => simp [intOf]; omega
    · have hlt' : ¬ (k : Int) < (ll.length : Int) := by omega
      have HE := Lib.hid (show flat (ll.take k) = flat ll by rw [List.take_of_length_le (by omega)])
      have HCE := Lib.hid (show c = (flat ll).length by rw [HC.out, HE.out])
      have HCL := Lib.hid (show c ≤ 1000000 by rw [HCE.out]; exact HN.out)
      have HG2 := Lib.hid (HG.out.belowX HB.out hb (by omega))
      clear HAO
      go_wp2_with fail
      refine (padding512_any b c _ wr HCL.out HS.out HG2.out hb).mono ?_
      rintro e w4 ⟨rfl, hs4, hb4⟩
      rw [← eat512_app, HE.out, HCE.out] at hs4
      have HS4 := Lib.hid hs4
      have HB4 := Lib.hid (BelowX.up HB.out hb4)
      clear hs4 hb4
      go_wp2
      go_end0
      exact ⟨rfl, HS4.out, HB4.out⟩
end Go.Proofs.YtlpchgoaoglhcaaDoor
namespace Go.Proofs.YtlpchgoaoglhcaaDoor
open Go.RowKit
theorem zs512 (w : World) : (zeroValue 54).run Tryd.prog w = .ok (.agg (nums .u64 (zer 8))) w :=
  (zero_of_info (P := Tryd.prog) (t := 54) (v := .agg (nums .u64 (zer 8))) (n := 8) (by kernel_rfl)).1 w
theorem zd512 (w : World) : (zeroValue 26).run Tryd.prog w = .ok (.agg (byteVals (zerB 64)).toArray) w :=
  (zero_of_info (P := Tryd.prog) (t := 26) (v := .agg (byteVals (zerB 64)).toArray) (n := 64) (by kernel_rfl)).1 w
theorem szd512 : (Tryd.prog.info? 26).map (·.size) = some 64 := by kernel_rfl
theorem szw512 : (Tryd.prog.info? 54).map (·.size) = some 8 := by kernel_rfl
def sw0512 (i : Nat) : Nat := square.getD i 0
theorem st512_l : st512.l = (List.range 8).map sw0512 := by decide +kernel
theorem st512_lt : st512.lt 18446744073709551616 := by unfold W8.lt; decide +kernel
set_option maxRecDepth 100000 in
set_option maxHeartbeats 2000000 in
theorem start512_any (w : World) (hG : Gl w) :
    Calls Tryd.prog 23 #[] w fun e w' => e = .returned (.agg (nums .u64 st512.l)) ∧ Below w.heap.size w w' := by
  have HG := Lib.hid hG
  have hz := zs512
  clear hG
  go_enter Tryd.func23, Tryd.ntmps23
  go_wp2_with fail
  generalize hW1 : World.alloc _ _ = W1
  have hrw : RW W1 (w.heap.size + 1) .u64 54 (List.replicate 8 0) := by subst hW1; exact (alloc2_at w _ _).2
  have hrr : RW W1 w.heap.size .u64 54 (List.replicate 8 0) := by subst hW1; exact (alloc2_at w _ _).1
  have hb1 : Below w.heap.size w W1 := by subst hW1; exact ((Below.refl _ w).alloc (Nat.le_refl _) _).alloc (by simp) _
  clear hW1
  obtain ⟨n, hn⟩ : ∃ n, w.heap.size = n := ⟨_, rfl⟩
  rw [hn] at hrw hrr hb1 ⊢
  have HRW := Lib.hid hrw
  have HRR := Lib.hid hrr
  have HB1 := Lib.hid hb1
  have HN := Lib.hid hn
  clear hrw hrr hb1 hn hz
  go_loopw [3] (fun iv wr => ∃ (k : Nat), iv = .int .i64 k ∧ k ≤ 8 ∧ RW wr (n + 1) .u64 54 ((List.range k).map sw0512 ++ List.replicate (8 - k) 0) ∧ RW wr n .u64 54 (List.replicate 8 0) ∧ Below n w wr) (fun i _ => 8 - (intOf i).toNat)
  case atStart => exact ⟨0, rfl, Nat.zero_le _, HRW.out, HRR.out, HB1.out⟩
  case round =>
    obtain ⟨k, rfl, hk, hrw, hrr, hbel⟩ := hrel
    have HRW := Lib.hid hrw
    have HRR := Lib.hid hrr
    have HBEL := Lib.hid hbel
    clear hrw hrr hbel
    by_cases hlt : k < 8
    · have hlt' : (k : Int) < 8 := by omega
      have hcc := (HG.out.below (HN.out ▸ HBEL.out)).1 k hlt
      have hq := square_lt k
      have HSW := Lib.hid (show sw0512 k = square.getD k 0 from rfl)
      generalize square.getD k 0 = C at hcc HSW hq
      have hce := HRW.out.cell (i := k) (by simp; omega)
      generalize ((List.range k).map sw0512 ++ List.replicate (8 - k) 0).getD k 0 = o at hce
      have hfr := HRW.out.frozen k
      generalize hz0 : sw0512 k = z at HSW
      have hCz := HSW.out
      subst hCz
      have HS := Lib.hid (show RW (wr.setCell ⟨n + 1, k, none⟩ (.int .u64 (z : Int))) (n + 1) .u64 54 ((List.range (k + 1)).map sw0512 ++ List.replicate (8 - (k + 1)) 0) by
        have h1 := HRW.out.set (i := k) z
        have h2 := fill_set sw0512 0 k (8 - (k + 1))
        rw [show 8 - (k + 1) + 1 = 8 - k by omega, hz0] at h2
        rw [← h2]; exact h1)
      clear hz0
      go_wp2
      go_roundw
      case rel => exact ⟨k + 1, rfl, hlt, HS.out, HRR.out.other (setCell_other _ (by omega)), HBEL.out.setCell (p := ⟨n + 1, k, none⟩) (by show n ≤ n + 1; omega) _⟩
      case measure => simp [intOf]; omega
    · have hlt' : ¬ (k : Int) < 8 := by omega
      have hrw := HRW.out
      rw [show k = 8 by omega, show 8 - 8 = 0 from rfl, List.replicate_zero, List.append_nil, ← st512_l] at hrw
      have HRW3 := Lib.hid hrw
      have HS2 := Lib.hid (show (Tryd.prog.info? 54).map (·.size) = some (nums .u64 st512.l).size by rw [size_nums]; exact szw512)
      have HO := Lib.hid (show (nums .u64 (List.replicate 8 0)).size = (nums .u64 st512.l).size by rw [size_nums, size_nums]; rfl)
      clear hrw HRW
      go_wp2_with (first | (refine wpList_load_row rfl 54 _ rfl (n + 1) rfl 54 _ (0, 0) _ HRW3.out Tryd.underlying54 rfl HS2.out ?_) | (refine wpList_store_row rfl 54 _ _ rfl n (nums .u64 st512.l) rfl rfl 54 _ HRR.out HS2.out HO.out (nums_one _ _) ?_))
      refine bodyPost_ret (results_cell_row (by rfl) _ _ n 54 (nums .u64 st512.l) (0, 0) _ (by rfl) (setRow_heap _ _ _ _ _ _ HRR.out) Tryd.underlying54 rfl HS2.out) rfl ⟨rfl, ?_⟩
      rw [HN.out]
      exact Below.setRow HBEL.out (by omega) _
/-- The i-th byte of the digest. -/
def db512 (v : W8) (i : Nat) : UInt8 := UInt8.ofNat (v.l.getD (i / 8) 0 / 2 ^ (64 - 8 - i % 8 * 8) % 256)
theorem dig512_eq (v : W8) : dig512 v = (List.range 64).map (db512 v) := rfl
set_option maxRecDepth 100000 in
set_option maxHeartbeats 2000000 in
theorem digest512_any (b : Nat) (v : W8) (L : List UInt8) (k0 : Nat) (w : World) (h : HB512 w b v L k0) :
    Calls Tryd.prog 25 #[.pointer (some ⟨b, 0, none⟩)] w fun e w' => e = .returned (.agg (byteVals (dig512 v)).toArray) ∧ Below w.heap.size w w' := by
  have HH := Lib.hid h
  have hbl := h.lt
  have hz := zd512
  clear h
  go_enter Tryd.func25, Tryd.ntmps25
  go_wp2_with fail
  generalize hW1 : World.alloc _ _ = W1
  have hrw : BT W1 (w.heap.size + 1) 26 (List.replicate 64 0) := by subst hW1; exact (alloc2_at w _ _).2
  have hrr : BT W1 w.heap.size 26 (List.replicate 64 0) := by subst hW1; exact (alloc2_at w _ _).1
  have hb1 : Below w.heap.size w W1 := by subst hW1; exact ((Below.refl _ w).alloc (Nat.le_refl _) _).alloc (by simp) _
  clear hW1
  obtain ⟨n, hn⟩ : ∃ n, w.heap.size = n := ⟨_, rfl⟩
  rw [hn] at hrw hrr hb1 hbl ⊢
  have HRW := Lib.hid hrw
  have HRR := Lib.hid hrr
  have HB1 := Lib.hid hb1
  have HN := Lib.hid hn
  clear hrw hrr hb1 hn hz
  go_loopw [5] (fun iv wr => ∃ (k : Nat), iv = .int .i64 k ∧ k ≤ 64 ∧ BT wr (n + 1) 26 ((List.range k).map (db512 v) ++ List.replicate (64 - k) 0) ∧ BT wr n 26 (List.replicate 64 0) ∧ Below n w wr) (fun i _ => 64 - (intOf i).toNat)
  case atStart => exact ⟨0, rfl, Nat.zero_le _, HRW.out, HRR.out, HB1.out⟩
  case round =>
    obtain ⟨k, rfl, hk, hrw, hrr, hbel⟩ := hrel
    have HRW := Lib.hid hrw
    have HRR := Lib.hid hrr
    have HBEL := Lib.hid hbel
    clear hrw hrr hbel
    by_cases hlt : k < 64
    · have hlt' : (k : Int) < 64 := by omega
      obtain ⟨q, hq⟩ : ∃ q, k / 8 = q := ⟨_, rfl⟩
      obtain ⟨r, hr⟩ : ∃ r, k % 8 = r := ⟨_, rfl⟩
      have hq' : (k : Int) / 8 = (q : Int) := by omega
      have hr' : (k : Int) % 8 = (r : Int) := by omega
      have hq8 : q < 8 := by omega
      have hqI : (q : Int) < 8 := by omega
      have hrQ : r ≤ 8 - 1 := by omega
      have hs0 : 0 ≤ (64 - 8 : Int) - (r : Int) * 8 := by omega
      have hwo := (HH.out.keep (HBEL.out.block b hbl)).word hq8
      have hce := HRW.out.cell (i := k) (by simp; omega)
      generalize ((List.range k).map (db512 v) ++ List.replicate (64 - k) 0).getD k 0 = o at hce
      have hfr := HRW.out.frozen k
      have HDB := Lib.hid (show db512 v k = UInt8.ofNat (v.l.getD q 0 / 2 ^ (64 - 8 - r * 8) % 256) by unfold db512; rw [hq, hr])
      generalize v.l.getD q 0 = y at hwo HDB
      have HY := Lib.hid (show ((y : Int) / 2 ^ (64 - 8 - r * 8) % 256) = ((db512 v k).toNat : Int) by
        rw [HDB.out, UInt8.toNat_ofNat', Nat.mod_eq_of_lt (Nat.mod_lt _ (by decide)), Int.natCast_emod, Int.natCast_ediv, Int.natCast_pow]; rfl)
      have HS := Lib.hid (show BT (wr.setCell ⟨n + 1, k, none⟩ (.int .u8 ((db512 v k).toNat : Int))) (n + 1) 26 ((List.range (k + 1)).map (db512 v) ++ List.replicate (64 - (k + 1)) 0) by
        have h1 := HRW.out.set (i := k) (db512 v k)
        have h2 := fill_set (db512 v) 0 k (64 - (k + 1))
        rw [show 64 - (k + 1) + 1 = 64 - k by omega] at h2
        rw [← h2]; exact h1)
      generalize db512 v k = d at HY HS
      have hy := HY.out
      clear hq hr
      go_wp2
      go_roundw
      case rel => exact ⟨k + 1, rfl, hlt, HS.out, HRR.out.other (setCell_other _ (by omega)), HBEL.out.setCell (p := ⟨n + 1, k, none⟩) (by show n ≤ n + 1; omega) _⟩
      case measure => simp [intOf]; omega
    · have hlt' : ¬ (k : Int) < 64 := by omega
      have hrw := HRW.out
      rw [show k = 64 by omega, Nat.sub_self, List.replicate_zero, List.append_nil, ← dig512_eq] at hrw
      have HRW3 := Lib.hid hrw
      have HDL := Lib.hid (show (dig512 v).length = 64 by rw [dig512_eq]; simp)
      have HS2 := Lib.hid (show (Tryd.prog.info? 26).map (·.size) = some (byteVals (dig512 v)).toArray.size by rw [size_byteVals, HDL.out]; exact szd512)
      have HO := Lib.hid (show (byteVals (List.replicate 64 0)).toArray.size = (byteVals (dig512 v)).toArray.size by rw [size_byteVals, size_byteVals, HDL.out, List.length_replicate])
      clear hrw HRW
      go_wp2_with (first | (refine wpList_load_row rfl 26 _ rfl (n + 1) rfl 26 _ (0, 0) _ HRW3.out Tryd.underlying26 rfl HS2.out ?_) | (refine wpList_store_row rfl 26 _ _ rfl n (byteVals (dig512 v)).toArray rfl rfl 26 _ HRR.out HS2.out HO.out (byteVals_one _) ?_))
      refine bodyPost_ret (results_cell_row (by rfl) _ _ n 26 (byteVals (dig512 v)).toArray (0, 0) _ (by rfl) (setRow_heap _ _ _ _ _ _ HRR.out) Tryd.underlying26 rfl HS2.out) rfl ⟨rfl, ?_⟩
      rw [HN.out]
      exact Below.setRow HBEL.out (by omega) _
end Go.Proofs.YtlpchgoaoglhcaaDoor
namespace Go.Proofs.YtlpchgoaoglhcaaDoor
open Go.RowKit
def w0_512 : W8 := ⟨0, 0, 0, 0, 0, 0, 0, 0⟩
theorem zh512 (w : World) : (zeroValue 58).run Tryd.prog w = .ok (.agg (hcs512 w0_512 (zerB 128) 0)) w :=
  (zero_of_info (P := Tryd.prog) (t := 58) (v := .agg (hcs512 w0_512 (zerB 128) 0)) (n := 128 + 9) (by kernel_rfl)).1 w
theorem built512 : Tryd.prog.built 58 [(0, .agg (nums .u64 st512.l))] = some (hcs512 st512 (zerB 128) 0) := by kernel_rfl
theorem szh512 : (Tryd.prog.info? 58).map (·.size) = some (hcs512 st512 (zerB 128) 0).size := by kernel_rfl
theorem hcs512_one : (hcs512 st512 (zerB 128) 0).all (·.oneCell') = true := by kernel_rfl
theorem hcs512_size : (hcs512 w0_512 (zerB 128) 0).size = (hcs512 st512 (zerB 128) 0).size := by kernel_rfl
set_option maxRecDepth 100000 in
set_option maxHeartbeats 2000000 in
theorem sum512_any (v : Value) (ll : List (List UInt8)) (w : World) (hv : Bss w.heap.size w v ll) (hn : (flat ll).length ≤ 1000000) (hn2 : ll.length ≤ 1000000) (hG : Gl w) :
    Calls Tryd.prog 8 #[v] w fun e w' => e = .returned (.agg (byteVals (sum512 (flat ll))).toArray) ∧ Below w.heap.size w w' := by
  have HV := Lib.hid hv
  have HG := Lib.hid hG
  have HN := Lib.hid hn
  have hz := zd512
  have hzh := zh512
  have hlt1 := hG.lt
  clear hv hG hn
  go_enter Tryd.func8, Tryd.ntmps8
  go_wp2_with fail
  generalize hW1 : World.alloc _ _ = W1
  obtain ⟨n, hnn⟩ : ∃ n, w.heap.size = n := ⟨_, rfl⟩
  have HNN := Lib.hid hnn
  have HR1 := Lib.hid (show BT W1 n 26 (zerB 64) by subst hW1; rw [← hnn]; exact Go.heap_alloc_new _ _)
  have HB1 := Lib.hid (show Below n w W1 by subst hW1; rw [← hnn]; exact (Below.refl _ w).alloc (Nat.le_refl _) _)
  have HZ1 := Lib.hid (show W1.heap.size = n + 1 by subst hW1; rw [← hnn]; simp)
  rw [hnn] at hlt1 ⊢
  have HG1 := Lib.hid (show Gl W1 from HG.out.below (HNN.out.symm ▸ HB1.out))
  clear hW1 hnn hz
  refine (start512_any W1 HG1.out).mono ?_
  rintro e w2 ⟨rfl, hb2⟩
  have HB2 := Lib.hid hb2
  have HG2 := Lib.hid (HG1.out.below hb2)
  clear hb2
  go_wp2_with (first
    | (refine wpList_build' rfl 58 _ rfl (hcs512 st512 (zerB 128) 0) built512 ?_)
    | (refine wpList_store_row rfl 58 _ _ rfl w2.heap.size (hcs512 st512 (zerB 128) 0) rfl rfl 58 _ (Go.heap_alloc_new _ _) szh512 ?hold hcs512_one (Stop.out ?_)))
  case hold => exact hcs512_size
  generalize hW3 : World.setRow _ _ _ = W3
  obtain ⟨b, hb⟩ : ∃ b, w2.heap.size = b := ⟨_, rfl⟩
  have HH3 := Lib.hid (show HB512 W3 b st512 (zerB 128) 0 by subst hW3; rw [← hb]; exact ⟨setRow_heap _ _ _ _ _ _ (Go.heap_alloc_new _ _), zerB_len _, st512_lt⟩)
  have HB3 := Lib.hid (show Below w2.heap.size w2 W3 by subst hW3; exact Below.setRow ((Below.refl _ w2).alloc (Nat.le_refl _) _) (Nat.le_refl _) _)
  have HSB := Lib.hid hb
  have hnb : n < b := by rw [← hb]; have := HB2.out.size; have := HZ1.out; omega
  rw [hb]
  clear hW3 hb hzh
  refine ⟨?_⟩
  have H13 := Lib.hid (show ∀ k, k < n + 1 → W3.heap[k]? = W1.heap[k]? from fun k hk => (HB3.out.block k (by rw [HSB.out]; omega)).trans (HB2.out.block k (by rw [HZ1.out]; omega)))
  have H03 := Lib.hid (show ∀ k, k < n → W3.heap[k]? = w.heap[k]? from fun k hk => (H13.out k (by omega)).trans (HB1.out.block k hk))
  have HV3 := Lib.hid (show Bss b W3 v ll by
    have h1 := HV.out
    rw [HNN.out] at h1
    obtain ⟨ao, cap, rfl, h2 | ⟨g, off, rfl, hg, h2⟩⟩ := h1.keep H03.out
    · exact ⟨ao, cap, rfl, .inl h2⟩
    · refine ⟨_, cap, rfl, .inr ⟨g, off, rfl, by omega, fun i hi => ?_⟩⟩
      obtain ⟨u, h3, ao', cap', rfl, h4 | ⟨g', off', rfl, hg', h4⟩⟩ := h2 i hi
      · exact ⟨_, h3, ao', cap', rfl, .inl h4⟩
      · exact ⟨_, h3, _, cap', rfl, .inr ⟨g', off', rfl, by omega, h4⟩⟩)
  have HG3 := Lib.hid (HG2.out.below HB3.out)
  go_wp2_with fail
  refine (feed512_any b v ll (st512, []) W3 HV3.out HN.out hn2 ⟨_, HH3.out, rfl, by show 0 < 128; decide⟩ HG3.out (by omega)).mono ?_
  rintro e w4 ⟨rfl, ⟨L, h4, _, _⟩, hb4⟩
  have HH4 := Lib.hid h4
  have HB4 := Lib.hid hb4
  have HBS := Lib.hid (show b < W3.heap.size from HH3.out.lt)
  clear h4 hb4
  go_wp2_with fail
  refine (digest512_any b _ L _ w4 HH4.out).mono ?_
  rintro e w5 ⟨rfl, hb5⟩
  have HSM := Lib.hid (show dig512 (eat512 (st512, ([] : List UInt8)).1 (st512, ([] : List UInt8)).2 (flat ll ++ pad512 (flat ll).length)).1 = sum512 (flat ll) from rfl)
  rw [HSM.out]
  generalize hS : sum512 (flat ll) = S
  have HDL := Lib.hid (show S.length = 64 by rw [← hS]; show (dig512 _).length = _; rw [dig512_eq]; simp)
  have HS2 := Lib.hid (show (Tryd.prog.info? 26).map (·.size) = some (byteVals S).toArray.size by rw [size_byteVals, HDL.out]; exact szd512)
  have HO := Lib.hid (show (byteVals (zerB 64)).toArray.size = (byteVals S).toArray.size by rw [size_byteVals, size_byteVals, HDL.out, zerB_len])
  have H15 := Lib.hid (show ∀ k, k < n + 1 → w5.heap[k]? = W1.heap[k]? from fun k hk => by
    have hs3 := HBS.out
    have hs4 := HB4.out.size
    exact (hb5.block k (by omega)).trans ((HB4.out.block k (by omega) (by omega)).trans (H13.out k hk)))
  have HR5 := Lib.hid (show BT w5 n 26 (zerB 64) from HR1.out.other (H15.out n (by omega)))
  have HB5 := Lib.hid (show Below n w w5 by
    refine ⟨?_, ?_, ?_, ?_, fun k hk => (H15.out k (by omega)).trans (HB1.out.block k hk)⟩
    · exact hb5.os.trans (HB4.out.os.trans (HB3.out.os.trans (HB2.out.os.trans HB1.out.os)))
    · exact hb5.tape.trans (HB4.out.tape.trans (HB3.out.tape.trans (HB2.out.tape.trans HB1.out.tape)))
    · exact hb5.output.trans (HB4.out.output.trans (HB3.out.output.trans (HB2.out.output.trans HB1.out.output)))
    · have h1 := HB1.out.size
      have h2 := HB2.out.size
      have h3 := HB3.out.size
      have h4 := HB4.out.size
      have h5 := hb5.size
      omega)
  have HSS := Lib.hid hS
  clear hb5 hS HSM
  go_wp2_with (refine wpList_store_row rfl 26 _ _ rfl n (byteVals S).toArray rfl rfl 26 _ HR5.out HS2.out HO.out (byteVals_one _) ?_)
  refine bodyPost_ret (results_cell_row (by rfl) _ _ n 26 (byteVals S).toArray (0, 0) _ (by rfl) (setRow_heap _ _ _ _ _ _ HR5.out) Tryd.underlying26 rfl HS2.out) rfl ⟨by rw [HSS.out], ?_⟩
  rw [HNN.out]
  exact Below.setRow HB5.out (Nat.le_refl _) _
end Go.Proofs.YtlpchgoaoglhcaaDoor
