/-
  Sums and differences of four words, word by word (plain).
  Sums and differences of four words, with what goes over: package field's and the document's.
  The constants of package field; what is below the prime.
  Words of package field: odd, bit, less, word.
  Words of package field out of bytes.
  Conditions: none.
-/
import Derived.Test.YtlpchgoaoglhcaaDoorMb00
import Derived.Deep.DeepCutAuto
import Derived.Deep.LoopGhost
namespace Go.Proofs.YtlpchgoaoglhcaaDoor
/-- What goes over into word k of a sum; the word. -/
def adc (l m : List Nat) : Nat → Nat
  | 0 => 0
  | k + 1 => (l.getD k 0 + m.getD k 0 + adc l m k) / 18446744073709551616
def ads (l m : List Nat) (k : Nat) : Nat := (l.getD k 0 + m.getD k 0 + adc l m k) % 18446744073709551616
theorem adc_le (l m : List Nat) (hl : ∀ i, l.getD i 0 < 18446744073709551616) (hm : ∀ i, m.getD i 0 < 18446744073709551616) : ∀ k, adc l m k ≤ 1
  | 0 => Nat.zero_le 1
  | k + 1 => by
    have := adc_le l m hl hm k
    have h1 := hl k
    have h2 := hm k
    simp only [adc]
    omega
theorem add_fin (n m : Nat) (hn : n < 115792089237316195423570985008687907853269984665640564039457584007913129639936) (hm : m < 115792089237316195423570985008687907853269984665640564039457584007913129639936) : (List.range 4).map (ads (w4 n) (w4 m)) = w4 ((n + m) % 115792089237316195423570985008687907853269984665640564039457584007913129639936) ∧ adc (w4 n) (w4 m) 4 = (n + m) / 115792089237316195423570985008687907853269984665640564039457584007913129639936 := by
  obtain ⟨a0, a1, a2, a3, ha0, ha1, ha2, ha3, en, e1⟩ := w4_parts n hn
  obtain ⟨b0, b1, b2, b3, hb0, hb1, hb2, hb3, em, e2⟩ := w4_parts m hm
  rw [e1, e2]
  obtain ⟨c1, hc1⟩ : ∃ x, (a0 + b0 + 0) / 18446744073709551616 = x := ⟨_, rfl⟩
  obtain ⟨c2, hc2⟩ : ∃ x, (a1 + b1 + c1) / 18446744073709551616 = x := ⟨_, rfl⟩
  obtain ⟨c3, hc3⟩ : ∃ x, (a2 + b2 + c2) / 18446744073709551616 = x := ⟨_, rfl⟩
  obtain ⟨c4, hc4⟩ : ∃ x, (a3 + b3 + c3) / 18446744073709551616 = x := ⟨_, rfl⟩
  obtain ⟨s0, hs0⟩ : ∃ x, (a0 + b0 + 0) % 18446744073709551616 = x := ⟨_, rfl⟩
  obtain ⟨s1, hs1⟩ : ∃ x, (a1 + b1 + c1) % 18446744073709551616 = x := ⟨_, rfl⟩
  obtain ⟨s2, hs2⟩ : ∃ x, (a2 + b2 + c2) % 18446744073709551616 = x := ⟨_, rfl⟩
  obtain ⟨s3, hs3⟩ : ∃ x, (a3 + b3 + c3) % 18446744073709551616 = x := ⟨_, rfl⟩
  have q1 : adc [a0, a1, a2, a3] [b0, b1, b2, b3] 1 = c1 := hc1
  have q2 : adc [a0, a1, a2, a3] [b0, b1, b2, b3] 2 = c2 := by rw [adc, q1]; exact hc2
  have q3 : adc [a0, a1, a2, a3] [b0, b1, b2, b3] 3 = c3 := by rw [adc, q2]; exact hc3
  have q4 : adc [a0, a1, a2, a3] [b0, b1, b2, b3] 4 = c4 := by rw [adc, q3]; exact hc4
  have r0 : ads [a0, a1, a2, a3] [b0, b1, b2, b3] 0 = s0 := hs0
  have r1 : ads [a0, a1, a2, a3] [b0, b1, b2, b3] 1 = s1 := by rw [ads, q1]; exact hs1
  have r2 : ads [a0, a1, a2, a3] [b0, b1, b2, b3] 2 = s2 := by rw [ads, q2]; exact hs2
  have r3 : ads [a0, a1, a2, a3] [b0, b1, b2, b3] 3 = s3 := by rw [ads, q3]; exact hs3
  have i0 : s0 < 18446744073709551616 := by omega
  have i1 : s1 < 18446744073709551616 := by omega
  have i2 : s2 < 18446744073709551616 := by omega
  have i3 : s3 < 18446744073709551616 := by omega
  have j0 : a0 + b0 = s0 + 18446744073709551616 * c1 := by omega
  have j1 : a1 + b1 + c1 = s1 + 18446744073709551616 * c2 := by omega
  have j2 : a2 + b2 + c2 = s2 + 18446744073709551616 * c3 := by omega
  have j3 : a3 + b3 + c3 = s3 + 18446744073709551616 * c4 := by omega
  have hsum : n + m = (s0 + 18446744073709551616 * s1 + 340282366920938463463374607431768211456 * s2 + 6277101735386680763835789423207666416102355444464034512896 * s3) + 115792089237316195423570985008687907853269984665640564039457584007913129639936 * c4 := by omega
  clear hc1 hc2 hc3 hc4 hs0 hs1 hs2 hs3 j0 j1 j2 j3
  refine ⟨?_, ?_⟩
  · show [ads _ _ 0, ads _ _ 1, ads _ _ 2, ads _ _ 3] = _
    rw [r0, r1, r2, r3]
    refine (w4_of s0 s1 s2 s3 _ i0 i1 i2 i3 ?_).symm
    omega
  · rw [q4]
    omega
/-- The same of a difference. -/
def sbb (l m : List Nat) : Nat → Nat
  | 0 => 0
  | k + 1 => bor (l.getD k 0) (m.getD k 0 + sbb l m k)
def sbs (l m : List Nat) (k : Nat) : Nat := (l.getD k 0 + 18446744073709551616 - m.getD k 0 - sbb l m k) % 18446744073709551616
theorem sbb_le (l m : List Nat) : ∀ k, sbb l m k ≤ 1
  | 0 => Nat.zero_le 1
  | _ + 1 => bor_le _ _
theorem bor_step (x y b d s : Nat) (hb : b ≤ 1) (hx : x < 18446744073709551616) (hy : y < 18446744073709551616) (hd : bor x (y + b) = d) (hs : (x + 18446744073709551616 - y - b) % 18446744073709551616 = s) : x + 18446744073709551616 * d = s + y + b ∧ s < 18446744073709551616 ∧ d ≤ 1 := by
  unfold bor at hd
  split at hd <;> omega
theorem sub_sum (n m a0 a1 a2 a3 b0 b1 b2 b3 c1 c2 c3 c4 s0 s1 s2 s3 : Nat) (en : n = a0 + 18446744073709551616 * a1 + 340282366920938463463374607431768211456 * a2 + 6277101735386680763835789423207666416102355444464034512896 * a3) (em : m = b0 + 18446744073709551616 * b1 + 340282366920938463463374607431768211456 * b2 + 6277101735386680763835789423207666416102355444464034512896 * b3) (j0 : a0 + 18446744073709551616 * c1 = s0 + b0 + 0) (j1 : a1 + 18446744073709551616 * c2 = s1 + b1 + c1) (j2 : a2 + 18446744073709551616 * c3 = s2 + b2 + c2) (j3 : a3 + 18446744073709551616 * c4 = s3 + b3 + c3) :
    n + 115792089237316195423570985008687907853269984665640564039457584007913129639936 * c4 = (s0 + 18446744073709551616 * s1 + 340282366920938463463374607431768211456 * s2 + 6277101735386680763835789423207666416102355444464034512896 * s3) + m := by omega
theorem lt_sum (s0 s1 s2 s3 : Nat) (i0 : s0 < 18446744073709551616) (i1 : s1 < 18446744073709551616) (i2 : s2 < 18446744073709551616) (i3 : s3 < 18446744073709551616) : s0 + 18446744073709551616 * s1 + 340282366920938463463374607431768211456 * s2 + 6277101735386680763835789423207666416102355444464034512896 * s3 < 115792089237316195423570985008687907853269984665640564039457584007913129639936 := by omega
theorem sub_end (n m S c : Nat) (hn : n < 115792089237316195423570985008687907853269984665640564039457584007913129639936) (hm : m < 115792089237316195423570985008687907853269984665640564039457584007913129639936) (h : n + 115792089237316195423570985008687907853269984665640564039457584007913129639936 * c = S + m) (hS : S < 115792089237316195423570985008687907853269984665640564039457584007913129639936) (hc : c ≤ 1) : (n + 115792089237316195423570985008687907853269984665640564039457584007913129639936 - m) % 115792089237316195423570985008687907853269984665640564039457584007913129639936 = S ∧ c = bor n m := by
  refine ⟨by omega, ?_⟩
  unfold bor
  split <;> omega
theorem sub_fin (n m : Nat) (hn : n < 115792089237316195423570985008687907853269984665640564039457584007913129639936) (hm : m < 115792089237316195423570985008687907853269984665640564039457584007913129639936) : (List.range 4).map (sbs (w4 n) (w4 m)) = w4 ((n + 115792089237316195423570985008687907853269984665640564039457584007913129639936 - m) % 115792089237316195423570985008687907853269984665640564039457584007913129639936) ∧ sbb (w4 n) (w4 m) 4 = bor n m := by
  obtain ⟨a0, a1, a2, a3, ha0, ha1, ha2, ha3, en, e1⟩ := w4_parts n hn
  obtain ⟨b0, b1, b2, b3, hb0, hb1, hb2, hb3, em, e2⟩ := w4_parts m hm
  rw [e1, e2]
  obtain ⟨c1, hc1⟩ : ∃ x, bor a0 (b0 + 0) = x := ⟨_, rfl⟩
  obtain ⟨c2, hc2⟩ : ∃ x, bor a1 (b1 + c1) = x := ⟨_, rfl⟩
  obtain ⟨c3, hc3⟩ : ∃ x, bor a2 (b2 + c2) = x := ⟨_, rfl⟩
  obtain ⟨c4, hc4⟩ : ∃ x, bor a3 (b3 + c3) = x := ⟨_, rfl⟩
  obtain ⟨s0, hs0⟩ : ∃ x, (a0 + 18446744073709551616 - b0 - 0) % 18446744073709551616 = x := ⟨_, rfl⟩
  obtain ⟨s1, hs1⟩ : ∃ x, (a1 + 18446744073709551616 - b1 - c1) % 18446744073709551616 = x := ⟨_, rfl⟩
  obtain ⟨s2, hs2⟩ : ∃ x, (a2 + 18446744073709551616 - b2 - c2) % 18446744073709551616 = x := ⟨_, rfl⟩
  obtain ⟨s3, hs3⟩ : ∃ x, (a3 + 18446744073709551616 - b3 - c3) % 18446744073709551616 = x := ⟨_, rfl⟩
  have q1 : sbb [a0, a1, a2, a3] [b0, b1, b2, b3] 1 = c1 := hc1
  have q2 : sbb [a0, a1, a2, a3] [b0, b1, b2, b3] 2 = c2 := by rw [sbb, q1]; exact hc2
  have q3 : sbb [a0, a1, a2, a3] [b0, b1, b2, b3] 3 = c3 := by rw [sbb, q2]; exact hc3
  have q4 : sbb [a0, a1, a2, a3] [b0, b1, b2, b3] 4 = c4 := by rw [sbb, q3]; exact hc4
  have r0 : sbs [a0, a1, a2, a3] [b0, b1, b2, b3] 0 = s0 := hs0
  have r1 : sbs [a0, a1, a2, a3] [b0, b1, b2, b3] 1 = s1 := by rw [sbs, q1]; exact hs1
  have r2 : sbs [a0, a1, a2, a3] [b0, b1, b2, b3] 2 = s2 := by rw [sbs, q2]; exact hs2
  have r3 : sbs [a0, a1, a2, a3] [b0, b1, b2, b3] 3 = s3 := by rw [sbs, q3]; exact hs3
  obtain ⟨j0, i0, k1⟩ := bor_step a0 b0 0 c1 s0 (by decide) ha0 hb0 hc1 hs0
  obtain ⟨j1, i1, k2⟩ := bor_step a1 b1 c1 c2 s1 k1 ha1 hb1 hc2 hs1
  obtain ⟨j2, i2, k3⟩ := bor_step a2 b2 c2 c3 s2 k2 ha2 hb2 hc3 hs2
  obtain ⟨j3, i3, k4⟩ := bor_step a3 b3 c3 c4 s3 k3 ha3 hb3 hc4 hs3
  have hsum := sub_sum n m _ _ _ _ _ _ _ _ _ _ _ _ _ _ _ _ en em j0 j1 j2 j3
  have hlt := lt_sum s0 s1 s2 s3 i0 i1 i2 i3
  obtain ⟨f1, f2⟩ := sub_end n m _ c4 hn hm hsum hlt k4
  refine ⟨?_, ?_⟩
  · show [sbs _ _ 0, sbs _ _ 1, sbs _ _ 2, sbs _ _ 3] = _
    rw [r0, r1, r2, r3]
    exact (w4_of s0 s1 s2 s3 _ i0 i1 i2 i3 f1).symm
  · rw [q4]
    exact f2
theorem fillw (f : Nat → Nat) (l : List Nat) (k : Nat) (hl : l.length = 4) (hk : k < 4) : ((List.range k).map f ++ l.drop k).set k (f k) = (List.range (k + 1)).map f ++ l.drop (k + 1) := by
  have e := List.drop_eq_getElem_cons (show k < l.length by omega)
  rw [List.set_append_right _ _ (by simp)]
  simp only [List.length_map, List.length_range, Nat.sub_self]
  rw [e, List.set_cons_zero, List.range_succ, List.map_append, List.append_assoc]
  rfl
theorem fillw_get (f : Nat → Nat) (l : List Nat) (k : Nat) : ((List.range k).map f ++ l.drop k).getD k 0 = l.getD k 0 := by
  rw [List.getD_eq_getElem?_getD, List.getElem?_append_right (by simp)]
  simp
theorem fillw_len (f : Nat → Nat) (l : List Nat) (k : Nat) (hl : l.length = 4) (hk : k ≤ 4) : ((List.range k).map f ++ l.drop k).length = 4 := by
  simp; omega
end Go.Proofs.YtlpchgoaoglhcaaDoor
namespace Go.Proofs.YtlpchgoaoglhcaaDoor
open Go.RowKit
theorem zC (w : World) : (zeroValue 135).run Tryd.prog w = .ok (.agg (nums .u64 (zer 4))) w :=
  (zero_of_info (P := Tryd.prog) (t := 135) (v := .agg (nums .u64 (zer 4))) (n := 4) (by kernel_rfl)).1 w
theorem sC (n : Nat) : (Tryd.prog.info? 135).map (·.size) = some (nums .u64 (w4 n)).size := by rw [size_nums, w4_len]; kernel_rfl
set_option maxRecDepth 100000 in
set_option maxHeartbeats 1000000 in
theorem plusC_any (n m r c : Nat) (w : World) (hn : n < 115792089237316195423570985008687907853269984665640564039457584007913129639936) (hm : m < 115792089237316195423570985008687907853269984665640564039457584007913129639936) (hr : r < 115792089237316195423570985008687907853269984665640564039457584007913129639936) (h : n + m = r + 115792089237316195423570985008687907853269984665640564039457584007913129639936 * c) :
    Calls Tryd.prog 100 #[.agg (nums .u64 (w4 n)), .agg (nums .u64 (w4 m))] w fun e w' => e = .returned (.tuple #[.agg (nums .u64 (w4 r)), .int .u64 (c : Int)]) ∧ Below w.heap.size w w' := by
  have hf := add_fin n m hn hm
  have HF := Lib.hid (show (List.range 4).map (ads (w4 n) (w4 m)) = w4 r ∧ adc (w4 n) (w4 m) 4 = c by
    rw [hf.1, hf.2]; exact ⟨congrArg w4 (by omega), by omega⟩)
  have hz := zC
  clear hn hm hf hr h
  go_enter Tryd.func100, Tryd.ntmps100
  go_wp2_with fail
  generalize hW1 : World.alloc _ _ = W1
  obtain ⟨N, hN⟩ : ∃ n, w.heap.size = n := ⟨_, rfl⟩
  have HR1 := Lib.hid (show RW W1 N .u64 135 ((List.range 0).map (ads (w4 n) (w4 m)) ++ (w4 n).drop 0) by subst hW1; rw [← hN]; exact (alloc3_at w _ _ _).1)
  have HR2 := Lib.hid (show RW W1 (N + 1) .u64 135 (w4 m) by subst hW1; rw [← hN]; exact (alloc3_at w _ _ _).2.1)
  have HR3 := Lib.hid (show RW W1 (N + 1 + 1) .u64 135 (zer 4) by subst hW1; rw [← hN]; exact (alloc3_at w _ _ _).2.2)
  have HB1 := Lib.hid (show Below N w W1 by subst hW1; rw [← hN]; exact Below.alloc3 w _ _ _)
  have HN := Lib.hid hN
  rw [hN]
  clear hW1 hN hz
  go_loopw [6, 8] (fun cv iv wr => ∃ (k : Nat), iv = .int .i64 k ∧ cv = .int .u64 ((adc (w4 n) (w4 m) k : Nat) : Int) ∧ k ≤ 4 ∧ RW wr N .u64 135 ((List.range k).map (ads (w4 n) (w4 m)) ++ (w4 n).drop k) ∧ RW wr (N + 1) .u64 135 (w4 m) ∧ RW wr (N + 1 + 1) .u64 135 (zer 4) ∧ Below N w wr) (fun _ i _ => 4 - (intOf i).toNat)
  case atStart => exact ⟨0, rfl, rfl, Nat.zero_le _, HR1.out, HR2.out, HR3.out, HB1.out⟩
  case round =>
    obtain ⟨k, rfl, rfl, hk, hr1, hr2, hr3, hbel⟩ := hrel
    have HA1 := Lib.hid hr1
    have HA2 := Lib.hid hr2
    have HA3 := Lib.hid hr3
    have HBE := Lib.hid hbel
    clear hr1 hr2 hr3 hbel HR1 HR2 HR3 HB1
    by_cases hlt : k < 4
    · have hlt' : (k : Int) < 4 := by omega
      have c1 := HA1.out.cell (i := k) (by rw [fillw_len _ _ _ (w4_len n) hk]; exact hlt)
      rw [fillw_get] at c1
      have c2 := HA2.out.cell (i := k) (by rw [w4_len]; exact hlt)
      have hC := adc_le (w4 n) (w4 m) (w4_lt n) (w4_lt m) k
      have HA := Lib.hid (fun w => add64 ((w4 n).getD k 0) ((w4 m).getD k 0) (adc (w4 n) (w4 m) k) (ads (w4 n) (w4 m) k) (adc (w4 n) (w4 m) (k + 1)) hC (by simp only [ads, adc]; omega) (Nat.mod_lt _ (by decide)) w)
      have HS := Lib.hid (fillw (ads (w4 n) (w4 m)) (w4 n) k (w4_len n) hlt)
      obtain ⟨s, hs⟩ : ∃ s, ads (w4 n) (w4 m) k = s := ⟨_, rfl⟩
      obtain ⟨c', hcc⟩ : ∃ s, adc (w4 n) (w4 m) (k + 1) = s := ⟨_, rfl⟩
      obtain ⟨x, hx⟩ : ∃ s, (w4 n).getD k 0 = s := ⟨_, rfl⟩
      obtain ⟨y, hy⟩ : ∃ s, (w4 m).getD k 0 = s := ⟨_, rfl⟩
      rw [hs, hcc, hx, hy] at HA
      rw [hs] at HS
      rw [hx] at c1
      rw [hy] at c2
      generalize adc (w4 n) (w4 m) k = c0 at HA
      have HCC := Lib.hid hcc
      have ha := HA.out
      have f1 := HA1.out.frozen k
      clear hC hs hcc hx hy
      go_wp2_with fail
      go_region
      go_wp2
      go_roundw
      case rel => exact ⟨k + 1, rfl, by rw [HCC.out], hlt, by rw [← HS.out]; exact HA1.out.set s, HA2.out.other (setCell_other _ (by omega)), HA3.out.other (setCell_other _ (by omega)), (HBE.out.setCell (p := ⟨N, k, none⟩) (Nat.le_refl _) _).drew⟩
      case measure => simp [intOf]; omega
    · have hlt' : ¬ (k : Int) < 4 := by omega
      have h1 := HA1.out
      rw [show k = 4 by omega, HF.out.1, List.drop_eq_nil_of_le (by rw [w4_len]; exact Nat.le_refl _), List.append_nil] at h1
      have H1 := Lib.hid h1
      have HC := Lib.hid (show adc (w4 n) (w4 m) k = c by rw [show k = 4 by omega]; exact HF.out.2)
      have HSZ := Lib.hid (sC r)
      have HO := Lib.hid (show (nums .u64 (zer 4)).size = (nums .u64 (w4 r)).size by rw [size_nums, size_nums, zer_len, w4_len])
      clear h1 HA1 HF
      go_wp2_with (first | (refine wpList_load_row rfl 135 _ rfl N rfl 135 _ (0, 0) _ H1.out Tryd.underlying135 rfl HSZ.out ?_) | (refine wpList_store_row rfl 135 _ _ rfl (N + 1 + 1) (nums .u64 (w4 r)) rfl rfl 135 _ HA3.out HSZ.out HO.out (nums_one _ _) ?_))
      refine bodyPost_ret (results_cell_slot (p := 4) (q := 5) (by rfl) _ _ (N + 1 + 1) 135 (nums .u64 (w4 r)) (0, 0) _ (.int .u64 (c : Int)) (by rfl) (setRow_heap _ _ _ _ _ _ HA3.out) Tryd.underlying135 rfl HSZ.out (congrArg (fun z : Nat => Value.int .u64 (z : Int)) HC.out)) rfl ⟨rfl, ?_⟩
      rw [HN.out]
      exact Below.setRow HBE.out (by omega) _
set_option maxRecDepth 100000 in
set_option maxHeartbeats 1000000 in
theorem takeC_any (n m r c : Nat) (w : World) (hn : n < 115792089237316195423570985008687907853269984665640564039457584007913129639936) (hm : m < 115792089237316195423570985008687907853269984665640564039457584007913129639936) (hr : r < 115792089237316195423570985008687907853269984665640564039457584007913129639936) (h : n + 115792089237316195423570985008687907853269984665640564039457584007913129639936 * c = r + m) (hc : c ≤ 1) :
    Calls Tryd.prog 104 #[.agg (nums .u64 (w4 n)), .agg (nums .u64 (w4 m))] w fun e w' => e = .returned (.tuple #[.agg (nums .u64 (w4 r)), .int .u64 (c : Int)]) ∧ Below w.heap.size w w' := by
  have hf := sub_fin n m hn hm
  have HF := Lib.hid (show (List.range 4).map (sbs (w4 n) (w4 m)) = w4 r ∧ sbb (w4 n) (w4 m) 4 = c by
    obtain ⟨e1, e2⟩ := sub_end n m r c hn hm h hr hc; rw [hf.1, hf.2, e1, e2]; exact ⟨rfl, rfl⟩)
  have hz := zC
  clear hn hm hf hr h hc
  go_enter Tryd.func104, Tryd.ntmps104
  go_wp2_with fail
  generalize hW1 : World.alloc _ _ = W1
  obtain ⟨N, hN⟩ : ∃ n, w.heap.size = n := ⟨_, rfl⟩
  have HR1 := Lib.hid (show RW W1 N .u64 135 ((List.range 0).map (sbs (w4 n) (w4 m)) ++ (w4 n).drop 0) by subst hW1; rw [← hN]; exact (alloc3_at w _ _ _).1)
  have HR2 := Lib.hid (show RW W1 (N + 1) .u64 135 (w4 m) by subst hW1; rw [← hN]; exact (alloc3_at w _ _ _).2.1)
  have HR3 := Lib.hid (show RW W1 (N + 1 + 1) .u64 135 (zer 4) by subst hW1; rw [← hN]; exact (alloc3_at w _ _ _).2.2)
  have HB1 := Lib.hid (show Below N w W1 by subst hW1; rw [← hN]; exact Below.alloc3 w _ _ _)
  have HN := Lib.hid hN
  rw [hN]
  clear hW1 hN hz
  go_loopw [6, 8] (fun cv iv wr => ∃ (k : Nat), iv = .int .i64 k ∧ cv = .int .u64 ((sbb (w4 n) (w4 m) k : Nat) : Int) ∧ k ≤ 4 ∧ RW wr N .u64 135 ((List.range k).map (sbs (w4 n) (w4 m)) ++ (w4 n).drop k) ∧ RW wr (N + 1) .u64 135 (w4 m) ∧ RW wr (N + 1 + 1) .u64 135 (zer 4) ∧ Below N w wr) (fun _ i _ => 4 - (intOf i).toNat)
  case atStart => exact ⟨0, rfl, rfl, Nat.zero_le _, HR1.out, HR2.out, HR3.out, HB1.out⟩
  case round =>
    obtain ⟨k, rfl, rfl, hk, hr1, hr2, hr3, hbel⟩ := hrel
    have HA1 := Lib.hid hr1
    have HA2 := Lib.hid hr2
    have HA3 := Lib.hid hr3
    have HBE := Lib.hid hbel
    clear hr1 hr2 hr3 hbel HR1 HR2 HR3 HB1
    by_cases hlt : k < 4
    · have hlt' : (k : Int) < 4 := by omega
      have c1 := HA1.out.cell (i := k) (by rw [fillw_len _ _ _ (w4_len n) hk]; exact hlt)
      rw [fillw_get] at c1
      have c2 := HA2.out.cell (i := k) (by rw [w4_len]; exact hlt)
      have hC := sbb_le (w4 n) (w4 m) k
      have HA := Lib.hid (fun w => by
        obtain ⟨h1, h2, h3⟩ := bor_step ((w4 n).getD k 0) ((w4 m).getD k 0) (sbb (w4 n) (w4 m) k) _ _ hC (w4_lt n k) (w4_lt m k) rfl rfl
        exact sub64 ((w4 n).getD k 0) ((w4 m).getD k 0) (sbb (w4 n) (w4 m) k) (sbs (w4 n) (w4 m) k) (sbb (w4 n) (w4 m) (k + 1)) hC h1 h2 (w4_lt m k) (w4_lt n k) h3 w)
      have HS := Lib.hid (fillw (sbs (w4 n) (w4 m)) (w4 n) k (w4_len n) hlt)
      obtain ⟨s, hs⟩ : ∃ s, sbs (w4 n) (w4 m) k = s := ⟨_, rfl⟩
      obtain ⟨c', hcc⟩ : ∃ s, sbb (w4 n) (w4 m) (k + 1) = s := ⟨_, rfl⟩
      obtain ⟨x, hx⟩ : ∃ s, (w4 n).getD k 0 = s := ⟨_, rfl⟩
      obtain ⟨y, hy⟩ : ∃ s, (w4 m).getD k 0 = s := ⟨_, rfl⟩
      rw [hs, hcc, hx, hy] at HA
      rw [hs] at HS
      rw [hx] at c1
      rw [hy] at c2
      generalize sbb (w4 n) (w4 m) k = c0 at HA
      have HCC := Lib.hid hcc
      have ha := HA.out
      have f1 := HA1.out.frozen k
      clear hC hs hcc hx hy
      go_wp2_with fail
      go_region
      go_wp2
      go_roundw
      case rel => exact ⟨k + 1, rfl, by rw [HCC.out], hlt, by rw [← HS.out]; exact HA1.out.set s, HA2.out.other (setCell_other _ (by omega)), HA3.out.other (setCell_other _ (by omega)), (HBE.out.setCell (p := ⟨N, k, none⟩) (Nat.le_refl _) _).drew⟩
      case measure => simp [intOf]; omega
    · have hlt' : ¬ (k : Int) < 4 := by omega
      have h1 := HA1.out
      rw [show k = 4 by omega, HF.out.1, List.drop_eq_nil_of_le (by rw [w4_len]; exact Nat.le_refl _), List.append_nil] at h1
      have H1 := Lib.hid h1
      have HC := Lib.hid (show sbb (w4 n) (w4 m) k = c by rw [show k = 4 by omega]; exact HF.out.2)
      have HSZ := Lib.hid (sC r)
      have HO := Lib.hid (show (nums .u64 (zer 4)).size = (nums .u64 (w4 r)).size by rw [size_nums, size_nums, zer_len, w4_len])
      clear h1 HA1 HF
      go_wp2_with (first | (refine wpList_load_row rfl 135 _ rfl N rfl 135 _ (0, 0) _ H1.out Tryd.underlying135 rfl HSZ.out ?_) | (refine wpList_store_row rfl 135 _ _ rfl (N + 1 + 1) (nums .u64 (w4 r)) rfl rfl 135 _ HA3.out HSZ.out HO.out (nums_one _ _) ?_))
      refine bodyPost_ret (results_cell_slot (p := 4) (q := 5) (by rfl) _ _ (N + 1 + 1) 135 (nums .u64 (w4 r)) (0, 0) _ (.int .u64 (c : Int)) (by rfl) (setRow_heap _ _ _ _ _ _ HA3.out) Tryd.underlying135 rfl HSZ.out (congrArg (fun z : Nat => Value.int .u64 (z : Int)) HC.out)) rfl ⟨rfl, ?_⟩
      rw [HN.out]
      exact Below.setRow HBE.out (by omega) _
end Go.Proofs.YtlpchgoaoglhcaaDoor
namespace Go.Proofs.YtlpchgoaoglhcaaDoor
open Go.RowKit
theorem below_set (w : World) (cs S : Array Value) (t : TypeId) : Below w.heap.size w ((w.alloc (.cells cs t)).setRow w.heap.size S) := Below.setRow ((Below.refl _ w).alloc (Nat.le_refl _) _) (Nat.le_refl _) _
set_option maxRecDepth 100000 in
set_option maxHeartbeats 1000000 in
theorem below255_19 (w : World) : Calls Tryd.prog 105 #[.int .i64 255, .int .u64 19] w fun e w' => e = .returned (.agg (nums .u64 (w4 57896044618658097711785492504343953926634992332820282019728792003956564819949))) ∧ Below w.heap.size w w' := by
  have hz := zC
  have HS := Lib.hid (sC 57896044618658097711785492504343953926634992332820282019728792003956564819949)
  go_enter Tryd.func105, Tryd.ntmps105
  go_wp2_with (first
    | (refine wpList_build' rfl 135 _ rfl (nums .u64 (w4 57896044618658097711785492504343953926634992332820282019728792003956564819949)) (by kernel_rfl) ?_)
    | (refine wpList_store_row rfl 135 _ _ rfl w.heap.size (nums .u64 (w4 57896044618658097711785492504343953926634992332820282019728792003956564819949)) rfl rfl 135 _ (Go.heap_alloc_new _ _) HS.out ?hold (nums_one _ _) ?_))
  case hold => rw [size_nums, size_nums, zer_len]; rfl
  exact bodyPost_ret (results_cell_row (by rfl) _ _ w.heap.size 135 (nums .u64 (w4 57896044618658097711785492504343953926634992332820282019728792003956564819949)) (0, 0) _ (by rfl) (setRow_heap _ _ _ _ _ _ (Go.heap_alloc_new _ _)) Tryd.underlying135 rfl HS.out) rfl ⟨rfl, below_set _ _ _ _⟩
set_option maxRecDepth 100000 in
set_option maxHeartbeats 1000000 in
theorem below255_21 (w : World) : Calls Tryd.prog 105 #[.int .i64 255, .int .u64 21] w fun e w' => e = .returned (.agg (nums .u64 (w4 57896044618658097711785492504343953926634992332820282019728792003956564819947))) ∧ Below w.heap.size w w' := by
  have hz := zC
  have HS := Lib.hid (sC 57896044618658097711785492504343953926634992332820282019728792003956564819947)
  go_enter Tryd.func105, Tryd.ntmps105
  go_wp2_with (first
    | (refine wpList_build' rfl 135 _ rfl (nums .u64 (w4 57896044618658097711785492504343953926634992332820282019728792003956564819947)) (by kernel_rfl) ?_)
    | (refine wpList_store_row rfl 135 _ _ rfl w.heap.size (nums .u64 (w4 57896044618658097711785492504343953926634992332820282019728792003956564819947)) rfl rfl 135 _ (Go.heap_alloc_new _ _) HS.out ?hold (nums_one _ _) ?_))
  case hold => rw [size_nums, size_nums, zer_len]; rfl
  exact bodyPost_ret (results_cell_row (by rfl) _ _ w.heap.size 135 (nums .u64 (w4 57896044618658097711785492504343953926634992332820282019728792003956564819947)) (0, 0) _ (by rfl) (setRow_heap _ _ _ _ _ _ (Go.heap_alloc_new _ _)) Tryd.underlying135 rfl HS.out) rfl ⟨rfl, below_set _ _ _ _⟩
set_option maxRecDepth 100000 in
set_option maxHeartbeats 1000000 in
theorem below252_2 (w : World) : Calls Tryd.prog 105 #[.int .i64 252, .int .u64 2] w fun e w' => e = .returned (.agg (nums .u64 (w4 7237005577332262213973186563042994240829374041602535252466099000494570602494))) ∧ Below w.heap.size w w' := by
  have hz := zC
  have HS := Lib.hid (sC 7237005577332262213973186563042994240829374041602535252466099000494570602494)
  go_enter Tryd.func105, Tryd.ntmps105
  go_wp2_with (first
    | (refine wpList_build' rfl 135 _ rfl (nums .u64 (w4 7237005577332262213973186563042994240829374041602535252466099000494570602494)) (by kernel_rfl) ?_)
    | (refine wpList_store_row rfl 135 _ _ rfl w.heap.size (nums .u64 (w4 7237005577332262213973186563042994240829374041602535252466099000494570602494)) rfl rfl 135 _ (Go.heap_alloc_new _ _) HS.out ?hold (nums_one _ _) ?_))
  case hold => rw [size_nums, size_nums, zer_len]; rfl
  exact bodyPost_ret (results_cell_row (by rfl) _ _ w.heap.size 135 (nums .u64 (w4 7237005577332262213973186563042994240829374041602535252466099000494570602494)) (0, 0) _ (by rfl) (setRow_heap _ _ _ _ _ _ (Go.heap_alloc_new _ _)) Tryd.underlying135 rfl HS.out) rfl ⟨rfl, below_set _ _ _ _⟩
set_option maxRecDepth 100000 in
set_option maxHeartbeats 1000000 in
theorem below253_5 (w : World) : Calls Tryd.prog 105 #[.int .i64 253, .int .u64 5] w fun e w' => e = .returned (.agg (nums .u64 (w4 14474011154664524427946373126085988481658748083205070504932198000989141204987))) ∧ Below w.heap.size w w' := by
  have hz := zC
  have HS := Lib.hid (sC 14474011154664524427946373126085988481658748083205070504932198000989141204987)
  go_enter Tryd.func105, Tryd.ntmps105
  go_wp2_with (first
    | (refine wpList_build' rfl 135 _ rfl (nums .u64 (w4 14474011154664524427946373126085988481658748083205070504932198000989141204987)) (by kernel_rfl) ?_)
    | (refine wpList_store_row rfl 135 _ _ rfl w.heap.size (nums .u64 (w4 14474011154664524427946373126085988481658748083205070504932198000989141204987)) rfl rfl 135 _ (Go.heap_alloc_new _ _) HS.out ?hold (nums_one _ _) ?_))
  case hold => rw [size_nums, size_nums, zer_len]; rfl
  exact bodyPost_ret (results_cell_row (by rfl) _ _ w.heap.size 135 (nums .u64 (w4 14474011154664524427946373126085988481658748083205070504932198000989141204987)) (0, 0) _ (by rfl) (setRow_heap _ _ _ _ _ _ (Go.heap_alloc_new _ _)) Tryd.underlying135 rfl HS.out) rfl ⟨rfl, below_set _ _ _ _⟩
/-- A row in a block that a call left alone is stored into the one made for it. -/
theorem keepRow {w w' : World} {o : Obj} (hb : Below (w.alloc o).heap.size (w.alloc o) w') : w'.heap[w.heap.size]? = some o ∧ Below w.heap.size w w' :=
  ⟨(hb.block w.heap.size (by simp)).trans (Go.heap_alloc_new _ _), ((Below.refl _ w).alloc (Nat.le_refl _) o).trans (hb.mono (by simp))⟩
set_option maxRecDepth 100000 in
set_option maxHeartbeats 1000000 in
theorem primeC_any (w : World) : Calls Tryd.prog 91 #[] w fun e w' => e = .returned (.agg (nums .u64 (w4 57896044618658097711785492504343953926634992332820282019728792003956564819949))) ∧ Below w.heap.size w w' := by
  have hz := zC
  have HS := Lib.hid (sC 57896044618658097711785492504343953926634992332820282019728792003956564819949)
  go_enter Tryd.func91, Tryd.ntmps91
  go_wp2_with fail
  refine (below255_19 _).mono ?_
  rintro e w1 ⟨rfl, hb1⟩
  obtain ⟨hr, hb⟩ := keepRow hb1
  have HR := Lib.hid hr
  have HB := Lib.hid hb
  clear hb1 hr hb hz
  go_wp2_with (refine wpList_store_row rfl 135 _ _ rfl w.heap.size (nums .u64 (w4 57896044618658097711785492504343953926634992332820282019728792003956564819949)) rfl rfl 135 _ HR.out HS.out ?hold (nums_one _ _) ?_)
  case hold => rw [size_nums, size_nums, zer_len]; rfl
  exact bodyPost_ret (results_cell_row (by rfl) _ _ w.heap.size 135 (nums .u64 (w4 57896044618658097711785492504343953926634992332820282019728792003956564819949)) (0, 0) _ (by rfl) (setRow_heap _ _ _ _ _ _ HR.out) Tryd.underlying135 rfl HS.out) rfl ⟨rfl, Below.setRow HB.out (Nat.le_refl _) _⟩
end Go.Proofs.YtlpchgoaoglhcaaDoor
namespace Go.Proofs.YtlpchgoaoglhcaaDoor
open Go.RowKit
theorem and1N (a : Nat) (ha : a < 18446744073709551616) : bits .and .u64 (a : Int) 1 = ((a % 2 : Nat) : Int) := by
  have := bits_mask .u64 64 (by decide) wraps_u64 1 (by decide) (a : Int) (by omega) (by omega)
  rw [show (1 : Int) = 2 ^ 1 - 1 by decide, this]
  omega
theorem bool_mod2 (x n : Nat) (h : x % 2 = n % 2) : ((x : Int) % 2 == 1) = decide (n % 2 = 1) := by
  rw [Bool.eq_iff_iff]
  simp
  omega
set_option maxRecDepth 100000 in
set_option maxHeartbeats 1000000 in
theorem oddC_any (n : Nat) (w : World) :
    Calls Tryd.prog 94 #[.agg (nums .u64 (w4 n))] w fun e w' => e = .returned (.bool (decide (n % 2 = 1))) ∧ Below w.heap.size w w' := by
  have hx : n % 18446744073709551616 % 2 = n % 2 := by omega
  have hlt : n % 18446744073709551616 < 18446744073709551616 := Nat.mod_lt _ (by decide)
  have h1 := and1N _ hlt
  have h0 : (nums .u64 (w4 n))[0]? = some (.int .u64 ((n % 18446744073709551616 : Nat) : Int)) := rfl
  have HE := Lib.hid hx
  generalize n % 18446744073709551616 = x at h1 h0 HE
  clear hx hlt
  go_enter Tryd.func94, Tryd.ntmps94
  go_wp2_with fail
  go_ret
  exact ⟨congrArg (fun b => Ending.returned (Value.bool b)) (bool_mod2 x n HE.out), (Below.refl _ w).alloc (Nat.le_refl _) _⟩
/-- Bit i of a number's words. -/
theorem div_bit (n i : Nat) : wd n (i / 64) / 2 ^ (i % 64) % 2 = n / 2 ^ i % 2 := by
  unfold wd
  have e1 : 18446744073709551616 = 2 ^ 64 := by decide
  rw [e1, ← Nat.pow_mul]
  generalize hm : n / 2 ^ (64 * (i / 64)) = m
  have e2 : n / 2 ^ i = m / 2 ^ (i % 64) := by
    rw [← hm, Nat.div_div_eq_div_mul, ← Nat.pow_add]
    congr 2
    omega
  have e3 : (2 : Nat) ^ 64 = 2 ^ (i % 64) * 2 ^ (64 - i % 64) := by rw [← Nat.pow_add]; congr 1; omega
  rw [e2, e3, Nat.mod_mul_right_div_self]
  have e4 : (2 : Nat) ^ (64 - i % 64) = 2 * 2 ^ (63 - i % 64) := by rw [Nat.mul_comm, ← Nat.pow_succ]; congr 1; omega
  rw [e4, Nat.mod_mul_right_mod]
set_option maxRecDepth 100000 in
set_option maxHeartbeats 1000000 in
theorem bitC_any (n i : Nat) (w : World) (hi : i < 256) :
    Calls Tryd.prog 111 #[.agg (nums .u64 (w4 n)), .int .i64 i] w fun e w' => e = .returned (.bool (decide (n / 2 ^ i % 2 = 1))) ∧ Below w.heap.size w w' := by
  have HD := Lib.hid (div_bit n i)
  have hw := w4_lt n (i / 64)
  have h0 : (nums .u64 (w4 n))[i / 64]? = some (.int .u64 ((wd n (i / 64) : Nat) : Int)) := by
    have := w4_get n (i / 64) (by omega)
    rw [← this]
    simp [nums, List.getElem?_eq_getElem (show i / 64 < (w4 n).length by rw [w4_len]; omega)]
  rw [w4_get n (i / 64) (by omega)] at hw
  have e1 : (i : Int) / 64 = ((i / 64 : Nat) : Int) := by omega
  have e2 : (i : Int) % 64 = ((i % 64 : Nat) : Int) := by omega
  have hq : ((i / 64 : Nat) : Int) < 4 := by omega
  have hr : ((i % 64 : Nat) : Int) < 64 := by omega
  generalize i / 64 = q at *
  generalize i % 64 = r at *
  generalize wd n q = x at *
  have h1 : bits .and .u64 ((x : Int) / 2 ^ r) 1 = ((x / 2 ^ r % 2 : Nat) : Int) := by
    rw [show (x : Int) / 2 ^ r = ((x / 2 ^ r : Nat) : Int) by simp]
    exact and1N (x / 2 ^ r) (Nat.lt_of_le_of_lt (Nat.div_le_self _ _) hw)
  obtain ⟨m, hm⟩ : ∃ m, x / 2 ^ r % 2 = m := ⟨_, rfl⟩
  rw [hm] at h1 HD
  clear hw hm
  go_enter Tryd.func111, Tryd.ntmps111
  go_wp2_with fail
  go_ret
  refine ⟨congrArg (fun b => Ending.returned (Value.bool b)) ?_, (Below.refl _ w).alloc (Nat.le_refl _) _⟩
  rw [← HD.out, Bool.eq_iff_iff]
  simp only [beq_iff_eq, decide_eq_true_eq]
  exact ⟨fun h => by exact_mod_cast h, fun h => by exact_mod_cast h⟩
set_option maxRecDepth 100000 in
set_option maxHeartbeats 1000000 in
theorem wordC_any (b off cap : Nat) (y0 y1 y2 y3 y4 y5 y6 y7 : Nat) (w : World) (h0 : y0 < 256) (h1 : y1 < 256) (h2 : y2 < 256) (h3 : y3 < 256) (h4 : y4 < 256) (h5 : y5 < 256) (h6 : y6 < 256) (h7 : y7 < 256)
    (c0 : w.cell? ⟨b, off, none⟩ = some (.int .u8 (y0 : Int)))
    (c1 : w.cell? ⟨b, off + 1, none⟩ = some (.int .u8 (y1 : Int)))
    (c2 : w.cell? ⟨b, off + 2, none⟩ = some (.int .u8 (y2 : Int)))
    (c3 : w.cell? ⟨b, off + 3, none⟩ = some (.int .u8 (y3 : Int)))
    (c4 : w.cell? ⟨b, off + 4, none⟩ = some (.int .u8 (y4 : Int)))
    (c5 : w.cell? ⟨b, off + 5, none⟩ = some (.int .u8 (y5 : Int)))
    (c6 : w.cell? ⟨b, off + 6, none⟩ = some (.int .u8 (y6 : Int)))
    (c7 : w.cell? ⟨b, off + 7, none⟩ = some (.int .u8 (y7 : Int))) :
    Calls Tryd.prog 103 #[.slice (some ⟨b, off, none⟩) 8 cap] w fun e w' => e = .returned (.int .u64 ((y0 + 256 * y1 + 65536 * y2 + 16777216 * y3 + 4294967296 * y4 + 1099511627776 * y5 + 281474976710656 * y6 + 72057594037927936 * y7 : Nat) : Int)) ∧ w' = w.drew := by
  have q0 : IntKind.u64.wrap (y0 : Int) = (y0 : Int) := by rw [IntKind.wrap_u64]; omega
  have q1 : IntKind.u64.wrap (y1 : Int) = (y1 : Int) := by rw [IntKind.wrap_u64]; omega
  have q2 : IntKind.u64.wrap (y2 : Int) = (y2 : Int) := by rw [IntKind.wrap_u64]; omega
  have q3 : IntKind.u64.wrap (y3 : Int) = (y3 : Int) := by rw [IntKind.wrap_u64]; omega
  have q4 : IntKind.u64.wrap (y4 : Int) = (y4 : Int) := by rw [IntKind.wrap_u64]; omega
  have q5 : IntKind.u64.wrap (y5 : Int) = (y5 : Int) := by rw [IntKind.wrap_u64]; omega
  have q6 : IntKind.u64.wrap (y6 : Int) = (y6 : Int) := by rw [IntKind.wrap_u64]; omega
  have q7 : IntKind.u64.wrap (y7 : Int) = (y7 : Int) := by rw [IntKind.wrap_u64]; omega
  obtain ⟨z1, e1⟩ : ∃ z, y1 * 256 = z := ⟨_, rfl⟩
  have m1 : IntKind.u64.wrap ((y1 : Int) * 256) = (z1 : Int) := by rw [IntKind.wrap_u64]; omega
  obtain ⟨z2, e2⟩ : ∃ z, y2 * 65536 = z := ⟨_, rfl⟩
  have m2 : IntKind.u64.wrap ((y2 : Int) * 65536) = (z2 : Int) := by rw [IntKind.wrap_u64]; omega
  obtain ⟨z3, e3⟩ : ∃ z, y3 * 16777216 = z := ⟨_, rfl⟩
  have m3 : IntKind.u64.wrap ((y3 : Int) * 16777216) = (z3 : Int) := by rw [IntKind.wrap_u64]; omega
  obtain ⟨z4, e4⟩ : ∃ z, y4 * 4294967296 = z := ⟨_, rfl⟩
  have m4 : IntKind.u64.wrap ((y4 : Int) * 4294967296) = (z4 : Int) := by rw [IntKind.wrap_u64]; omega
  obtain ⟨z5, e5⟩ : ∃ z, y5 * 1099511627776 = z := ⟨_, rfl⟩
  have m5 : IntKind.u64.wrap ((y5 : Int) * 1099511627776) = (z5 : Int) := by rw [IntKind.wrap_u64]; omega
  obtain ⟨z6, e6⟩ : ∃ z, y6 * 281474976710656 = z := ⟨_, rfl⟩
  have m6 : IntKind.u64.wrap ((y6 : Int) * 281474976710656) = (z6 : Int) := by rw [IntKind.wrap_u64]; omega
  obtain ⟨z7, e7⟩ : ∃ z, y7 * 72057594037927936 = z := ⟨_, rfl⟩
  have m7 : IntKind.u64.wrap ((y7 : Int) * 72057594037927936) = (z7 : Int) := by rw [IntKind.wrap_u64]; omega
  obtain ⟨s6, g6⟩ : ∃ z, z7 + z6 = z := ⟨_, rfl⟩
  have o6 : bits .or .u64 (z7 : Int) (z6 : Int) = (s6 : Int) := by
    rw [bits_join .u64 64 (by decide) wraps_u64 56 _ _ (by omega) (by omega) (by omega) (by omega) (by omega) (by omega)]; omega
  obtain ⟨s5, g5⟩ : ∃ z, s6 + z5 = z := ⟨_, rfl⟩
  have o5 : bits .or .u64 (s6 : Int) (z5 : Int) = (s5 : Int) := by
    rw [bits_join .u64 64 (by decide) wraps_u64 48 _ _ (by omega) (by omega) (by omega) (by omega) (by omega) (by omega)]; omega
  obtain ⟨s4, g4⟩ : ∃ z, s5 + z4 = z := ⟨_, rfl⟩
  have o4 : bits .or .u64 (s5 : Int) (z4 : Int) = (s4 : Int) := by
    rw [bits_join .u64 64 (by decide) wraps_u64 40 _ _ (by omega) (by omega) (by omega) (by omega) (by omega) (by omega)]; omega
  obtain ⟨s3, g3⟩ : ∃ z, s4 + z3 = z := ⟨_, rfl⟩
  have o3 : bits .or .u64 (s4 : Int) (z3 : Int) = (s3 : Int) := by
    rw [bits_join .u64 64 (by decide) wraps_u64 32 _ _ (by omega) (by omega) (by omega) (by omega) (by omega) (by omega)]; omega
  obtain ⟨s2, g2⟩ : ∃ z, s3 + z2 = z := ⟨_, rfl⟩
  have o2 : bits .or .u64 (s3 : Int) (z2 : Int) = (s2 : Int) := by
    rw [bits_join .u64 64 (by decide) wraps_u64 24 _ _ (by omega) (by omega) (by omega) (by omega) (by omega) (by omega)]; omega
  obtain ⟨s1, g1⟩ : ∃ z, s2 + z1 = z := ⟨_, rfl⟩
  have o1 : bits .or .u64 (s2 : Int) (z1 : Int) = (s1 : Int) := by
    rw [bits_join .u64 64 (by decide) wraps_u64 16 _ _ (by omega) (by omega) (by omega) (by omega) (by omega) (by omega)]; omega
  obtain ⟨s0, g0⟩ : ∃ z, s1 + y0 = z := ⟨_, rfl⟩
  have o0 : bits .or .u64 (s1 : Int) (y0 : Int) = (s0 : Int) := by
    rw [bits_join .u64 64 (by decide) wraps_u64 8 _ _ (by omega) (by omega) (by omega) (by omega) (by omega) (by omega)]; omega
  have HT := Lib.hid (show s0 = y0 + 256 * y1 + 65536 * y2 + 16777216 * y3 + 4294967296 * y4 + 1099511627776 * y5 + 281474976710656 * y6 + 72057594037927936 * y7 by omega)
  clear h0 h1 h2 h3 h4 h5 h6 h7 e1 e2 e3 e4 e5 e6 e7 g0 g1 g2 g3 g4 g5 g6
  go_enter Tryd.func103, Tryd.ntmps103
  go_wp2_with fail
  go_still_tail 46, (by kernel_rfl)
  change wpList _ _ _ _ _ w.drew
  go_wp2
  go_ret
  exact ⟨congrArg (fun n : Nat => Ending.returned (Value.int .u64 (n : Int))) HT.out, rfl⟩
end Go.Proofs.YtlpchgoaoglhcaaDoor
namespace Go.Proofs.YtlpchgoaoglhcaaDoor
open Go.RowKit
theorem fillz (f : Nat → Nat) (k : Nat) (hk : k < 4) : ((List.range k).map f ++ (zer 4).drop k).set k (f k) = (List.range (k + 1)).map f ++ (zer 4).drop (k + 1) := fillw f (zer 4) k (zer_len 4) hk
theorem BT.below {w w' : World} {b B : Nat} {t : TypeId} {l : List UInt8} (h : BT w b t l) (hb : Below B w w') (hB : b < B) : BT w' b t l := h.other (hb.block b hB)
theorem RW.below {w w' : World} {b B : Nat} {k : IntKind} {t : TypeId} {l : List Nat} (h : RW w b k t l) (hb : Below B w w') (hB : b < B) : RW w' b k t l := h.other (hb.block b hB)
set_option maxRecDepth 100000 in
set_option maxHeartbeats 1000000 in
theorem ofC_any (l : List UInt8) (w : World) (hl : l.length = 32) :
    Calls Tryd.prog 89 #[.agg (byteVals l).toArray] w fun e w' => e = .returned (.agg (nums .u64 (w4 (le l)))) ∧ Below w.heap.size w w' := by
  have HL := Lib.hid hl
  have hz := zC
  clear hl
  go_enter Tryd.func89, Tryd.ntmps89
  go_wp2_with fail
  generalize hW1 : World.alloc _ _ = W1
  obtain ⟨N, hN⟩ : ∃ n, w.heap.size = n := ⟨_, rfl⟩
  have HR1 := Lib.hid (show BT W1 N 102 l by subst hW1; rw [← hN]; exact (alloc3_at w _ _ _).1)
  have HR3 := Lib.hid (show RW W1 (N + 1) .u64 135 (zer 4) by subst hW1; rw [← hN]; exact (alloc3_at w _ _ _).2.1)
  have HR2 := Lib.hid (show RW W1 (N + 1 + 1) .u64 135 ((List.range 0).map (wd (le l)) ++ (zer 4).drop 0) by subst hW1; rw [← hN]; exact (alloc3_at w _ _ _).2.2)
  have HB1 := Lib.hid (show Below N w W1 by subst hW1; rw [← hN]; exact Below.alloc3 w _ _ _)
  have HN := Lib.hid hN
  rw [hN]
  clear hW1 hN hz
  go_loopw [5] (fun iv wr => ∃ (k : Nat), iv = .int .i64 k ∧ k ≤ 4 ∧ BT wr N 102 l ∧ RW wr (N + 1) .u64 135 (zer 4) ∧ RW wr (N + 1 + 1) .u64 135 ((List.range k).map (wd (le l)) ++ (zer 4).drop k) ∧ Below N w wr) (fun i _ => 4 - (intOf i).toNat)
  case atStart => exact ⟨0, rfl, Nat.zero_le _, HR1.out, HR3.out, HR2.out, HB1.out⟩
  case round =>
    obtain ⟨k, rfl, hk, hr1, hr3, hr2, hbel⟩ := hrel
    have HA1 := Lib.hid hr1
    have HA2 := Lib.hid hr2
    have HA3 := Lib.hid hr3
    have HBE := Lib.hid hbel
    clear hr1 hr2 hr3 hbel HR1 HR2 HR3 HB1
    by_cases hlt : k < 4
    · have hlt' : (k : Int) < 4 := by omega
      obtain ⟨e, he⟩ : ∃ e, 8 * k = e := ⟨_, rfl⟩
      have i1 : (8 : Int) * (k : Int) = (e : Int) := by omega
      have i2 : IntKind.i64.wrap (e : Int) = (e : Int) := by rw [IntKind.wrap_i64]; omega
      have i3 : IntKind.i64.wrap ((e : Int) + 8) = (e : Int) + 8 := by rw [IntKind.wrap_i64]; omega
      have i4 : (0 : Int) ≤ (e : Int) + 8 := by omega
      have i5 : (e : Int) + 8 ≤ 32 := by omega
      have i6 : ((e : Int) + 8).toNat = e + 8 := by omega
      have i7 : (e : Int) ≤ (e : Int) + 8 := by omega
      have HS := Lib.hid (fillz (wd (le l)) k hlt)
      have HW := Lib.hid (wd_of l k)
      rw [he] at HW
      have HC := Lib.hid (fun i (hi : i < 8) => HA1.out.cell (i := e + i) (by rw [HL.out]; omega))
      have f2 := HA2.out.frozen k
      have c2 := HA2.out.cell (i := k) (by rw [fillw_len _ _ _ (zer_len 4) hk]; exact hlt)
      obtain ⟨x, hx⟩ : ∃ x, wd (le l) k = x := ⟨_, rfl⟩
      rw [hx] at HS HW
      generalize (List.map (wd (le l)) (List.range k) ++ List.drop k (zer 4)).getD k 0 = oo at c2
      clear hx
      go_wp2_with fail
      refine (wordC_any N e (32 - e) (l.getD (e) 0).toNat (l.getD (e + 1) 0).toNat (l.getD (e + 2) 0).toNat (l.getD (e + 3) 0).toNat (l.getD (e + 4) 0).toNat (l.getD (e + 5) 0).toNat (l.getD (e + 6) 0).toNat (l.getD (e + 7) 0).toNat wr (UInt8.toNat_lt _) (UInt8.toNat_lt _) (UInt8.toNat_lt _) (UInt8.toNat_lt _) (UInt8.toNat_lt _) (UInt8.toNat_lt _) (UInt8.toNat_lt _) (UInt8.toNat_lt _) (HC.out 0 (by decide)) (HC.out 1 (by decide)) (HC.out 2 (by decide)) (HC.out 3 (by decide)) (HC.out 4 (by decide)) (HC.out 5 (by decide)) (HC.out 6 (by decide)) (HC.out 7 (by decide))).mono ?_
      rintro q w2 ⟨rfl, rfl⟩
      rw [← HW.out]
      go_wp2_with fail
      go_roundw
      case rel => exact ⟨k + 1, rfl, hlt, HA1.out.other (setCell_other _ (by omega)), HA3.out.other (setCell_other _ (by omega)), by rw [← HS.out]; exact HA2.out.set x, (HBE.out.drew).setCell (p := ⟨N + 1 + 1, k, none⟩) (by show N ≤ N + 1 + 1; omega) _⟩
      case measure => simp [intOf]; omega
    · have hlt' : ¬ (k : Int) < 4 := by omega
      have h2 := HA2.out
      rw [show k = 4 by omega, ← w4_wd, List.drop_eq_nil_of_le (by rw [zer_len]; exact Nat.le_refl _), List.append_nil] at h2
      have H2 := Lib.hid h2
      have HSZ := Lib.hid (sC (le l))
      have HO := Lib.hid (show (nums .u64 (zer 4)).size = (nums .u64 (w4 (le l))).size by rw [size_nums, size_nums, zer_len, w4_len])
      clear h2 HA2
      go_wp2_with (first | (refine wpList_load_row rfl 135 _ rfl (N + 1 + 1) rfl 135 _ (0, 0) _ H2.out Tryd.underlying135 rfl HSZ.out ?_) | (refine wpList_store_row rfl 135 _ _ rfl (N + 1) (nums .u64 (w4 (le l))) rfl rfl 135 _ HA3.out HSZ.out HO.out (nums_one _ _) ?_))
      refine bodyPost_ret (results_cell_row (by rfl) _ _ (N + 1) 135 (nums .u64 (w4 (le l))) (0, 0) _ (by rfl) (setRow_heap _ _ _ _ _ _ HA3.out) Tryd.underlying135 rfl HSZ.out) rfl ⟨rfl, ?_⟩
      rw [HN.out]
      exact Below.setRow HBE.out (by omega) _
end Go.Proofs.YtlpchgoaoglhcaaDoor
