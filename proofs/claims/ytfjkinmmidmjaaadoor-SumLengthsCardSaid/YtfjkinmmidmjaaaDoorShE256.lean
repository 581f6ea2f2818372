/-
  The words that SHA-256 starts with; its digest.
  Conditions: none.
-/
import Derived.Test.YtfjkinmmidmjaaaDoorShH256
namespace Go.Proofs.YtfjkinmmidmjaaaDoor
open Go.RowKit

theorem zs256 (w : World) : (zeroValue 37).run Tryd.prog w = .ok (.agg (nums .u32 (zer 8))) w :=
  (zero_of_info (P := Tryd.prog) (t := 37) (v := .agg (nums .u32 (zer 8))) (n := 8) (by kernel_rfl)).1 w
theorem zd256 (w : World) : (zeroValue 24).run Tryd.prog w = .ok (.agg (byteVals (zerB 32)).toArray) w :=
  (zero_of_info (P := Tryd.prog) (t := 24) (v := .agg (byteVals (zerB 32)).toArray) (n := 32) (by kernel_rfl)).1 w
theorem szd256 : (Tryd.prog.info? 24).map (·.size) = some 32 := by kernel_rfl
theorem szw256 : (Tryd.prog.info? 37).map (·.size) = some 8 := by kernel_rfl
def sw0256 (i : Nat) : Nat := square.getD i 0 / 4294967296
theorem st256_l : st256.l = (List.range 8).map sw0256 := by decide +kernel
theorem st256_lt : st256.lt 4294967296 := by unfold W8.lt; decide +kernel
set_option maxRecDepth 100000 in
set_option maxHeartbeats 2000000 in
theorem start256_any (w : World) (hG : Gl w) :
    Calls Tryd.prog 12 #[] w fun e w' => e = .returned (.agg (nums .u32 st256.l)) ∧ Below w.heap.size w w' := by
  have HG := Lib.hid hG
  have hz := zs256
  clear hG
  go_enter Tryd.func12, Tryd.ntmps12
  go_wp2_with fail
  generalize hW1 : World.alloc _ _ = W1
  have hrw : RW W1 (w.heap.size + 1) .u32 37 (List.replicate 8 0) := by subst hW1; exact (alloc2_at w _ _).2
  have hrr : RW W1 w.heap.size .u32 37 (List.replicate 8 0) := by subst hW1; exact (alloc2_at w _ _).1
  have hb1 : Below w.heap.size w W1 := by subst hW1; exact ((Below.refl _ w).alloc (Nat.le_refl _) _).alloc (by simp) _
  clear hW1
  obtain ⟨n, hn⟩ : ∃ n, w.heap.size = n := ⟨_, rfl⟩
  rw [hn] at hrw hrr hb1 ⊢
  have HRW := Lib.hid hrw
  have HRR := Lib.hid hrr
  have HB1 := Lib.hid hb1
  have HN := Lib.hid hn
  clear hrw hrr hb1 hn hz
  go_loopw [3] (fun iv wr => ∃ (k : Nat), iv = .int .i64 k ∧ k ≤ 8 ∧ RW wr (n + 1) .u32 37 ((List.range k).map sw0256 ++ List.replicate (8 - k) 0) ∧ RW wr n .u32 37 (List.replicate 8 0) ∧ Below n w wr) (fun i _ => 8 - (intOf i).toNat)
  case atStart => exact ⟨0, rfl, Nat.zero_le _, HRW.out, HRR.out, HB1.out⟩
  case round =>
    obtain ⟨k, rfl, hk, hrw, hrr, hbel⟩ := hrel
    have HRW := Lib.hid hrw
    have HRR := Lib.hid hrr
    have HBEL := Lib.hid hbel
    clear hrw hrr hbel
    by_cases hlt : k < 8
    · have hlt' : (k : Int) < 8 := by omega
      have hcc := (HG.out.below (HN.out ▸ HBEL.out)).1 k hlt
      have hq := square_lt k
      have HSW := Lib.hid (show sw0256 k = square.getD k 0 / 4294967296 from rfl)
      generalize square.getD k 0 = C at hcc HSW hq
      have hce := HRW.out.cell (i := k) (by simp; omega)
      generalize ((List.range k).map sw0256 ++ List.replicate (8 - k) 0).getD k 0 = o at hce
      have hfr := HRW.out.frozen k
      generalize hz0 : sw0256 k = z at HSW
      have hc1 : (C : Int) / 4294967296 = (z : Int) := by have := HSW.out; omega
      have hc2 : (z : Int) % 4294967296 = (z : Int) := by have := HSW.out; omega
      have HS := Lib.hid (show RW (wr.setCell ⟨n + 1, k, none⟩ (.int .u32 (z : Int))) (n + 1) .u32 37 ((List.range (k + 1)).map sw0256 ++ List.replicate (8 - (k + 1)) 0) by
        have h1 := HRW.out.set (i := k) z
        have h2 := fill_set sw0256 0 k (8 - (k + 1))
        rw [show 8 - (k + 1) + 1 = 8 - k by omega, hz0] at h2
        rw [← h2]; exact h1)
      clear hz0
      go_wp2
      go_roundw
      case rel => exact ⟨k + 1, rfl, hlt, HS.out, HRR.out.other (setCell_other _ (by omega)), HBEL.out.setCell (p := ⟨n + 1, k, none⟩) (by show n ≤ n + 1; omega) _⟩
      case measure => simp [intOf]; omega
    · have hlt' : ¬ (k : Int) < 8 := by omega
      have hrw := HRW.out
      rw [show k = 8 by omega, show 8 - 8 = 0 from rfl, List.replicate_zero, List.append_nil, ← st256_l] at hrw
      have HRW3 := Lib.hid hrw
      have HS2 := Lib.hid (show (Tryd.prog.info? 37).map (·.size) = some (nums .u32 st256.l).size by rw [size_nums]; exact szw256)
      have HO := Lib.hid (show (nums .u32 (List.replicate 8 0)).size = (nums .u32 st256.l).size by rw [size_nums, size_nums]; rfl)
      clear hrw HRW
      go_wp2_with (first | (refine wpList_load_row rfl 37 _ rfl (n + 1) rfl 37 _ (0, 0) _ HRW3.out Tryd.underlying37 rfl HS2.out ?_) | (refine wpList_store_row rfl 37 _ _ rfl n (nums .u32 st256.l) rfl rfl 37 _ HRR.out HS2.out HO.out (nums_one _ _) ?_))
      refine bodyPost_ret (results_cell_row (by rfl) _ _ n 37 (nums .u32 st256.l) (0, 0) _ (by rfl) (setRow_heap _ _ _ _ _ _ HRR.out) Tryd.underlying37 rfl HS2.out) rfl ⟨rfl, ?_⟩
      rw [HN.out]
      exact Below.setRow HBEL.out (by omega) _
/-- The i-th byte of the digest. -/
def db256 (v : W8) (i : Nat) : UInt8 := UInt8.ofNat (v.l.getD (i / 4) 0 / 2 ^ (32 - 8 - i % 4 * 8) % 256)
theorem dig256_eq (v : W8) : dig256 v = (List.range 32).map (db256 v) := rfl
set_option maxRecDepth 100000 in
set_option maxHeartbeats 2000000 in
theorem digest256_any (b : Nat) (v : W8) (L : List UInt8) (k0 : Nat) (w : World) (h : HB256 w b v L k0) :
    Calls Tryd.prog 15 #[.pointer (some ⟨b, 0, none⟩)] w fun e w' => e = .returned (.agg (byteVals (dig256 v)).toArray) ∧ Below w.heap.size w w' := by
  have HH := Lib.hid h
  have hbl := h.lt
  have hz := zd256
  clear h
  go_enter Tryd.func15, Tryd.ntmps15
  go_wp2_with fail
  generalize hW1 : World.alloc _ _ = W1
  have hrw : BT W1 (w.heap.size + 1) 24 (List.replicate 32 0) := by subst hW1; exact (alloc2_at w _ _).2
  have hrr : BT W1 w.heap.size 24 (List.replicate 32 0) := by subst hW1; exact (alloc2_at w _ _).1
  have hb1 : Below w.heap.size w W1 := by subst hW1; exact ((Below.refl _ w).alloc (Nat.le_refl _) _).alloc (by simp) _
  clear hW1
  obtain ⟨n, hn⟩ : ∃ n, w.heap.size = n := ⟨_, rfl⟩
  rw [hn] at hrw hrr hb1 hbl ⊢
  have HRW := Lib.hid hrw
  have HRR := Lib.hid hrr
  have HB1 := Lib.hid hb1
  have HN := Lib.hid hn
  clear hrw hrr hb1 hn hz
  go_loopw [5] (fun iv wr => ∃ (k : Nat), iv = .int .i64 k ∧ k ≤ 32 ∧ BT wr (n + 1) 24 ((List.range k).map (db256 v) ++ List.replicate (32 - k) 0) ∧ BT wr n 24 (List.replicate 32 0) ∧ Below n w wr) (fun i _ => 32 - (intOf i).toNat)
  case atStart => exact ⟨0, rfl, Nat.zero_le _, HRW.out, HRR.out, HB1.out⟩
  case round =>
    obtain ⟨k, rfl, hk, hrw, hrr, hbel⟩ := hrel
    have HRW := Lib.hid hrw
    have HRR := Lib.hid hrr
    have HBEL := Lib.hid hbel
    clear hrw hrr hbel
    by_cases hlt : k < 32
    · have hlt' : (k : Int) < 32 := by omega
      obtain ⟨q, hq⟩ : ∃ q, k / 4 = q := ⟨_, rfl⟩
      obtain ⟨r, hr⟩ : ∃ r, k % 4 = r := ⟨_, rfl⟩
      have hq' : (k : Int) / 4 = (q : Int) := by omega
      have hr' : (k : Int) % 4 = (r : Int) := by omega
      have hq8 : q < 8 := by omega
      have hqI : (q : Int) < 8 := by omega
      have hrQ : r ≤ 4 - 1 := by omega
      have hs0 : 0 ≤ (32 - 8 : Int) - (r : Int) * 8 := by omega
      have hwo := (HH.out.keep (HBEL.out.block b hbl)).word hq8
      have hce := HRW.out.cell (i := k) (by simp; omega)
      generalize ((List.range k).map (db256 v) ++ List.replicate (32 - k) 0).getD k 0 = o at hce
      have hfr := HRW.out.frozen k
      have HDB := Lib.hid (show db256 v k = UInt8.ofNat (v.l.getD q 0 / 2 ^ (32 - 8 - r * 8) % 256) by unfold db256; rw [hq, hr])
      generalize v.l.getD q 0 = y at hwo HDB
      have HY := Lib.hid (show ((y : Int) / 2 ^ (32 - 8 - r * 8) % 256) = ((db256 v k).toNat : Int) by
        rw [HDB.out, UInt8.toNat_ofNat', Nat.mod_eq_of_lt (Nat.mod_lt _ (by decide)), Int.natCast_emod, Int.natCast_ediv, Int.natCast_pow]; rfl)
      have HS := Lib.hid (show BT (wr.setCell ⟨n + 1, k, none⟩ (.int .u8 ((db256 v k).toNat : Int))) (n + 1) 24 ((List.range (k + 1)).map (db256 v) ++ List.replicate (32 - (k + 1)) 0) by
        have h1 := HRW.out.set (i := k) (db256 v k)
        have h2 := fill_set (db256 v) 0 k (32 - (k + 1))
        rw [show 32 - (k + 1) + 1 = 32 - k by omega] at h2
        rw [← h2]; exact h1)
      generalize db256 v k = d at HY HS
      have hy := HY.out
      clear hq hr
      go_wp2
      go_roundw
      case rel => exact ⟨k + 1, rfl, hlt, HS.out, HRR.out.other (setCell_other _ (by omega)), HBEL.out.setCell (p := ⟨n + 1, k, none⟩) (by show n ≤ n + 1; omega) _⟩
      case measure => simp [intOf]; omega
    · have hlt' : ¬ (k : Int) < 32 := by omega
      have hrw := HRW.out
      rw [show k = 32 by omega, Nat.sub_self, List.replicate_zero, List.append_nil, ← dig256_eq] at hrw
      have HRW3 := Lib.hid hrw
      have HDL := Lib.hid (show (dig256 v).length = 32 by rw [dig256_eq]; simp)
      have HS2 := Lib.hid (show (Tryd.prog.info? 24).map (·.size) = some (byteVals (dig256 v)).toArray.size by rw [size_byteVals, HDL.out]; exact szd256)
      have HO := Lib.hid (show (byteVals (List.replicate 32 0)).toArray.size = (byteVals (dig256 v)).toArray.size by rw [size_byteVals, size_byteVals, HDL.out, List.length_replicate])
      clear hrw HRW
      go_wp2_with (first | (refine wpList_load_row rfl 24 _ rfl (n + 1) rfl 24 _ (0, 0) _ HRW3.out Tryd.underlying24 rfl HS2.out ?_) | (refine wpList_store_row rfl 24 _ _ rfl n (byteVals (dig256 v)).toArray rfl rfl 24 _ HRR.out HS2.out HO.out (byteVals_one _) ?_))
      refine bodyPost_ret (results_cell_row (by rfl) _ _ n 24 (byteVals (dig256 v)).toArray (0, 0) _ (by rfl) (setRow_heap _ _ _ _ _ _ HRR.out) Tryd.underlying24 rfl HS2.out) rfl ⟨rfl, ?_⟩
      rw [HN.out]
      exact Below.setRow HBEL.out (by omega) _
end Go.Proofs.YtfjkinmmidmjaaaDoor
