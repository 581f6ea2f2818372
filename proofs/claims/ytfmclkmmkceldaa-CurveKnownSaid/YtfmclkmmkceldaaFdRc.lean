/-
  The document's words: Bytes.
  Conditions: none.
-/
import Derived.Test.YtfmclkmmkceldaaFdRb
namespace Go.Proofs.Ytfmclkmmkceldaa
open Go.RowKit

theorem zB (w : World) : (zeroValue 23).run Try.prog w = .ok (.agg (byteVals (zerB 32)).toArray) w :=
  (zero_of_info (P := Try.prog) (t := 23) (v := .agg (byteVals (zerB 32)).toArray) (n := 32) (by kernel_rfl)).1 w
theorem sBr (l : List UInt8) (h : l.length = 32) : (Try.prog.info? 23).map (·.size) = some (byteVals l).toArray.size := by rw [size_byteVals, h]; kernel_rfl
set_option maxRecDepth 100000 in
set_option maxHeartbeats 1000000 in
theorem bytesR_any (n : Nat) (w : World) :
    Calls Try.prog 77 #[.agg (nums .u64 (w4 n))] w fun e w' => e = .returned (.agg (byteVals (b32 n)).toArray) ∧ Below w.heap.size w w' := by
  have hz := zB
  go_enter Try.func77, Try.ntmps77
  go_upto_region 2 with fail
  generalize hW1 : World.alloc _ _ = W1
  obtain ⟨N, hN⟩ : ∃ n, w.heap.size = n := ⟨_, rfl⟩
  have HR1 := Lib.hid (show RW W1 N .u64 86 (w4 n) by subst hW1; rw [← hN]; exact (alloc3_at w _ _ _).1)
  have HR2 := Lib.hid (show BT W1 (N + 1) 23 (zerB 32) by subst hW1; rw [← hN]; exact (alloc3_at w _ _ _).2.1)
  have HR3 := Lib.hid (show BT W1 (N + 1 + 1) 23 ((List.range 0).map (byt n) ++ zerB (32 - 0)) by subst hW1; rw [← hN]; exact (alloc3_at w _ _ _).2.2)
  have HB1 := Lib.hid (show Below N w W1 by subst hW1; rw [← hN]; exact Below.alloc3 w _ _ _)
  have HN := Lib.hid hN
  rw [hN]
  clear hW1 hN hz
  go_wp2_with fail
  go_loopw [4] (fun iv wr => ∃ (k : Nat), iv = .int .i64 k ∧ k ≤ 32 ∧ RW wr N .u64 86 (w4 n) ∧ BT wr (N + 1) 23 (zerB 32) ∧ BT wr (N + 1 + 1) 23 ((List.range k).map (byt n) ++ zerB (32 - k)) ∧ Below N w wr) (fun i _ => 32 - (intOf i).toNat)
  case atStart => exact ⟨0, rfl, Nat.zero_le _, HR1.out, HR2.out, HR3.out, HB1.out⟩
  case round =>
    obtain ⟨k, rfl, hk, hr1, hr2, hr3, hbel⟩ := hrel
    have HA1 := Lib.hid hr1
    have HA2 := Lib.hid hr2
    have HA3 := Lib.hid hr3
    have HBE := Lib.hid hbel
    clear hr1 hr2 hr3 hbel HR1 HR2 HR3 HB1
    by_cases hlt : k < 32
    · have hlt' : (k : Int) < 32 := by omega
      have c1 := HA1.out.cell (i := k / 8) (by rw [w4_len]; omega)
      rw [w4_get n (k / 8) (by omega)] at c1
      have HBY := Lib.hid (wd_byte n (k / 8) (k % 8) (by omega))
      have hbk : 8 * (k / 8) + k % 8 = k := by omega
      rw [hbk] at HBY
      have e1 : (k : Int) / 8 = ((k / 8 : Nat) : Int) := by omega
      have e2 : (k : Int) % 8 = ((k % 8 : Nat) : Int) := by omega
      have hq : ((k / 8 : Nat) : Int) < 4 := by omega
      have hr : k % 8 < 8 := by omega
      clear hbk
      generalize k / 8 = q at e1 hq c1 HBY
      generalize k % 8 = r at e2 hr HBY
      generalize wd n q = x at c1 HBY
      obtain ⟨g, hg⟩ : ∃ g, 8 * r = g := ⟨_, rfl⟩
      have j1 : (8 : Int) * (r : Int) = (g : Int) := by omega
      have j2 : IntKind.i64.wrap (g : Int) = (g : Int) := by rw [IntKind.wrap_i64]; omega
      rw [hg] at HBY
      have h8 : IntKind.u8.wrap ((x : Int) / 2 ^ g) = ((byt n k).toNat : Int) := by
        have h := HBY.out
        rw [show (x : Int) / 2 ^ g = ((x / 2 ^ g : Nat) : Int) by simp, IntKind.wrap_u8]
        unfold byt
        rw [UInt8.toNat_ofNat', Nat.mod_eq_of_lt (Nat.mod_lt _ (by decide)), ← h]
        omega
      have HS := Lib.hid (show ((List.range k).map (byt n) ++ zerB (32 - k)).set k (byt n k) = (List.range (k + 1)).map (byt n) ++ zerB (32 - (k + 1)) by
        rw [show 32 - k = (32 - (k + 1)) + 1 by omega]
        exact fill_set (byt n) 0 k (32 - (k + 1)))
      obtain ⟨z, hz⟩ : ∃ z, byt n k = z := ⟨_, rfl⟩
      rw [hz] at h8 HS
      have f3 := HA3.out.frozen k
      have c3 := HA3.out.cell (i := k) (by simp only [List.length_append, List.length_map, List.length_range, zerB_len]; omega)
      generalize ((List.range k).map (byt n) ++ zerB (32 - k)).getD k 0 = oo at c3
      clear hz hg
      go_wp2_with fail
      go_roundw
      case rel => exact ⟨k + 1, rfl, hlt, HA1.out.other (setCell_other _ (by omega)), HA2.out.other (setCell_other _ (by omega)), by rw [← HS.out]; exact HA3.out.set z, HBE.out.setCell (p := ⟨N + 1 + 1, k, none⟩) (by show N ≤ N + 1 + 1; omega) _⟩
      case measure => simp [intOf]; omega
    · have hlt' : ¬ (k : Int) < 32 := by omega
      have HSB := Lib.hid (sBr (b32 n) (b32_len n))
      have HO := Lib.hid (show (byteVals (zerB 32)).toArray.size = (byteVals (b32 n)).toArray.size by rw [size_byteVals, size_byteVals, zerB_len, b32_len])
      have h3 := HA3.out
      rw [show k = 32 by omega, ← b32_byt, show zerB (32 - 32) = [] from rfl, List.append_nil] at h3
      have H3 := Lib.hid h3
      clear h3 HA3
      go_wp2_with (first
        | (refine wpList_load_row rfl 23 _ rfl (N + 1 + 1) rfl 23 ((byteVals (b32 n)).toArray) (0, 0) _ H3.out Try.underlying23 rfl HSB.out ?_)
        | (refine wpList_store_row rfl 23 _ _ rfl (N + 1) ((byteVals (b32 n)).toArray) rfl rfl 23 _ HA2.out HSB.out HO.out (byteVals_one _) ?_)
        )
      refine bodyPost_ret (results_cell_row (by rfl) _ _ (N + 1) 23 ((byteVals (b32 n)).toArray) (0, 0) _ (by rfl) (setRow_heap _ _ _ _ _ _ HA2.out) Try.underlying23 rfl HSB.out) rfl ⟨rfl, ?_⟩
      rw [HN.out]
      exact Below.setRow HBE.out (by omega) _
end Go.Proofs.Ytfmclkmmkceldaa
