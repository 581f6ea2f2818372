/-
  Words of package field out of bytes.
  Conditions: none.
-/
import Derived.Test.YtfmclkmmkceldaaFdE
namespace Go.Proofs.Ytfmclkmmkceldaa
open Go.RowKit

theorem fillz (f : Nat → Nat) (k : Nat) (hk : k < 4) : ((List.range k).map f ++ (zer 4).drop k).set k (f k) = (List.range (k + 1)).map f ++ (zer 4).drop (k + 1) := fillw f (zer 4) k (zer_len 4) hk
theorem BT.below {w w' : World} {b B : Nat} {t : TypeId} {l : List UInt8} (h : BT w b t l) (hb : Below B w w') (hB : b < B) : BT w' b t l := h.other (hb.block b hB)
theorem RW.below {w w' : World} {b B : Nat} {k : IntKind} {t : TypeId} {l : List Nat} (h : RW w b k t l) (hb : Below B w w') (hB : b < B) : RW w' b k t l := h.other (hb.block b hB)
set_option maxRecDepth 100000 in
set_option maxHeartbeats 1000000 in
theorem ofC_any (l : List UInt8) (w : World) (hl : l.length = 32) :
    Calls Try.prog 60 #[.agg (byteVals l).toArray] w fun e w' => e = .returned (.agg (nums .u64 (w4 (le l)))) ∧ Below w.heap.size w w' := by
  have HL := Lib.hid hl
  have hz := zC
  clear hl
  go_enter Try.func60, Try.ntmps60
  go_wp2_with fail
  generalize hW1 : World.alloc _ _ = W1
  obtain ⟨N, hN⟩ : ∃ n, w.heap.size = n := ⟨_, rfl⟩
  have HR1 := Lib.hid (show BT W1 N 26 l by subst hW1; rw [← hN]; exact (alloc3_at w _ _ _).1)
  have HR3 := Lib.hid (show RW W1 (N + 1) .u64 70 (zer 4) by subst hW1; rw [← hN]; exact (alloc3_at w _ _ _).2.1)
  have HR2 := Lib.hid (show RW W1 (N + 1 + 1) .u64 70 ((List.range 0).map (wd (le l)) ++ (zer 4).drop 0) by subst hW1; rw [← hN]; exact (alloc3_at w _ _ _).2.2)
  have HB1 := Lib.hid (show Below N w W1 by subst hW1; rw [← hN]; exact Below.alloc3 w _ _ _)
  have HN := Lib.hid hN
  rw [hN]
  clear hW1 hN hz
  go_loopw [5] (fun iv wr => ∃ (k : Nat), iv = .int .i64 k ∧ k ≤ 4 ∧ BT wr N 26 l ∧ RW wr (N + 1) .u64 70 (zer 4) ∧ RW wr (N + 1 + 1) .u64 70 ((List.range k).map (wd (le l)) ++ (zer 4).drop k) ∧ Below N w wr) (fun i _ => 4 - (intOf i).toNat)
  case atStart => exact ⟨0, rfl, Nat.zero_le _, HR1.out, HR3.out, HR2.out, HB1.out⟩
  case round =>
    obtain ⟨k, rfl, hk, hr1, hr3, hr2, hbel⟩ := hrel
    have HA1 := Lib.hid hr1
    have HA2 := Lib.hid hr2
    have HA3 := Lib.hid hr3
    have HBE := Lib.hid hbel
    clear hr1 hr2 hr3 hbel HR1 HR2 HR3 HB1
    by_cases hlt : k < 4
    · have hlt' : (k : Int) < 4 := by omega
      obtain ⟨e, he⟩ : ∃ e, 8 * k = e := ⟨_, rfl⟩
      have i1 : (8 : Int) * (k : Int) = (e : Int) := by omega
      have i2 : IntKind.i64.wrap (e : Int) = (e : Int) := by rw [IntKind.wrap_i64]; omega
      have i3 : IntKind.i64.wrap ((e : Int) + 8) = (e : Int) + 8 := by rw [IntKind.wrap_i64]; omega
      have i4 : (0 : Int) ≤ (e : Int) + 8 := by omega
      have i5 : (e : Int) + 8 ≤ 32 := by omega
      have i6 : ((e : Int) + 8).toNat = e + 8 := by omega
      have i7 : (e : Int) ≤ (e : Int) + 8 := by omega
      have HS := Lib.hid (fillz (wd (le l)) k hlt)
      have HW := Lib.hid (wd_of l k)
      rw [he] at HW
      have HC := Lib.hid (fun i (hi : i < 8) => HA1.out.cell (i := e + i) (by rw [HL.out]; omega))
      have f2 := HA2.out.frozen k
      have c2 := HA2.out.cell (i := k) (by rw [fillw_len _ _ _ (zer_len 4) hk]; exact hlt)
      obtain ⟨x, hx⟩ : ∃ x, wd (le l) k = x := ⟨_, rfl⟩
      rw [hx] at HS HW
      generalize (List.map (wd (le l)) (List.range k) ++ List.drop k (zer 4)).getD k 0 = oo at c2
      clear hx
      go_wp2_with fail
      refine (wordC_any N e (32 - e) (l.getD (e) 0).toNat (l.getD (e + 1) 0).toNat (l.getD (e + 2) 0).toNat (l.getD (e + 3) 0).toNat (l.getD (e + 4) 0).toNat (l.getD (e + 5) 0).toNat (l.getD (e + 6) 0).toNat (l.getD (e + 7) 0).toNat wr (UInt8.toNat_lt _) (UInt8.toNat_lt _) (UInt8.toNat_lt _) (UInt8.toNat_lt _) (UInt8.toNat_lt _) (UInt8.toNat_lt _) (UInt8.toNat_lt _) (UInt8.toNat_lt _) (HC.out 0 (by decide)) (HC.out 1 (by decide)) (HC.out 2 (by decide)) (HC.out 3 (by decide)) (HC.out 4 (by decide)) (HC.out 5 (by decide)) (HC.out 6 (by decide)) (HC.out 7 (by decide))).mono ?_
      rintro q w2 ⟨rfl, rfl⟩
      rw [← HW.out]
      go_wp2_with fail
      go_roundw
      case rel => exact ⟨k + 1, rfl, hlt, HA1.out.other (setCell_other _ (by omega)), HA3.out.other (setCell_other _ (by omega)), by rw [← HS.out]; exact HA2.out.set x, (HBE.out.drew).setCell (p := ⟨N + 1 + 1, k, none⟩) (by show N ≤ N + 1 + 1; omega) _⟩
      case measure => simp [intOf]; omega
    · have hlt' : ¬ (k : Int) < 4 := by omega
      have h2 := HA2.out
      rw [show k = 4 by omega, ← w4_wd, List.drop_eq_nil_of_le (by rw [zer_len]; exact Nat.le_refl _), List.append_nil] at h2
      have H2 := Lib.hid h2
      have HSZ := Lib.hid (sC (le l))
      have HO := Lib.hid (show (nums .u64 (zer 4)).size = (nums .u64 (w4 (le l))).size by rw [size_nums, size_nums, zer_len, w4_len])
      clear h2 HA2
      go_wp2_with (first | (refine wpList_load_row rfl 70 _ rfl (N + 1 + 1) rfl 70 _ (0, 0) _ H2.out Try.underlying70 rfl HSZ.out ?_) | (refine wpList_store_row rfl 70 _ _ rfl (N + 1) (nums .u64 (w4 (le l))) rfl rfl 70 _ HA3.out HSZ.out HO.out (nums_one _ _) ?_))
      refine bodyPost_ret (results_cell_row (by rfl) _ _ (N + 1) 70 (nums .u64 (w4 (le l))) (0, 0) _ (by rfl) (setRow_heap _ _ _ _ _ _ HA3.out) Try.underlying70 rfl HSZ.out) rfl ⟨rfl, ?_⟩
      rw [HN.out]
      exact Below.setRow HBE.out (by omega) _
end Go.Proofs.Ytfmclkmmkceldaa
