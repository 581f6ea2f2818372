/-
  Package scalar: num, bit, products of words.
  Conditions: none.
-/
import Derived.Test.YtfmclkmmkceldaaScB
namespace Go.Proofs.Ytfmclkmmkceldaa
open Go.RowKit

set_option maxRecDepth 100000 in
set_option maxHeartbeats 1000000 in
theorem numS_any (n : Nat) (w : World) :
    Calls Try.prog 92 #[.agg (nums .u64 (w4 n))] w fun e w' => e = .returned (.agg (byteVals (b32 n)).toArray) ∧ Below w.heap.size w w' := by
  have hz := zM
  have hz2 := zS
  go_enter Try.func92, Try.ntmps92
  go_upto_region 2 with fail
  generalize hW1 : World.alloc _ _ = W1
  obtain ⟨N, hN⟩ : ∃ n, w.heap.size = n := ⟨_, rfl⟩
  have HR1 := Lib.hid (show RW W1 N .u64 103 (w4 n) by subst hW1; rw [← hN]; exact (alloc3_at w _ _ _).1)
  have HR2 := Lib.hid (show BT W1 (N + 1) 34 (zerB 32) by subst hW1; rw [← hN]; exact (alloc3_at w _ _ _).2.1)
  have HR3 := Lib.hid (show BT W1 (N + 1 + 1) 34 ((List.range 0).map (byt n) ++ zerB (32 - 0)) by subst hW1; rw [← hN]; exact (alloc3_at w _ _ _).2.2)
  have HB1 := Lib.hid (show Below N w W1 by subst hW1; rw [← hN]; exact Below.alloc3 w _ _ _)
  have HN := Lib.hid hN
  rw [hN]
  clear hW1 hN hz hz2
  go_wp2_with fail
  go_loopw [5] (fun iv wr => ∃ (k : Nat), iv = .int .i64 k ∧ k ≤ 32 ∧ RW wr N .u64 103 (w4 n) ∧ BT wr (N + 1) 34 (zerB 32) ∧ BT wr (N + 1 + 1) 34 ((List.range k).map (byt n) ++ zerB (32 - k)) ∧ Below N w wr) (fun i _ => 32 - (intOf i).toNat)
  case atStart => exact ⟨0, rfl, Nat.zero_le _, HR1.out, HR2.out, HR3.out, HB1.out⟩
  case round =>
    obtain ⟨k, rfl, hk, hr1, hr2, hr3, hbel⟩ := hrel
    have HA1 := Lib.hid hr1
    have HA2 := Lib.hid hr2
    have HA3 := Lib.hid hr3
    have HBE := Lib.hid hbel
    clear hr1 hr2 hr3 hbel HR1 HR2 HR3 HB1
    by_cases hlt : k < 32
    · have hlt' : (k : Int) < 32 := by omega
      have c1 := HA1.out.cell (i := k / 8) (by rw [w4_len]; omega)
      rw [w4_get n (k / 8) (by omega)] at c1
      have HBY := Lib.hid (wd_byte n (k / 8) (k % 8) (by omega))
      have hbk : 8 * (k / 8) + k % 8 = k := by omega
      rw [hbk] at HBY
      have e1 : (k : Int) / 8 = ((k / 8 : Nat) : Int) := by omega
      have e2 : (k : Int) % 8 = ((k % 8 : Nat) : Int) := by omega
      have hq : ((k / 8 : Nat) : Int) < 4 := by omega
      have hr : k % 8 < 8 := by omega
      clear hbk
      generalize k / 8 = q at e1 hq c1 HBY
      generalize k % 8 = r at e2 hr HBY
      generalize wd n q = x at c1 HBY
      obtain ⟨g, hg⟩ : ∃ g, 8 * r = g := ⟨_, rfl⟩
      have j1 : (r : Int) * 8 = (g : Int) := by omega
      have j2 : IntKind.i64.wrap (g : Int) = (g : Int) := by rw [IntKind.wrap_i64]; omega
      rw [hg] at HBY
      have h8 : IntKind.u8.wrap ((x : Int) / 2 ^ g) = ((byt n k).toNat : Int) := by
        have h := HBY.out
        rw [show (x : Int) / 2 ^ g = ((x / 2 ^ g : Nat) : Int) by simp, IntKind.wrap_u8]
        unfold byt
        rw [UInt8.toNat_ofNat', Nat.mod_eq_of_lt (Nat.mod_lt _ (by decide)), ← h]
        omega
      have HS := Lib.hid (show ((List.range k).map (byt n) ++ zerB (32 - k)).set k (byt n k) = (List.range (k + 1)).map (byt n) ++ zerB (32 - (k + 1)) by
        rw [show 32 - k = (32 - (k + 1)) + 1 by omega]
        exact fill_set (byt n) 0 k (32 - (k + 1)))
      obtain ⟨z, hz⟩ : ∃ z, byt n k = z := ⟨_, rfl⟩
      rw [hz] at h8 HS
      have f3 := HA3.out.frozen k
      have c3 := HA3.out.cell (i := k) (by simp only [List.length_append, List.length_map, List.length_range, zerB_len]; omega)
      generalize ((List.range k).map (byt n) ++ zerB (32 - k)).getD k 0 = oo at c3
      clear hz hg
      go_wp2_with fail
      go_roundw
      case rel => exact ⟨k + 1, rfl, hlt, HA1.out.other (setCell_other _ (by omega)), HA2.out.other (setCell_other _ (by omega)), by rw [← HS.out]; exact HA3.out.set z, HBE.out.setCell (p := ⟨N + 1 + 1, k, none⟩) (by show N ≤ N + 1 + 1; omega) _⟩
      case measure => simp [intOf]; omega
    · have hlt' : ¬ (k : Int) < 32 := by omega
      have HSB := Lib.hid (sM (b32 n) (b32_len n))
      have HO := Lib.hid (show (byteVals (zerB 32)).toArray.size = (byteVals (b32 n)).toArray.size by rw [size_byteVals, size_byteVals, zerB_len, b32_len])
      have h3 := HA3.out
      rw [show k = 32 by omega, ← b32_byt, show zerB (32 - 32) = [] from rfl, List.append_nil] at h3
      have H3 := Lib.hid h3
      clear h3 HA3
      go_wp2_with (first
        | (refine wpList_load_row rfl 34 _ rfl (N + 1 + 1) rfl 34 ((byteVals (b32 n)).toArray) (0, 0) _ H3.out Try.underlying34 rfl HSB.out ?_)
        | (refine wpList_store_row rfl 34 _ _ rfl (N + 1) ((byteVals (b32 n)).toArray) rfl rfl 34 _ HA2.out HSB.out HO.out (byteVals_one _) ?_)
        )
      refine bodyPost_ret (results_cell_row (by rfl) _ _ (N + 1) 34 ((byteVals (b32 n)).toArray) (0, 0) _ (by rfl) (setRow_heap _ _ _ _ _ _ HA2.out) Try.underlying34 rfl HSB.out) rfl ⟨rfl, ?_⟩
      rw [HN.out]
      exact Below.setRow HBE.out (by omega) _
set_option maxRecDepth 100000 in
set_option maxHeartbeats 1000000 in
theorem bitS_any (n i : Nat) (w : World) (hi : i < 512) :
    Calls Try.prog 125 #[.agg (nums .u64 (w8 n)), .int .i64 i] w fun e w' => e = .returned (.int .u64 ((n / 2 ^ i % 2 : Nat) : Int)) ∧ Below w.heap.size w w' := by
  have HD := Lib.hid (div_bit n i)
  have hw := wd_lt n (i / 64)
  have h0 : (nums .u64 (w8 n))[i / 64]? = some (.int .u64 ((wd n (i / 64) : Nat) : Int)) := by
    rw [nums_get .u64 _ (i / 64) (by rw [w8n_len]; omega), w8n_get n (i / 64) (by omega)]
  have e1 : (i : Int) / 64 = ((i / 64 : Nat) : Int) := by omega
  have e2 : (i : Int) % 64 = ((i % 64 : Nat) : Int) := by omega
  have hq : ((i / 64 : Nat) : Int) < 8 := by omega
  have hr : ((i % 64 : Nat) : Int) < 64 := by omega
  have hi0 : (0 : Int) ≤ (i : Int) := by omega
  generalize i / 64 = q at *
  generalize i % 64 = r at *
  generalize wd n q = x at *
  have h1 : bits .and .u64 ((x : Int) / 2 ^ r) 1 = ((x / 2 ^ r % 2 : Nat) : Int) := by
    rw [show (x : Int) / 2 ^ r = ((x / 2 ^ r : Nat) : Int) by simp]
    exact and1N (x / 2 ^ r) (Nat.lt_of_le_of_lt (Nat.div_le_self _ _) hw)
  obtain ⟨m, hm⟩ : ∃ m, x / 2 ^ r % 2 = m := ⟨_, rfl⟩
  rw [hm] at h1 HD
  clear hw hm
  go_enter Try.func125, Try.ntmps125
  go_wp2_with fail
  go_ret
  exact ⟨by rw [← HD.out]; rfl, (Below.refl _ w).alloc (Nat.le_refl _) _⟩
set_option maxRecDepth 100000 in
set_option maxHeartbeats 1000000 in
theorem mulWordS_any (a b c d lo hi : Nat) (w : World) (ha : a < 18446744073709551616) (hb : b < 18446744073709551616) (hc : c < 18446744073709551616) (hd : d < 18446744073709551616) (hl : lo < 18446744073709551616) (h : a * b + c + d = lo + 18446744073709551616 * hi) :
    Calls Try.prog 126 #[.int .u64 a, .int .u64 b, .int .u64 c, .int .u64 d] w fun e w' => e = .returned (.tuple #[.int .u64 (lo : Int), .int .u64 (hi : Int)]) ∧ w' = w := by
  have hm := mul_lt64 ha hb
  have M := Lib.hid (mul64_any a b ha hb w)
  obtain ⟨p, hp⟩ : ∃ p, a * b = p := ⟨_, rfl⟩
  rw [hp] at hm h M
  obtain ⟨l1, hl1⟩ : ∃ x, p % 18446744073709551616 = x := ⟨_, rfl⟩
  obtain ⟨h1, hh1⟩ : ∃ x, p / 18446744073709551616 = x := ⟨_, rfl⟩
  rw [hl1, hh1] at M
  obtain ⟨s1, hs1⟩ : ∃ x, (l1 + c) % 18446744073709551616 = x := ⟨_, rfl⟩
  obtain ⟨c1, hc1⟩ : ∃ x, (l1 + c) / 18446744073709551616 = x := ⟨_, rfl⟩
  obtain ⟨c2, hc2⟩ : ∃ x, (s1 + d) / 18446744073709551616 = x := ⟨_, rfl⟩
  have A1 := Lib.hid (fun w => add64_0 l1 c s1 c1 (by omega) (by omega) w)
  have A2 := Lib.hid (fun w => add64_0 s1 d lo c2 (by omega) (by omega) w)
  have W1 := Lib.hid (show IntKind.u64.wrap ((h1 : Int) + c1) = ((h1 + c1 : Nat) : Int) by rw [IntKind.wrap_u64]; omega)
  have W2 := Lib.hid (show IntKind.u64.wrap (((h1 + c1 : Nat) : Int) + c2) = (hi : Int) by rw [IntKind.wrap_u64]; omega)
  generalize h1 + c1 = h2 at W1 W2
  clear ha hb hc hd hl h hm hp hl1 hh1 hs1 hc1 hc2
  go_enter Try.func126, Try.ntmps126
  go_wp2_with fail
  refine M.out.mono ?_
  rintro e w' ⟨rfl, hw⟩
  rw [hw]
  have w1 := W1.out
  have w2 := W2.out
  have a1 := A1.out
  have a2 := A2.out
  go_wp2
  go_ret2
  exact ⟨rfl, rfl⟩
end Go.Proofs.Ytfmclkmmkceldaa
