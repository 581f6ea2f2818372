/-
  The document's words: From.
  Conditions: none.
-/
import Derived.Test.YtfmclkmmkceldaaFdRc
import Derived.Test.YtfmclkmmkceldaaFdX
namespace Go.Proofs.Ytfmclkmmkceldaa
open Go.RowKit

/-- A number's words, one byte more. -/
theorem from_word (a b q r i : Nat) (ha : a < 18446744073709551616 ^ q * 2 ^ (8 * r)) (hb : b < 256) (hr : r < 8) :
    wd (a + 18446744073709551616 ^ q * 2 ^ (8 * r) * b) i = if i = q then wd a q + 2 ^ (8 * r) * b else wd a i := by
  have hp : 2 ^ (8 * r) * 256 ≤ 18446744073709551616 := by
    have h := Nat.pow_le_pow_right (n := 2) (by decide) (show 8 * r ≤ 56 by omega)
    omega
  have hp0 : 0 < 2 ^ (8 * r) := Nat.two_pow_pos _
  obtain ⟨p, hpp⟩ : ∃ p, 2 ^ (8 * r) = p := ⟨_, rfl⟩
  rw [hpp] at ha hp hp0 ⊢
  have hpb : p * b + p ≤ p * 256 := by rw [← Nat.mul_succ]; exact Nat.mul_le_mul_left _ hb
  have hR : 0 < 18446744073709551616 := by decide
  obtain ⟨R, hRR⟩ : ∃ R, 18446744073709551616 = R := ⟨_, rfl⟩
  unfold wd
  rw [hRR] at ha hp hR ⊢
  have hq0 : 0 < R ^ q := Nat.pow_pos hR
  split
  case isTrue h =>
    subst h
    rw [Nat.mul_assoc, Nat.add_mul_div_left _ _ hq0]
    have h1 : a / R ^ i < p := Nat.div_lt_of_lt_mul ha
    rw [Nat.mod_eq_of_lt (show a / R ^ i + p * b < R by omega), Nat.mod_eq_of_lt (show a / R ^ i < R by omega)]
  case isFalse h =>
    by_cases hlt : i < q
    · obtain ⟨d, rfl⟩ : ∃ d, q = i + 1 + d := ⟨q - (i + 1), by omega⟩
      rw [show R ^ (i + 1 + d) * p * b = R ^ i * (R * (R ^ d * p * b)) by rw [Nat.pow_add, Nat.pow_add, Nat.pow_one]; simp only [Nat.mul_assoc, Nat.mul_comm, Nat.mul_left_comm]]
      rw [Nat.add_mul_div_left _ _ (Nat.pow_pos hR), Nat.add_mul_mod_self_left]
    · obtain ⟨d, rfl⟩ : ∃ d, i = q + 1 + d := ⟨i - (q + 1), by omega⟩
      have h1 : R ^ q * p * b + R ^ q * p ≤ R ^ q * R := by
        rw [Nat.mul_assoc, ← Nat.mul_add]
        exact Nat.mul_le_mul_left _ (by omega)
      have h2 : R ^ q * R ≤ R ^ (q + 1 + d) := by rw [← Nat.pow_succ]; exact Nat.pow_le_pow_right hR (by omega)
      rw [Nat.div_eq_of_lt (show a + R ^ q * p * b < R ^ (q + 1 + d) by omega), Nat.div_eq_of_lt (show a < R ^ (q + 1 + d) by omega)]
theorem pow256 (q r : Nat) : 256 ^ (8 * q + r) = 18446744073709551616 ^ q * 2 ^ (8 * r) := by
  rw [Nat.pow_add, Nat.pow_mul, Nat.pow_mul]
theorem from_set (n k : Nat) (hk : k < 32) :
    (w4 (n % 256 ^ k)).set (k / 8) (wd (n % 256 ^ k) (k / 8) + 2 ^ (8 * (k % 8)) * (n / 256 ^ k % 256)) = w4 (n % 256 ^ (k + 1)) := by
  obtain ⟨q, hq⟩ : ∃ q, k / 8 = q := ⟨_, rfl⟩
  obtain ⟨r, hr⟩ : ∃ r, k % 8 = r := ⟨_, rfl⟩
  rw [hq, hr]
  obtain ⟨b, hb⟩ : ∃ b, n / 256 ^ k % 256 = b := ⟨_, rfl⟩
  obtain ⟨a, ha⟩ : ∃ a, n % 256 ^ k = a := ⟨_, rfl⟩
  have h1 : n % 256 ^ (k + 1) = a + 18446744073709551616 ^ q * 2 ^ (8 * r) * b := by
    rw [Nat.pow_succ, Nat.mod_mul, ha, hb, ← pow256, ← hq, ← hr, Nat.div_add_mod]
  have h2 : a < 18446744073709551616 ^ q * 2 ^ (8 * r) := by
    rw [← ha, ← pow256, ← hq, ← hr, Nat.div_add_mod]; exact Nat.mod_lt _ (Nat.pow_pos (by decide))
  have h3 := fun i => from_word a b q r i h2 (by rw [← hb]; exact Nat.mod_lt _ (by decide)) (by omega)
  rw [hb, ha, h1, w4_wd, w4_wd]
  simp only [List.range, List.range.loop, List.map, h3]
  have hq4 : q = 0 ∨ q = 1 ∨ q = 2 ∨ q = 3 := by omega
  rcases hq4 with rfl | rfl | rfl | rfl <;> rfl
theorem from_low (n k : Nat) (_hk : k < 32) : wd (n % 256 ^ k) (k / 8) < 2 ^ (8 * (k % 8)) := by
  have h := Nat.div_add_mod k 8
  have h1 : n % 256 ^ k < 18446744073709551616 ^ (k / 8) * 2 ^ (8 * (k % 8)) := by
    rw [← pow256, h]; exact Nat.mod_lt _ (Nat.pow_pos (by decide))
  exact Nat.lt_of_le_of_lt (Nat.mod_le _ _) (Nat.div_lt_of_lt_mul h1)
theorem or_low (a b i : Nat) (ha : a < 2 ^ i) (hs : a + 2 ^ i * b < 18446744073709551616) : bits .or .u64 (a : Int) ((2 ^ i * b : Nat) : Int) = ((a + 2 ^ i * b : Nat) : Int) := by
  rw [(bits_nat .u64 64 (by decide) wraps_u64 a (2 ^ i * b) (by show a < 18446744073709551616; omega) (by show 2 ^ i * b < 18446744073709551616; omega)).2, Nat.or_comm, ← Nat.two_pow_add_eq_or_of_lt ha, Nat.add_comm]
set_option maxRecDepth 100000 in
set_option maxHeartbeats 1000000 in
theorem fromR_any (l : List UInt8) (w : World) (hl : l.length = 32) :
    Calls Try.prog 84 #[.agg (byteVals l).toArray] w fun e w' => e = .returned (.agg (nums .u64 (w4 (le l)))) ∧ Below w.heap.size w w' := by
  have hz := zR
  have HLE := Lib.hid (le_32 l hl)
  have HGT := Lib.hid (fun i (hi : i < 32) => show (l.getD i 0).toNat = le l / 256 ^ i % 256 by
    rw [← b32_le l hl, b32_get _ i hi, b32_le l hl, UInt8.toNat_ofNat', Nat.mod_eq_of_lt (Nat.mod_lt _ (by decide))])
  have HLL := Lib.hid hl
  obtain ⟨n, hn⟩ : ∃ n, le l = n := ⟨_, rfl⟩
  rw [hn] at HGT HLE ⊢
  clear hn hl
  go_enter Try.func84, Try.ntmps84
  go_upto_region 2 with fail
  generalize hW1 : World.alloc _ _ = W1
  obtain ⟨N, hN⟩ : ∃ n, w.heap.size = n := ⟨_, rfl⟩
  have HR1 := Lib.hid (show BT W1 N 23 l by subst hW1; rw [← hN]; exact (alloc3_at w _ _ _).1)
  have HR2 := Lib.hid (show RW W1 (N + 1) .u64 86 (zer 4) by subst hW1; rw [← hN]; exact (alloc3_at w _ _ _).2.1)
  have HR3 := Lib.hid (show RW W1 (N + 1 + 1) .u64 86 (w4 (n % 256 ^ 0)) by subst hW1; rw [← hN, Nat.pow_zero, Nat.mod_one]; exact (alloc3_at w _ _ _).2.2)
  have HB1 := Lib.hid (show Below N w W1 by subst hW1; rw [← hN]; exact Below.alloc3 w _ _ _)
  have HN := Lib.hid hN
  rw [hN]
  clear hW1 hN hz
  go_wp2_with fail
  go_loopw [4] (fun iv wr => ∃ (k : Nat), iv = .int .i64 k ∧ k ≤ 32 ∧ BT wr N 23 l ∧ RW wr (N + 1) .u64 86 (zer 4) ∧ RW wr (N + 1 + 1) .u64 86 (w4 (n % 256 ^ k)) ∧ Below N w wr) (fun i _ => 32 - (intOf i).toNat)
  case atStart => exact ⟨0, rfl, Nat.zero_le _, HR1.out, HR2.out, HR3.out, HB1.out⟩
  case round =>
    obtain ⟨k, rfl, hk, hr1, hr2, hr3, hbel⟩ := hrel
    have HA1 := Lib.hid hr1
    have HA2 := Lib.hid hr2
    have HA3 := Lib.hid hr3
    have HBE := Lib.hid hbel
    clear hr1 hr2 hr3 hbel HR1 HR2 HR3 HB1
    by_cases hlt : k < 32
    · have hlt' : (k : Int) < 32 := by omega
      have hk0 : (0 : Int) ≤ (k : Int) := by omega
      have c1 := HA1.out.cell (i := k) (by rw [HLL.out]; exact hlt)
      rw [HGT.out k hlt] at c1
      have c2 := HA3.out.cell (i := k / 8) (by rw [w4_len]; omega)
      rw [w4_get _ (k / 8) (by omega)] at c2
      have f2 := HA3.out.frozen (k / 8)
      have HS := Lib.hid (from_set n k hlt)
      have hlo := from_low n k hlt
      have hb : n / 256 ^ k % 256 < 256 := Nat.mod_lt _ (by decide)
      have e1 : (k : Int) / 8 = ((k / 8 : Nat) : Int) := by omega
      have e2 : (k : Int) % 8 = ((k % 8 : Nat) : Int) := by omega
      have hq : ((k / 8 : Nat) : Int) < 4 := by omega
      have hq0 : (0 : Int) ≤ ((k / 8 : Nat) : Int) := by omega
      have hr : k % 8 < 8 := by omega
      generalize k / 8 = q at e1 hq hq0 c2 f2 HS hlo
      generalize k % 8 = r at e2 hr HS hlo
      generalize wd (n % 256 ^ k) q = x at c2 HS hlo
      generalize n / 256 ^ k % 256 = b at c1 HS hb
      obtain ⟨g, hg⟩ : ∃ g, 8 * r = g := ⟨_, rfl⟩
      rw [hg] at HS hlo
      have j1 : (8 : Int) * (r : Int) = (g : Int) := by omega
      have j2 : IntKind.i64.wrap (g : Int) = (g : Int) := by rw [IntKind.wrap_i64]; omega
      have j3 : (0 : Int) ≤ (g : Int) := by omega
      have hpb : 2 ^ g * b + 2 ^ g ≤ 18446744073709551616 := by
        have h1 := Nat.pow_le_pow_right (n := 2) (by decide) (show g ≤ 56 by omega)
        have h2 : 2 ^ g * b + 2 ^ g ≤ 2 ^ g * 256 := by rw [← Nat.mul_succ]; exact Nat.mul_le_mul_left _ hb
        omega
      have hor := or_low x b g hlo (by omega)
      have m1 : IntKind.u64.wrap (b : Int) = (b : Int) := by rw [IntKind.wrap_u64]; omega
      have m2 : IntKind.u64.wrap ((b : Int) * 2 ^ g) = ((2 ^ g * b : Nat) : Int) := by
        have e : (b : Int) * 2 ^ g = ((2 ^ g * b : Nat) : Int) := by rw [Nat.mul_comm]; simp
        rw [e, IntKind.wrap_u64]; omega
      obtain ⟨y, hy⟩ : ∃ y, 2 ^ g * b = y := ⟨_, rfl⟩
      rw [hy] at hor m2 HS
      obtain ⟨z, hz⟩ : ∃ z, x + y = z := ⟨_, rfl⟩
      rw [hz] at hor HS
      have k1 := fun p => Ext.cell c1 p
      have k2 := fun p => Ext.cell c2 p
      clear hz hy hg hlo hb hpb hr
      go_wp2_with fail
      refine wp_region_up 14 14 (by kernel_rfl) (by kernel_rfl) (fun _ _ dst _ _ h => by cases dst <;> exact h) ?_
      simp only [List.take_succ_cons, List.take_zero, List.drop_succ_cons, List.drop_zero]
      refine upW_val (by rfl) (by rfl) (by rfl) ?_
      intro K hK
      go_big_quiet_op
      refine hK _ ?_
      refine upW_val (by rfl) (by rfl) (by rfl) ?_
      intro K hK
      go_big_quiet_op
      refine hK _ ?_
      refine upW_val (by rfl) (by rfl) (by rfl) ?_
      intro K hK
      go_big_quiet_op
      refine hK _ ?_
      refine upW_val (by rfl) (by rfl) (by rfl) ?_
      intro K hK
      go_big_quiet_op
      refine hK _ ?_
      refine upW_val (by rfl) (by rfl) (by rfl) ?_
      intro K hK
      go_big_quiet_op
      refine hK _ ?_
      refine upW_val (by rfl) (by rfl) (by rfl) ?_
      intro K hK
      go_big_quiet_op
      refine hK _ ?_
      refine upW_val (by rfl) (by rfl) (by rfl) ?_
      intro K hK
      go_big_quiet_op
      refine hK _ ?_
      refine upW_val (by rfl) (by rfl) (by rfl) ?_
      intro K hK
      go_big_quiet_op
      refine hK _ ?_
      refine upW_val (by rfl) (by rfl) (by rfl) ?_
      intro K hK
      go_big_quiet_op
      refine hK _ ?_
      refine upW_val (by rfl) (by rfl) (by rfl) ?_
      intro K hK
      go_big_quiet_op
      refine hK _ ?_
      refine upW_val (by rfl) (by rfl) (by rfl) ?_
      intro K hK
      go_big_quiet_op
      refine hK _ ?_
      refine upW_val (by rfl) (by rfl) (by rfl) ?_
      intro K hK
      go_big_quiet_op
      refine hK _ ?_
      refine upW_val (by rfl) (by rfl) (by rfl) ?_
      intro K hK
      go_big_quiet_op
      refine hK _ ?_
      refine upW_val (by rfl) (by rfl) (by rfl) ?_
      intro K hK
      go_big_quiet_op
      refine hK _ ?_
      refine upW_nil (fun wy hby => ?_)
      have HY1 := Lib.hid (HA1.out.ext hby)
      have HY2 := Lib.hid (HA2.out.ext hby)
      have HY3 := Lib.hid (HA3.out.ext hby)
      have HYB := Lib.hid (HBE.out.trans (hby.mono (show N ≤ _ by have := HA1.out.lt; omega)))
      have c3 := HY3.out.cell (i := q) (by rw [w4_len]; omega)
      have f3 := HY3.out.frozen q
      clear hby c1 c2 f2 k1 k2
      go_wp2_with fail
      go_roundw
      case rel => exact ⟨k + 1, rfl, hlt, HY1.out.other (setCell_other _ (by omega)), HY2.out.other (setCell_other _ (by omega)), by rw [← HS.out]; exact HY3.out.set z, HYB.out.setCell (p := ⟨N + 1 + 1, q, none⟩) (by show N ≤ N + 1 + 1; omega) _⟩
      case measure => simp [intOf]; omega
    · have hlt' : ¬ (k : Int) < 32 := by omega
      have HS := Lib.hid (sR n)
      have HO := Lib.hid (show (nums .u64 (zer 4)).size = (nums .u64 (w4 n)).size by rw [size_nums, size_nums, zer_len, w4_len])
      have h3 := HA3.out
      rw [show k = 32 by omega, Nat.mod_eq_of_lt (show n < 256 ^ 32 from HLE.out)] at h3
      have H3 := Lib.hid h3
      clear h3 HA3
      go_wp2_with (first
        | (refine wpList_load_row rfl 86 _ rfl (N + 1 + 1) rfl 86 (nums .u64 (w4 n)) (0, 0) _ H3.out Try.underlying86 rfl HS.out ?_)
        | (refine wpList_store_row rfl 86 _ _ rfl (N + 1) (nums .u64 (w4 n)) rfl rfl 86 _ HA2.out HS.out HO.out (nums_one _ _) ?_)
        )
      refine bodyPost_ret (results_cell_row (by rfl) _ _ (N + 1) 86 (nums .u64 (w4 n)) (0, 0) _ (by rfl) (setRow_heap _ _ _ _ _ _ HA2.out) Try.underlying86 rfl HS.out) rfl ⟨rfl, ?_⟩
      rw [HN.out]
      exact Below.setRow HBE.out (by omega) _
end Go.Proofs.Ytfmclkmmkceldaa
