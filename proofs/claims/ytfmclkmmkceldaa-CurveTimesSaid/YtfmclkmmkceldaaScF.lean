/-
  Package scalar: read; rows of bytes out of a box.
  Conditions: none.
-/
import Derived.Test.YtfmclkmmkceldaaScE
import Derived.Lib.Walk
namespace Go.Proofs.Ytfmclkmmkceldaa
open Go.RowKit

/-- The bytes of a box, sliced whole. -/
theorem bys_box {w : World} {b : Nat} {t : TypeId} {l : List UInt8} (h : BT w b t l) (hl : l.length ≤ 100000) : Bys w (.slice (some ⟨b, 0, none⟩) l.length l.length) l :=
  ⟨_, _, rfl, ⟨Nat.le_refl _, by unfold maxLen; omega, fun h => by cases h⟩, .inr ⟨b, 0, rfl, h.lt, fun i hi => by
    have := h.cell hi
    rw [Nat.zero_add, this]
    simp [List.getD_eq_getElem?_getD, List.getElem?_eq_getElem hi]⟩⟩
theorem le_take (l : List UInt8) (k : Nat) : le (l.take k) = le l % 256 ^ k := by
  induction l generalizing k with
  | nil => simp [le]
  | cons x l ih =>
    cases k with
    | zero => simp [le, Nat.mod_one]
    | succ k =>
      have hx := x.toNat_lt
      rw [List.take_succ_cons, le, le, ih, Nat.pow_succ, Nat.mul_comm (256 ^ k) 256, Nat.mod_mul]
      have e1 : (x.toNat + 256 * le l) % 256 = x.toNat := by omega
      have e2 : (x.toNat + 256 * le l) / 256 = le l := by omega
      rw [e1, e2]
theorem or_low8 (a b i : Nat) (ha : a < 2 ^ i) (hs : a + 2 ^ i * b < 18446744073709551616) : bits .or .u64 (a : Int) ((2 ^ i * b : Nat) : Int) = ((a + 2 ^ i * b : Nat) : Int) := by
  rw [(bits_nat .u64 64 (by decide) wraps_u64 a (2 ^ i * b) (by show a < 18446744073709551616; omega) (by show 2 ^ i * b < 18446744073709551616; omega)).2, Nat.or_comm, ← Nat.two_pow_add_eq_or_of_lt ha, Nat.add_comm]
set_option maxRecDepth 100000 in
set_option maxHeartbeats 1000000 in
theorem readS_any (v : Value) (l : List UInt8) (w : World) (hv : Bys w v l) :
    Calls Try.prog 89 #[v] w fun e w' => e = .returned (.agg (nums .u64 (w8 (le l % 13407807929942597099574024998205846127479365820592393377723561443721764030073546976801874298166903427690031858186486050853753882811946569946433649006084096)))) ∧ Below w.heap.size w w' := by
  have hz := zV
  obtain ⟨ao, cap, rfl, ⟨hlc, hcm, _⟩, hcell⟩ := hv
  obtain ⟨z, hzm⟩ : ∃ z, min l.length 64 = z := ⟨_, rfl⟩
  have HZL := Lib.hid (show z ≤ l.length ∧ z ≤ 64 by omega)
  have HFIN := Lib.hid (show le l % 256 ^ z = le l % 13407807929942597099574024998205846127479365820592393377723561443721764030073546976801874298166903427690031858186486050853753882811946569946433649006084096 by
    have h256 : (256 : Nat) ^ 64 = 13407807929942597099574024998205846127479365820592393377723561443721764030073546976801874298166903427690031858186486050853753882811946569946433649006084096 := by decide
    by_cases h : l.length ≤ 64
    · have hl := le_lt l
      rw [show z = l.length by omega, Nat.mod_eq_of_lt hl, Nat.mod_eq_of_lt]
      have := Nat.pow_le_pow_right (n := 256) (by decide) h
      rw [h256] at this
      exact Nat.lt_of_lt_of_le hl this
    · rw [show z = 64 by omega, h256])
  have HCELL := Lib.hid (show ∀ k, k < z → ∃ g off, ao = some ⟨g, off, none⟩ ∧ g < w.heap.size ∧ w.cell? ⟨g, off + k, none⟩ = some (.int .u8 ((le l / 256 ^ k % 256 : Nat) : Int)) from fun k hk => by
    rcases hcell with rfl | ⟨g, off, rfl, hg, hc⟩
    · simp at hzm; omega
    · have hkl : k < l.length := by omega
      refine ⟨g, off, rfl, hg, ?_⟩
      rw [hc k hkl, le_get, List.getD_eq_getElem?_getD, List.getElem?_eq_getElem hkl]
      rfl)
  obtain ⟨n, hn⟩ : ∃ n, le l = n := ⟨_, rfl⟩
  rw [hn] at HFIN HCELL ⊢
  obtain ⟨m, hm⟩ : ∃ m, n % 13407807929942597099574024998205846127479365820592393377723561443721764030073546976801874298166903427690031858186486050853753882811946569946433649006084096 = m := ⟨_, rfl⟩
  rw [hm] at HFIN ⊢
  obtain ⟨len, hlen⟩ : ∃ k, l.length = k := ⟨_, rfl⟩
  rw [hlen] at hlc hzm HZL ⊢
  have hmin : (if (len : Int) ≤ 64 then (len : Int) else 64) = (z : Int) := by split <;> omega
  have hmin2 : min (len : Int) 64 = (z : Int) := by omega
  have hzc : z ≤ cap := by omega
  have hzc' : (z : Int) ≤ (cap : Int) := by omega
  have hz0 : (0 : Int) ≤ (z : Int) := by omega
  have HZ64 := Lib.hid (show z ≤ 64 by omega)
  have HCM := Lib.hid hcm
  clear hn hm hlen hlc hcm hcell HZL
  go_enter Try.func89, Try.ntmps89
  go_upto_region 2 with fail
  generalize hW1 : World.alloc _ _ = W1
  obtain ⟨N, hN⟩ : ∃ n, w.heap.size = n := ⟨_, rfl⟩
  have HR2 := Lib.hid (show RW W1 N .u64 105 (zer 8) by subst hW1; rw [← hN]; exact (alloc2_at w _ _).1)
  have HR3 := Lib.hid (show RW W1 (N + 1) .u64 105 (w8 (n % 256 ^ 0)) by subst hW1; rw [← hN, Nat.pow_zero, Nat.mod_one]; exact (alloc2_at w _ _).2)
  have HB1 := Lib.hid (show Below N w W1 by subst hW1; rw [← hN]; exact ((Below.refl _ w).alloc (Nat.le_refl _) _).alloc (by simp) _)
  rw [hN] at HCELL
  have HN := Lib.hid hN
  rw [hN]
  clear hW1 hN hz
  go_wp2_with fail
  go_loopw [12] (fun iv wr => ∃ (k : Nat), iv = .int .i64 k ∧ k ≤ z ∧ RW wr N .u64 105 (zer 8) ∧ RW wr (N + 1) .u64 105 (w8 (n % 256 ^ k)) ∧ Below N w wr) (fun i _ => z - (intOf i).toNat)
  case atStart => exact ⟨0, rfl, Nat.zero_le _, HR2.out, HR3.out, HB1.out⟩
  case round =>
    obtain ⟨k, rfl, hk, hr2, hr3, hbel⟩ := hrel
    have HA2 := Lib.hid hr2
    have HA3 := Lib.hid hr3
    have HBE := Lib.hid hbel
    clear hr2 hr3 hbel HR2 HR3 HB1
    by_cases hlt : k < z
    · obtain ⟨g, off, rfl, hg, hc⟩ := HCELL.out k hlt
      have hlt' : (k : Int) < (z : Int) := by omega
      have hk0 : (0 : Int) ≤ (k : Int) := by omega
      have hk64 : k < 64 := by have := HZ64.out; omega
      have c1 : wr.cell? ⟨g, off + k, none⟩ = some (.int .u8 ((n / 256 ^ k % 256 : Nat) : Int)) := by rw [World.cell?_of_block (HBE.out.block g hg)]; exact hc
      have c2 := HA3.out.cell (i := k / 8) (by rw [w8n_len]; omega)
      rw [w8n_get _ (k / 8) (by omega)] at c2
      have HS := Lib.hid (from_set8 n k hk64)
      have hlo := from_low8 n k
      have hb : n / 256 ^ k % 256 < 256 := Nat.mod_lt _ (by decide)
      have e1 : (k : Int) / 8 = ((k / 8 : Nat) : Int) := by omega
      have e2 : (k : Int) % 8 = ((k % 8 : Nat) : Int) := by omega
      have hq : ((k / 8 : Nat) : Int) < 8 := by omega
      have hq0 : (0 : Int) ≤ ((k / 8 : Nat) : Int) := by omega
      have hr : k % 8 < 8 := by omega
      generalize k / 8 = q at e1 hq hq0 c2 HS hlo
      generalize k % 8 = r at e2 hr HS hlo
      generalize wd (n % 256 ^ k) q = x at c2 HS hlo
      generalize n / 256 ^ k % 256 = b at c1 HS hb hc
      obtain ⟨gg, hgg⟩ : ∃ g, 8 * r = g := ⟨_, rfl⟩
      rw [hgg] at HS hlo
      have j1 : (r : Int) * 8 = (gg : Int) := by omega
      have j2 : IntKind.i64.wrap (gg : Int) = (gg : Int) := by rw [IntKind.wrap_i64]; omega
      have j3 : (0 : Int) ≤ (gg : Int) := by omega
      have hpb : 2 ^ gg * b + 2 ^ gg ≤ 18446744073709551616 := by
        have h1 := Nat.pow_le_pow_right (n := 2) (by decide) (show gg ≤ 56 by omega)
        have h2 : 2 ^ gg * b + 2 ^ gg ≤ 2 ^ gg * 256 := by rw [← Nat.mul_succ]; exact Nat.mul_le_mul_left _ hb
        omega
      have hor := or_low8 x b gg hlo (by omega)
      have m1 : IntKind.u64.wrap (b : Int) = (b : Int) := by rw [IntKind.wrap_u64]; omega
      have m2 : IntKind.u64.wrap ((b : Int) * 2 ^ gg) = ((2 ^ gg * b : Nat) : Int) := by
        have e : (b : Int) * 2 ^ gg = ((2 ^ gg * b : Nat) : Int) := by rw [Nat.mul_comm]; simp
        rw [e, IntKind.wrap_u64]; omega
      obtain ⟨y, hy⟩ : ∃ y, 2 ^ gg * b = y := ⟨_, rfl⟩
      rw [hy] at hor m2 HS
      obtain ⟨s, hs⟩ : ∃ s, x + y = s := ⟨_, rfl⟩
      rw [hs] at hor HS
      have k2 := fun p => Ext.cell c2 p
      clear hs hy hgg hlo hb hpb hr hc
      go_wp2_with fail
      refine wp_region_up 12 12 (by kernel_rfl) (by kernel_rfl) (fun _ _ dst _ _ h => by cases dst <;> exact h) ?_
      simp only [List.take_succ_cons, List.take_zero, List.drop_succ_cons, List.drop_zero]
      refine upW_val (by rfl) (by rfl) (by rfl) ?_
      intro K hK
      go_big_quiet_op
      refine hK _ ?_
      refine upW_val (by rfl) (by rfl) (by rfl) ?_
      intro K hK
      go_big_quiet_op
      refine hK _ ?_
      refine upW_val (by rfl) (by rfl) (by rfl) ?_
      intro K hK
      go_big_quiet_op
      refine hK _ ?_
      refine upW_val (by rfl) (by rfl) (by rfl) ?_
      intro K hK
      go_big_quiet_op
      refine hK _ ?_
      refine upW_val (by rfl) (by rfl) (by rfl) ?_
      intro K hK
      go_big_quiet_op
      refine hK _ ?_
      refine upW_val (by rfl) (by rfl) (by rfl) ?_
      intro K hK
      go_big_quiet_op
      refine hK _ ?_
      refine upW_val (by rfl) (by rfl) (by rfl) ?_
      intro K hK
      go_big_quiet_op
      refine hK _ ?_
      refine upW_val (by rfl) (by rfl) (by rfl) ?_
      intro K hK
      go_big_quiet_op
      refine hK _ ?_
      refine upW_val (by rfl) (by rfl) (by rfl) ?_
      intro K hK
      go_big_quiet_op
      refine hK _ ?_
      refine upW_val (by rfl) (by rfl) (by rfl) ?_
      intro K hK
      go_big_quiet_op
      refine hK _ ?_
      refine upW_val (by rfl) (by rfl) (by rfl) ?_
      intro K hK
      go_big_quiet_op
      refine hK _ ?_
      refine upW_val (by rfl) (by rfl) (by rfl) ?_
      intro K hK
      go_big_quiet_op
      refine hK _ ?_
      refine upW_nil (fun wy hby => ?_)
      have HY2 := Lib.hid (HA2.out.ext hby)
      have HY3 := Lib.hid (HA3.out.ext hby)
      have HYB := Lib.hid (HBE.out.trans (hby.mono (show N ≤ _ by have := HA2.out.lt; omega)))
      have c3 := HY3.out.cell (i := q) (by rw [w8n_len]; omega)
      have f3 := HY3.out.frozen q
      clear hby c1 c2 k2
      go_wp2_with fail
      go_roundw
      case rel => exact ⟨k + 1, rfl, hlt, HY2.out.other (setCell_other _ (by omega)), by rw [← HS.out]; exact HY3.out.set s, HYB.out.setCell (p := ⟨N + 1, q, none⟩) (by show N ≤ N + 1; omega) _⟩
      case measure => simp [intOf]; omega
    · have hlt' : ¬ (k : Int) < (z : Int) := by omega
      have HS := Lib.hid (sV (w8 m) (w8n_len m))
      have HO := Lib.hid (show (nums .u64 (zer 8)).size = (nums .u64 (w8 m)).size by rw [size_nums, size_nums, zer_len, w8n_len])
      have h3 := HA3.out
      rw [show k = z by omega, HFIN.out] at h3
      have H3 := Lib.hid h3
      clear h3 HA3
      go_wp2_with (first
        | (refine wpList_load_row rfl 105 _ rfl (N + 1) rfl 105 (nums .u64 (w8 m)) (0, 0) _ H3.out Try.underlying105 rfl HS.out ?_)
        | (refine wpList_store_row rfl 105 _ _ rfl N (nums .u64 (w8 m)) rfl rfl 105 _ HA2.out HS.out HO.out (nums_one _ _) ?_)
        )
      refine bodyPost_ret (results_cell_row (by rfl) _ _ N 105 (nums .u64 (w8 m)) (0, 0) _ (by rfl) (setRow_heap _ _ _ _ _ _ HA2.out) Try.underlying105 rfl HS.out) rfl ⟨rfl, ?_⟩
      rw [HN.out]
      exact Below.setRow HBE.out (Nat.le_refl _) _
end Go.Proofs.Ytfmclkmmkceldaa
