/-
  The document's OfL.
  Conditions: none.
-/
import Derived.Test.YtgajheocobgecaaScJ
namespace Go.Proofs.Ytgajheocobgecaa
open Go.RowKit

set_option maxRecDepth 100000 in
set_option maxHeartbeats 1000000 in
theorem OfL_doc (v : Value) (l : List UInt8) (w : World) (hv : Bys w v l) :
    Calls Try.prog 37 #[v] w fun e w' => e = .returned (.agg (byteVals (b32 (le l % 13407807929942597099574024998205846127479365820592393377723561443721764030073546976801874298166903427690031858186486050853753882811946569946433649006084096 % 7237005577332262213973186563042994240857116359379907606001950938285454250989))).toArray) ∧ Below w.heap.size w w' := by
  have hz := z8
  have hzB := zB
  obtain ⟨ao, cap, rfl, ⟨hlc, hcm, hnil⟩, hcell⟩ := hv
  obtain ⟨z, hzm⟩ : ∃ z, min l.length 64 = z := ⟨_, rfl⟩
  have HFIN := Lib.hid (show le l % 256 ^ z = le l % 13407807929942597099574024998205846127479365820592393377723561443721764030073546976801874298166903427690031858186486050853753882811946569946433649006084096 by
    have h256 : (256 : Nat) ^ 64 = 13407807929942597099574024998205846127479365820592393377723561443721764030073546976801874298166903427690031858186486050853753882811946569946433649006084096 := by decide
    by_cases h : l.length ≤ 64
    · have hl := le_lt l
      rw [show z = l.length by omega, Nat.mod_eq_of_lt hl, Nat.mod_eq_of_lt]
      have := Nat.pow_le_pow_right (n := 256) (by decide) h
      rw [h256] at this
      exact Nat.lt_of_lt_of_le hl this
    · rw [show z = 64 by omega, h256])
  have HCELL := Lib.hid (show ∀ k, k < z → ∃ g off, ao = some ⟨g, off, none⟩ ∧ g < w.heap.size ∧ w.cell? ⟨g, off + k, none⟩ = some (.int .u8 ((le l / 256 ^ k % 256 : Nat) : Int)) from fun k hk => by
    rcases hcell with rfl | ⟨g, off, rfl, hg, hc⟩
    · simp at hzm; omega
    · have hkl : k < l.length := by omega
      refine ⟨g, off, rfl, hg, ?_⟩
      rw [hc k hkl, le_get, List.getD_eq_getElem?_getD, List.getElem?_eq_getElem hkl]
      rfl)
  have HRS := Lib.hid (fun w => restL_any (le l % 13407807929942597099574024998205846127479365820592393377723561443721764030073546976801874298166903427690031858186486050853753882811946569946433649006084096) w (Nat.mod_lt _ (by decide)))
  obtain ⟨n, hn⟩ : ∃ n, le l = n := ⟨_, rfl⟩
  rw [hn] at HFIN HCELL HRS ⊢
  obtain ⟨m, hm⟩ : ∃ m, n % 13407807929942597099574024998205846127479365820592393377723561443721764030073546976801874298166903427690031858186486050853753882811946569946433649006084096 = m := ⟨_, rfl⟩
  rw [hm] at HFIN HRS ⊢
  obtain ⟨x, hx⟩ : ∃ x, m % 7237005577332262213973186563042994240857116359379907606001950938285454250989 = x := ⟨_, rfl⟩
  rw [hx] at HRS
  rw [hx]
  have HNM := Lib.hid (fun w => bytesR_any x w)
  have HSX := Lib.hid (sBr (b32 x) (b32_len _))
  have HOX := Lib.hid (oN (zerB 32) (b32 x) (zerB_len 32) (b32_len _))
  obtain ⟨len, hlen⟩ : ∃ k, l.length = k := ⟨_, rfl⟩
  rw [hlen] at hlc hzm ⊢
  have HZM := Lib.hid hzm
  clear hn hm hx hlen hlc hcm hcell hnil hzm
  go_enter Try.func37, Try.ntmps37
  go_upto_region 2 with fail
  generalize hW1 : World.alloc _ _ = W1
  obtain ⟨N, hN⟩ : ∃ n, w.heap.size = n := ⟨_, rfl⟩
  have HR2 := Lib.hid (show BT W1 N 22 (zerB 32) by subst hW1; rw [← hN]; exact (alloc2_at w _ _).1)
  have HR3 := Lib.hid (show RW W1 (N + 1) .u64 76 (w8 (n % 256 ^ 0)) by subst hW1; rw [← hN, Nat.pow_zero, Nat.mod_one]; exact (alloc2_at w _ _).2)
  have HB1 := Lib.hid (show Below N w W1 by subst hW1; rw [← hN]; exact ((Below.refl _ w).alloc (Nat.le_refl _) _).alloc (by simp) _)
  rw [hN] at HCELL
  have HN := Lib.hid hN
  rw [hN]
  clear hW1 hN hz hzB
  go_wp2_with fail
  go_loopw [4] (fun iv wr => ∃ (k : Nat), iv = .int .i64 k ∧ k ≤ z ∧ BT wr N 22 (zerB 32) ∧ RW wr (N + 1) .u64 76 (w8 (n % 256 ^ k)) ∧ Below N w wr) (fun i _ => z - (intOf i).toNat)
  case atStart => exact ⟨0, rfl, Nat.zero_le _, HR2.out, HR3.out, HB1.out⟩
  case round =>
    obtain ⟨k, rfl, hk, hr2, hr3, hbel⟩ := hrel
    have HA2 := Lib.hid hr2
    have HA3 := Lib.hid hr3
    have HBE := Lib.hid hbel
    clear hr2 hr3 hbel HR2 HR3 HB1
    by_cases hlt : k < z
    · obtain ⟨g, off, rfl, hg, hc⟩ := HCELL.out k hlt
      have hlt' : (k : Int) < (len : Int) := by have := HZM.out; omega
      have hk0 : (0 : Int) ≤ (k : Int) := by omega
      have hk64 : k < 64 := by have := HZM.out; omega
      have hk64' : (k : Int) < 64 := by omega
      have c1 : wr.cell? ⟨g, off + k, none⟩ = some (.int .u8 ((n / 256 ^ k % 256 : Nat) : Int)) := by rw [World.cell?_of_block (HBE.out.block g hg)]; exact hc
      have c2 := HA3.out.cell (i := k / 8) (by rw [w8n_len]; omega)
      rw [w8n_get _ (k / 8) (by omega)] at c2
      have HS := Lib.hid (from_set8 n k hk64)
      have hlo := from_low8 n k
      have hb : n / 256 ^ k % 256 < 256 := Nat.mod_lt _ (by decide)
      have e1 : (k : Int) / 8 = ((k / 8 : Nat) : Int) := by omega
      have e2 : (k : Int) % 8 = ((k % 8 : Nat) : Int) := by omega
      have hq : ((k / 8 : Nat) : Int) < 8 := by omega
      have hq0 : (0 : Int) ≤ ((k / 8 : Nat) : Int) := by omega
      have hr : k % 8 < 8 := by omega
      generalize k / 8 = q at e1 hq hq0 c2 HS hlo
      generalize k % 8 = r at e2 hr HS hlo
      generalize wd (n % 256 ^ k) q = x' at c2 HS hlo
      generalize n / 256 ^ k % 256 = b at c1 HS hb hc
      obtain ⟨gg, hgg⟩ : ∃ g, 8 * r = g := ⟨_, rfl⟩
      rw [hgg] at HS hlo
      have j1 : (8 : Int) * (r : Int) = (gg : Int) := by omega
      have j2 : IntKind.i64.wrap (gg : Int) = (gg : Int) := by rw [IntKind.wrap_i64]; omega
      have j3 : (0 : Int) ≤ (gg : Int) := by omega
      have hpb : 2 ^ gg * b + 2 ^ gg ≤ 18446744073709551616 := by
        have h1 := Nat.pow_le_pow_right (n := 2) (by decide) (show gg ≤ 56 by omega)
        have h2 : 2 ^ gg * b + 2 ^ gg ≤ 2 ^ gg * 256 := by rw [← Nat.mul_succ]; exact Nat.mul_le_mul_left _ hb
        omega
      have hor := or_low8 x' b gg hlo (by omega)
      have m1 : IntKind.u64.wrap (b : Int) = (b : Int) := by rw [IntKind.wrap_u64]; omega
      have m2 : IntKind.u64.wrap ((b : Int) * 2 ^ gg) = ((2 ^ gg * b : Nat) : Int) := by
        have e : (b : Int) * 2 ^ gg = ((2 ^ gg * b : Nat) : Int) := by rw [Nat.mul_comm]; simp
        rw [e, IntKind.wrap_u64]; omega
      obtain ⟨y, hy⟩ : ∃ y, 2 ^ gg * b = y := ⟨_, rfl⟩
      rw [hy] at hor m2 HS
      obtain ⟨s, hs⟩ : ∃ s, x' + y = s := ⟨_, rfl⟩
      rw [hs] at hor HS
      have k1 := fun p => Ext.cell c1 p
      have k2 := fun p => Ext.cell c2 p
      clear hs hy hgg hlo hb hpb hr hc
      go_wp2_with fail
      refine wp_region_up 15 15 (by kernel_rfl) (by kernel_rfl) (fun _ _ dst _ _ h => by cases dst <;> exact h) ?_
      simp only [List.take_succ_cons, List.take_zero, List.drop_succ_cons, List.drop_zero]
      refine upW_val (by rfl) (by rfl) (by rfl) ?_
      intro K hK
      go_big_quiet_op
      refine hK _ ?_
      refine upW_val (by rfl) (by rfl) (by rfl) ?_
      intro K hK
      go_big_quiet_op
      refine hK _ ?_
      refine upW_val (by rfl) (by rfl) (by rfl) ?_
      intro K hK
      go_big_quiet_op
      refine hK _ ?_
      refine upW_val (by rfl) (by rfl) (by rfl) ?_
      intro K hK
      go_big_quiet_op
      refine hK _ ?_
      refine upW_val (by rfl) (by rfl) (by rfl) ?_
      intro K hK
      go_big_quiet_op
      refine hK _ ?_
      refine upW_val (by rfl) (by rfl) (by rfl) ?_
      intro K hK
      go_big_quiet_op
      refine hK _ ?_
      refine upW_val (by rfl) (by rfl) (by rfl) ?_
      intro K hK
      go_big_quiet_op
      refine hK _ ?_
      refine upW_val (by rfl) (by rfl) (by rfl) ?_
      intro K hK
      go_big_quiet_op
      refine hK _ ?_
      refine upW_val (by rfl) (by rfl) (by rfl) ?_
      intro K hK
      go_big_quiet_op
      refine hK _ ?_
      refine upW_val (by rfl) (by rfl) (by rfl) ?_
      intro K hK
      go_big_quiet_op
      refine hK _ ?_
      refine upW_val (by rfl) (by rfl) (by rfl) ?_
      intro K hK
      go_big_quiet_op
      refine hK _ ?_
      refine upW_val (by rfl) (by rfl) (by rfl) ?_
      intro K hK
      go_big_quiet_op
      refine hK _ ?_
      refine upW_val (by rfl) (by rfl) (by rfl) ?_
      intro K hK
      go_big_quiet_op
      refine hK _ ?_
      refine upW_val (by rfl) (by rfl) (by rfl) ?_
      intro K hK
      go_big_quiet_op
      refine hK _ ?_
      refine upW_val (by rfl) (by rfl) (by rfl) ?_
      intro K hK
      go_big_quiet_op
      refine hK _ ?_
      refine upW_nil (fun wy hby => ?_)
      have HY2 := Lib.hid (HA2.out.ext hby)
      have HY3 := Lib.hid (HA3.out.ext hby)
      have HYB := Lib.hid (HBE.out.trans (hby.mono (show N ≤ _ by have := HA2.out.lt; omega)))
      have c3 := HY3.out.cell (i := q) (by rw [w8n_len]; omega)
      have f3 := HY3.out.frozen q
      clear hby c1 c2 k1 k2
      go_wp2_with fail
      go_roundw
      case rel => exact ⟨k + 1, rfl, hlt, HY2.out.other (setCell_other _ (by omega)), by rw [← HS.out]; exact HY3.out.set s, HYB.out.setCell (p := ⟨N + 1, q, none⟩) (by show N ≤ N + 1; omega) _⟩
      case measure => simp [intOf]; omega
    · have HS := Lib.hid (s8 (w8 m) (w8n_len m))
      have h3 := HA3.out
      rw [show k = z by omega, HFIN.out] at h3
      have H3 := Lib.hid h3
      have HZK := Lib.hid (show k = min len 64 by have := HZM.out; omega)
      clear h3 HA3
      by_cases hll : k < len
      · have hll' : (k : Int) < (len : Int) := by omega
        have h64 : ¬ (k : Int) < 64 := by have := HZK.out; omega
        clear hll hlt hk
        go_wp2_with (refine wpList_load_row rfl 76 _ rfl (N + 1) rfl 76 (nums .u64 (w8 m)) (0, 0) _ H3.out Try.underlying76 rfl HS.out ?_)
        refine (HRS.out _).mono ?_
        rintro e5 w5 ⟨rfl, hb5⟩
        have HZ5 := Lib.hid (HA2.out.ext hb5)
        have HB5 := Lib.hid (HBE.out.trans (hb5.mono (show N ≤ _ by have := HA2.out.lt; omega)))
        clear hb5 HA2 HBE H3
        go_wp2_with fail
        refine (HNM.out _).mono ?_
        rintro e6 w6 ⟨rfl, hb6⟩
        have HZ6 := Lib.hid (HZ5.out.ext hb6)
        have HB6 := Lib.hid (HB5.out.trans (hb6.mono (show N ≤ _ by have := HZ5.out.lt; omega)))
        clear hb6 HZ5 HB5
        go_wp2_with (refine wpList_store_row rfl 22 _ _ rfl N ((byteVals (b32 x)).toArray) rfl rfl 22 _ HZ6.out HSX.out HOX.out (byteVals_one _) ?_)
        refine bodyPost_ret (results_cell_row (by rfl) _ _ N 22 ((byteVals (b32 x)).toArray) (0, 0) _ (by rfl) (setRow_heap _ _ _ _ _ _ HZ6.out) Try.underlying22 rfl HSX.out) rfl ⟨rfl, ?_⟩
        rw [HN.out]
        exact Below.setRow HB6.out (Nat.le_refl _) _
      · have hll' : ¬ (k : Int) < (len : Int) := by omega
        clear hll hlt hk
        go_wp2_with (refine wpList_load_row rfl 76 _ rfl (N + 1) rfl 76 (nums .u64 (w8 m)) (0, 0) _ H3.out Try.underlying76 rfl HS.out ?_)
        refine (HRS.out _).mono ?_
        rintro e5 w5 ⟨rfl, hb5⟩
        have HZ5 := Lib.hid (HA2.out.ext hb5)
        have HB5 := Lib.hid (HBE.out.trans (hb5.mono (show N ≤ _ by have := HA2.out.lt; omega)))
        clear hb5 HA2 HBE H3
        go_wp2_with fail
        refine (HNM.out _).mono ?_
        rintro e6 w6 ⟨rfl, hb6⟩
        have HZ6 := Lib.hid (HZ5.out.ext hb6)
        have HB6 := Lib.hid (HB5.out.trans (hb6.mono (show N ≤ _ by have := HZ5.out.lt; omega)))
        clear hb6 HZ5 HB5
        go_wp2_with (refine wpList_store_row rfl 22 _ _ rfl N ((byteVals (b32 x)).toArray) rfl rfl 22 _ HZ6.out HSX.out HOX.out (byteVals_one _) ?_)
        refine bodyPost_ret (results_cell_row (by rfl) _ _ N 22 ((byteVals (b32 x)).toArray) (0, 0) _ (by rfl) (setRow_heap _ _ _ _ _ _ HZ6.out) Try.underlying22 rfl HSX.out) rfl ⟨rfl, ?_⟩
        rw [HN.out]
        exact Below.setRow HB6.out (Nat.le_refl _) _
end Go.Proofs.Ytgajheocobgecaa
