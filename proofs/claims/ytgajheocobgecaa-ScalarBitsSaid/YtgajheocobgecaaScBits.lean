/-
  ScalarBits: a number is the sum of its bits' powers of 2.
  Conditions: none.
-/
import Derived.Test.YtgajheocobgecaaScL
import Derived.Test.YtgajheocobgecaaFdO
import Derived.Test.YtgajheocobgecaaUpT
namespace Go.Proofs.Ytgajheocobgecaa
open Go.RowKit

open Go.ChangeShapes Go.WideShapes Go.ChangeAt
theorem dbl_eq (n k : Nat) (h : n / 2 ^ k % 2 = 0) : oAdd (n / 2 ^ (k + 1) % 7237005577332262213973186563042994240857116359379907606001950938285454250989) (n / 2 ^ (k + 1) % 7237005577332262213973186563042994240857116359379907606001950938285454250989) = n / 2 ^ k % 7237005577332262213973186563042994240857116359379907606001950938285454250989 := by
  have := rest_bit n k 7237005577332262213973186563042994240857116359379907606001950938285454250989
  rw [h, Nat.add_zero] at this
  rw [← this]
  generalize n / 2 ^ (k + 1) % 7237005577332262213973186563042994240857116359379907606001950938285454250989 = v
  unfold oAdd
  rw [Nat.two_mul]
theorem dbl1_eq (n k : Nat) (h : n / 2 ^ k % 2 = 1) : oAdd (oAdd (n / 2 ^ (k + 1) % 7237005577332262213973186563042994240857116359379907606001950938285454250989) (n / 2 ^ (k + 1) % 7237005577332262213973186563042994240857116359379907606001950938285454250989)) 1 = n / 2 ^ k % 7237005577332262213973186563042994240857116359379907606001950938285454250989 := by
  have := rest_bit n k 7237005577332262213973186563042994240857116359379907606001950938285454250989
  rw [h] at this
  rw [← this]
  generalize n / 2 ^ (k + 1) % 7237005577332262213973186563042994240857116359379907606001950938285454250989 = v
  unfold oAdd
  rw [Nat.two_mul, Nat.mod_add_mod]
theorem top256 (n k : Nat) (hk : k = 256) (h : n < 115792089237316195423570985008687907853269984665640564039457584007913129639936) : n / 2 ^ k % 7237005577332262213973186563042994240857116359379907606001950938285454250989 = 0 := by
  have e : (2 : Nat) ^ k = 115792089237316195423570985008687907853269984665640564039457584007913129639936 := by subst hk; decide
  rw [e, Nat.div_eq_of_lt h]
theorem bit_at (n k : Nat) (hk : k < 256) : bitB n (k : Int) = decide (n / 2 ^ k % 2 = 1) := by
  unfold bitB
  rw [Int.toNat_natCast, Bool.eq_iff_iff, decide_eq_true_eq, decide_eq_true_eq]
  exact ⟨fun h => h.2.2, fun h => ⟨by omega, by omega, h⟩⟩
set_option maxRecDepth 100000 in
set_option maxHeartbeats 1000000 in
theorem scalarBits_true (a : List UInt8) (w : World) (hla : a.length = 32) :
    Calls Try.prog 8 #[.agg (byteVals a).toArray] w fun e w' => e = .returned (.bool true) ∧ Below w.heap.size w w' := by
  have HLA0 := Lib.hid hla
  have HOF := Lib.hid (fun v w (h : Bys w v a) => Of_sc v a w h)
  rw [of32 a hla] at HOF
  have hnl := le_32 a hla
  obtain ⟨n, hn⟩ : ∃ n, le a = n := ⟨_, rfl⟩
  have HNV := Lib.hid hn
  rw [hn] at HOF hnl
  obtain ⟨x, hx⟩ : ∃ x, n % 7237005577332262213973186563042994240857116359379907606001950938285454250989 = x := ⟨_, rfl⟩
  rw [hx] at HOF
  have HXV := Lib.hid hx
  have HTOP := Lib.hid (fun k hk => top256 n k hk hnl)
  obtain ⟨K, hK⟩ : ∃ K : Nat, K = 256 := ⟨_, rfl⟩
  have HK := Lib.hid hK
  have hz := zM
  clear hla hnl hn hx hK
  go_enter Try.func8, Try.ntmps8
  go_upto_region 1 with fail
  generalize hW1 : World.alloc _ _ = W1
  obtain ⟨N, hN⟩ : ∃ n, w.heap.size = n := ⟨_, rfl⟩
  have HX0 := Lib.hid (show BT W1 N 22 a by subst hW1; rw [← hN]; exact Go.heap_alloc_new _ _)
  have HB := Lib.hid (show Below N w W1 by subst hW1; rw [← hN]; exact (Below.refl _ w).alloc (Nat.le_refl _) _)
  have HN := Lib.hid hN
  rw [hN]
  clear hW1 hN
  go_wp2_with fail
  refine (awake8_any _).mono ?_
  rintro e wa ⟨rfl, hba⟩
  have HX0' := Lib.hid (HX0.out.ext hba)
  have HB' := Lib.hid (HB.out.trans (hba.mono (show N ≤ _ by have := HX0.out.lt; omega)))
  clear hba HB HX0
  have HB := HB'
  have HX0 := HX0'
  clear HB' HX0'
  go_wp2_with (first
    | (refine wpList_build' rfl 39 _ rfl ((byteVals (zerB 32)).toArray) (by kernel_rfl) ?_)
    | (refine wpList_store_row rfl 39 _ _ rfl wa.heap.size ((byteVals (zerB 32)).toArray) rfl rfl 39 _ (Go.heap_alloc_new _ _) (sM _ (zerB_len 32)) rfl (byteVals_one _) (Stop.out ?_)))
  generalize hWS : World.setRow _ _ _ = ws
  obtain ⟨M, hM⟩ : ∃ n, wa.heap.size = n := ⟨_, rfl⟩
  have HNM := Lib.hid (show N < M by rw [← hM]; exact HX0.out.lt)
  have HM := Lib.hid (show BT ws M 39 (b32 0) by subst hWS; rw [← hM]; exact setRow_heap _ _ _ _ _ _ (Go.heap_alloc_new _ _))
  have HX0' := Lib.hid (show BT ws N 22 a by subst hWS; exact HX0.out.other ((setRow_other _ _ _ _ (by rw [hM]; have := HNM.out; omega)).trans (Go.heap_alloc_old _ _ HX0.out.lt)))
  have HB' := Lib.hid (show Below N w ws by subst hWS; exact Below.setRow (HB.out.alloc (by rw [hM]; have := HNM.out; omega) _) (by rw [hM]; have := HNM.out; omega) _)
  rw [hM]
  clear hWS hM HX0 HB
  have HX0 := HX0'
  have HB := HB'
  clear HX0' HB'
  refine ⟨?_⟩
  go_wp2_with fail
  go_loopw [4] (fun iv wr => ∃ (k : Nat), iv = .int .i64 ((k : Int) - 1) ∧ k ≤ 256 ∧ BT wr N 22 a ∧ BT wr M 39 (b32 (n / 2 ^ k % 7237005577332262213973186563042994240857116359379907606001950938285454250989)) ∧ Below N w wr) (fun i _ => (intOf i + 1).toNat)
  case atStart => exact ⟨K, by rw [HK.out]; rfl, Nat.le_of_eq HK.out, HX0.out, by rw [HTOP.out K HK.out]; exact HM.out, HB.out⟩
  case round =>
    obtain ⟨k, rfl, hk, h1, h2, hbel⟩ := hrel
    clear HX0 HM HB
    have HX0 := Lib.hid h1
    have HM := Lib.hid h2
    have HB := Lib.hid hbel
    clear h1 h2 hbel
    cases k with
    | zero =>
      have HM' := Lib.hid (show BT wr M 39 (b32 x) by have := HM.out; rw [Nat.pow_zero, Nat.div_one, HXV.out] at this; exact this)
      clear HM
      have HM := HM'
      clear HM'
      go_wp2_with fail
      refine wp_region_whole [0, 1, 2, 3, 4] [] [] (by kernel_rfl) (by kernel_rfl) (List.forall_mem_nil _) rfl ?_
      simp only [List.foldl]
      refine upW_val (by rfl) (by rfl) (by rfl) (fun K hK => quiet_load_row _ _ rfl M rfl 39 _ (0, 0) _ HM.out Try.underlying39 rfl (sM _ (b32_len _)) (hK _ ?_))
      simp only [Act.put, List.setIfInBounds_toArray, List.set]
      refine upW_late (by rfl) (.slice (some ⟨N, 0, none⟩) 32 32) (fun _ => by kernel_rfl) ?_
      simp only [Act.put, List.setIfInBounds_toArray, List.set]
      refine upW_call (by rfl) (by rfl) (.agg (byteVals (b32 x)).toArray) _ rfl (by simp) (fun p => ?_) ?_
      · go_big_quiet_op
        exact ⟨_, fun q => Calls.ext_of (HOF.out _ q.x (sl32 a HLA0.out (HX0.out.ext (p.h.trans (q.h.mono p.h.size))))), rfl⟩
      simp only [Act.put, List.setIfInBounds_toArray, List.set]
      refine upW_late (by rfl) (.bool true) (fun w => run_eqN (b32 x) (b32 x) (b32_len _) (b32_len _) _ _ _ _ 39 rfl Try.underlying39 (by kernel_rfl) rfl rfl true (decide_eq_true rfl) w) ?_
      simp only [Act.put, List.setIfInBounds_toArray, List.set]
      refine upW_val (by rfl) (by rfl) (by rfl) ?_
      intro K hK
      go_big_quiet_op
      refine hK _ ?_
      refine upW_nil ⟨List.forall_mem_nil _, fun M2 wn hM2 hne hbs => ?_⟩
      simp only [List.foldr]
      clear hM2 hne M2
      have HF := Lib.hid (HB.out.trans (hbs.mono (show N ≤ _ by have := HB.out.size; have := HN.out; omega)))
      clear hbs
      go_wp2
      go_ret
      exact ⟨rfl, HN.out.symm ▸ HF.out⟩
    | succ k =>
      have i0 : ((k + 1 : Nat) : Int) - 1 = (k : Int) := by omega
      rw [i0]
      have HAD := Lib.hid (fun w => Add_sc (b32 (n / 2 ^ (k + 1) % 7237005577332262213973186563042994240857116359379907606001950938285454250989)) (b32 (n / 2 ^ (k + 1) % 7237005577332262213973186563042994240857116359379907606001950938285454250989)) w (b32_len _) (b32_len _))
      rw [le_b32 (n / 2 ^ (k + 1) % 7237005577332262213973186563042994240857116359379907606001950938285454250989) (lt4L (Nat.mod_lt _ L_pos))] at HAD
      have HBI := Lib.hid (fun w => Bit_sc a (k : Int) w HLA0.out (by omega) (by omega))
      rw [HNV.out, bit_at n k (by omega)] at HBI
      have HD0 := Lib.hid (dbl_eq n k)
      have HD1 := Lib.hid (dbl1_eq n k)
      obtain ⟨v, hv⟩ : ∃ v, n / 2 ^ (k + 1) % 7237005577332262213973186563042994240857116359379907606001950938285454250989 = v := ⟨_, rfl⟩
      rw [hv] at HAD HD0 HD1 HM
      have HDL := Lib.hid (oAdd_lt v v)
      obtain ⟨d, hd⟩ : ∃ d, oAdd v v = d := ⟨_, rfl⟩
      rw [hd] at HAD HD0 HD1 HDL
      clear hv hd
      go_wp2_with (refine wpList_load_row rfl 39 _ rfl M rfl 39 ((byteVals (b32 v)).toArray) (0, 0) _ HM.out Try.underlying39 rfl (sM _ (b32_len _)) ?_)
      refine (HAD.out _).mono ?_
      rintro e2 w2 ⟨rfl, hb2⟩
      have HX0' := Lib.hid (HX0.out.ext hb2)
      have HM' := Lib.hid (HM.out.ext hb2)
      have HB' := Lib.hid (HB.out.trans (hb2.mono (show N ≤ _ by have := HB.out.size; have := HN.out; omega)))
      clear hb2 HB HX0 HM
      have HB := HB'
      have HX0 := HX0'
      have HM := HM'
      clear HB' HX0' HM'
      go_wp2_with (refine wpList_store_row rfl 39 _ _ rfl M ((byteVals (b32 d)).toArray) rfl rfl 39 _ HM.out (sM _ (b32_len _)) (oN _ _ (b32_len _) (b32_len _)) (byteVals_one _) (Stop.out ?_))
      generalize hWS : World.setRow _ _ _ = w3
      have HM' := Lib.hid (show BT w3 M 39 (b32 d) by subst hWS; exact setRow_heap _ _ _ _ _ _ HM.out)
      have HX0' := Lib.hid (show BT w3 N 22 a by subst hWS; exact HX0.out.other (setRow_other _ _ _ _ (by have := HNM.out; omega)))
      have HB' := Lib.hid (show Below N w w3 by subst hWS; exact Below.setRow HB.out (by have := HNM.out; omega) _)
      clear hWS HM HX0 HB
      have HM := HM'
      have HX0 := HX0'
      have HB := HB'
      clear HM' HX0' HB'
      refine ⟨?_⟩
      go_wp2_with (refine wpList_load_row rfl 22 _ rfl N rfl 22 ((byteVals a).toArray) (0, 0) _ HX0.out Try.underlying22 rfl (sBr _ HLA0.out) ?_)
      refine (HBI.out _).mono ?_
      rintro e4 w4' ⟨rfl, hb4⟩
      have HX0' := Lib.hid (HX0.out.ext hb4)
      have HM' := Lib.hid (HM.out.ext hb4)
      have HB' := Lib.hid (HB.out.trans (hb4.mono (show N ≤ _ by have := HB.out.size; have := HN.out; omega)))
      clear hb4 HB HX0 HM
      have HB := HB'
      have HX0 := HX0'
      have HM := HM'
      clear HB' HX0' HM'
      by_cases hbit : n / 2 ^ k % 2 = 1
      · have hdec : decide (n / 2 ^ k % 2 = 1) = true := by simpa using hbit
        have HV := Lib.hid (HD1.out hbit)
        rw [hdec]
        have HAE := Lib.hid (fun w => Add_sc (b32 d) (b32 1) w (b32_len _) (b32_len _))
        rw [le_b32 d (lt4L HDL.out), le_b32 1 (by decide)] at HAE
        obtain ⟨z, hzz⟩ : ∃ z, oAdd d 1 = z := ⟨_, rfl⟩
        rw [hzz] at HAE HV
        clear hdec hbit hzz
        go_wp2_with (first
          | (refine wpList_build' rfl 39 _ rfl ((byteVals (b32 1)).toArray) (by kernel_rfl) ?_)
          | (refine wpList_load_row rfl 39 _ rfl M rfl 39 ((byteVals (b32 d)).toArray) (0, 0) _ HM.out Try.underlying39 rfl (sM _ (b32_len _)) ?_)
          )
        refine (HAE.out _).mono ?_
        rintro e5 w5 ⟨rfl, hb5⟩
        have HX0' := Lib.hid (HX0.out.ext hb5)
        have HM' := Lib.hid (HM.out.ext hb5)
        have HB' := Lib.hid (HB.out.trans (hb5.mono (show N ≤ _ by have := HB.out.size; have := HN.out; omega)))
        clear hb5 HB HX0 HM
        have HB := HB'
        have HX0 := HX0'
        have HM := HM'
        clear HB' HX0' HM'
        go_wp2_with (refine wpList_store_row rfl 39 _ _ rfl M ((byteVals (b32 z)).toArray) rfl rfl 39 _ HM.out (sM _ (b32_len _)) (oN _ _ (b32_len _) (b32_len _)) (byteVals_one _) (Stop.out ?_))
        generalize hWS : World.setRow _ _ _ = w6
        have HM' := Lib.hid (show BT w6 M 39 (b32 z) by subst hWS; exact setRow_heap _ _ _ _ _ _ HM.out)
        have HX0' := Lib.hid (show BT w6 N 22 a by subst hWS; exact HX0.out.other (setRow_other _ _ _ _ (by have := HNM.out; omega)))
        have HB' := Lib.hid (show Below N w w6 by subst hWS; exact Below.setRow HB.out (by have := HNM.out; omega) _)
        clear hWS HM HX0 HB
        have HM := HM'
        have HX0 := HX0'
        have HB := HB'
        clear HM' HX0' HB'
        refine ⟨?_⟩
        go_wp2_with fail
        go_roundw
        case rel => exact ⟨k, rfl, by omega, HX0.out, HV.out ▸ HM.out, HB.out⟩
        case measure => simp [intOf]
      · have hdec : decide (n / 2 ^ k % 2 = 1) = false := by simpa using hbit
        have HV := Lib.hid (HD0.out (by omega))
        rw [hdec]
        clear hdec hbit
        go_wp2_with fail
        go_roundw
        case rel => exact ⟨k, rfl, by omega, HX0.out, HV.out ▸ HM.out, HB.out⟩
        case measure => simp [intOf]
theorem scalarBits_own : ownKnob Try.prog.godebug = none := by kernel_rfl

set_option maxRecDepth 100000 in
theorem scalarBits_lifted (os : Os) (started : os.Started) (H : Type) (enc : TypeId × Value → H) :
    ReturnsInHanded {} Try.checked os 8 .any (Rows.scalarBitsSpec.pre6 enc Try.prog Try.f8 Rows.scalarBitsRow.domain false) (Rows.scalarBitsSpec.post enc Try.prog Try.f8 false true false false) := by
  refine returnsInHanded_of_change (C := Try.checked) scalarBits_own started (by kernel_rfl) Try.func8
    (ChangeSpec.witness6 (enc := enc) (C := Try.checked) false ⟨#[], #[.agg (Array.replicate 32 (.int .u8 0))], []⟩ 8 (by kernel_rfl) (by kernel_rfl) (by kernel_rfl) (by kernel_rfl)) ?_
  intro W base args ds gs before hval0 hW hcnd _
  have hval : ∀ (j : Nat) t v, Try.f8.params[j]? = some t → args[j]? = some v → Value.okWide Try.prog W .any base t v := hval0
  have hW' := hW
  obtain ⟨p, q, hA0, hV, rfl, hfz, hnd⟩ := hW
  have hA : DataW.TrodAll enc Try.prog W 0 (fun _ => true) true Try.f8.params.toList args.toList ds p := hA0
  rw [Try.params8] at hA hval
  obtain ⟨v0, vs0, d0, ds0, p0, q0, hargs, rfl, rfl, h0, r0⟩ := trodAll_cons hA
  obtain ⟨rfl, rfl, rfl⟩ := trodAll_nil r0
  obtain rfl : args = #[v0] := by cases args; simp_all
  obtain ⟨rfl, rfl⟩ := trodVars_none hV
  obtain ⟨a0, hl0, rfl, rfl, rfl⟩ := open_arr8 Try.underlying22 Try.underlying5 (by kernel_rfl) (by kernel_rfl) (hval 0 22 v0 rfl rfl) h0
  clear hA0 hval0
  simp only [List.append_nil] at hW'
  refine (scalarBits_true a0 W hl0).mono fun e W' ⟨he, bel⟩ => ?_
  subst he
  exact ⟨_, rfl, _, _, _, [], [], [], hW', trodAll_mk1 (shut_bool Try.underlying4 _), (trodAll_cons_mk (shut_arr8 Try.underlying22 Try.underlying5 (by kernel_rfl) (by kernel_rfl) a0 hl0) trodAll_mk0), rfl, bel.frame _, fun h => by cases h⟩

theorem scalarBits_holds : Rows.ScalarBitsSaid :=
  OpenClaim.holds_of_wide 8 Try.f8 rfl rfl rfl rfl rfl rfl rfl ⟨rfl, rfl, rfl, rfl, rfl⟩ rfl rfl rfl rfl rfl (by kernel_rfl) Try.func8 (by kernel_rfl)
    (of_decide_eq_true (by kernel_rfl)) (by unfold Func.isWrapper; first | (rw [if_pos (by decide +kernel)]; kernel_rfl) | (rw [if_neg (by decide +kernel)]; exact ⟨rfl, rfl⟩))
    (fun os started H enc _ => scalarBits_lifted os started H enc)
#print axioms scalarBits_holds

end Go.Proofs.Ytgajheocobgecaa
