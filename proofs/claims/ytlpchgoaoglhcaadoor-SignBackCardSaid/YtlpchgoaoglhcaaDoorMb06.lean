/-
  Package field's Root.
  What the laws of package field lean on: rows of bytes compared; numbers round the prime.
  The number L = 2^252 + 27742317777372353535851937790883648493 is a prime.
  Numbers modulo P = 2^255 - 19 as a field; d of edwards25519 is no square.
  The points of edwards25519 are a group under the sum of chapter 9 (which has no exception).
  Sums of points as the program and the document reckon them (four numbers for a point); the known points; how often Base and the point of eight come to nothing.
  Each point taken eight times L times is Zero: there are fewer than 16 L points, for each y has two x at most.
  Conditions: none.
-/
import Derived.Test.YtlpchgoaoglhcaaDoorMb05
import Derived.Test.YtlpchgoaoglhcaaDoorUpT
import Derived.Test.YtlpchgoaoglhcaaDoorMb00
namespace Go.Proofs.YtlpchgoaoglhcaaDoor
open Go.RowKit
set_option maxRecDepth 100000 in
set_option maxHeartbeats 1000000 in
theorem Root_any (l : List UInt8) (w : World) (hl : l.length = 32) :
    Calls Tryd.prog 71 #[.agg (byteVals l).toArray] w fun e w' => e = .returned (.tuple #[.agg (byteVals (b32 (fRoot (le l)).1)).toArray, .bool (fRoot (le l)).2]) ∧ Below w.heap.size w w' := by
  have HSL := Lib.hid (sN l hl)
  have HOF := Lib.hid (fun w => ofC_any l w hl)
  have HRE := Lib.hid (fun w => restC_any (le l) w (le_32 l hl))
  have hal : le l % 57896044618658097711785492504343953926634992332820282019728792003956564819949 < 57896044618658097711785492504343953926634992332820282019728792003956564819949 := Nat.mod_lt _ (by decide)
  have HRO := Lib.hid (fun w => rootC_any (le l % 57896044618658097711785492504343953926634992332820282019728792003956564819949) w hal)
  have hnl := rt_lt (le l % 57896044618658097711785492504343953926634992332820282019728792003956564819949) hal
  have HFR := Lib.hid (show fRoot (le l) = if (rt (le l % 57896044618658097711785492504343953926634992332820282019728792003956564819949)).2 = true then (if (rt (le l % 57896044618658097711785492504343953926634992332820282019728792003956564819949)).1 % 2 = 1 then (0 + 57896044618658097711785492504343953926634992332820282019728792003956564819949 - (rt (le l % 57896044618658097711785492504343953926634992332820282019728792003956564819949)).1) % 57896044618658097711785492504343953926634992332820282019728792003956564819949 else (rt (le l % 57896044618658097711785492504343953926634992332820282019728792003956564819949)).1, true) else (0, false) from rfl)
  obtain ⟨a, ha⟩ : ∃ x, le l % 57896044618658097711785492504343953926634992332820282019728792003956564819949 = x := ⟨_, rfl⟩
  rw [ha] at HRE HRO hnl HFR
  obtain ⟨⟨n, ok⟩, hrt⟩ : ∃ q, rt a = q := ⟨_, rfl⟩
  rw [hrt] at HRO hnl HFR
  simp only at HRO hnl HFR
  have HNLT := Lib.hid hnl
  have HSN := Lib.hid (sC n)
  have HODD := Lib.hid (fun w => oddC_any n w)
  clear hl ha hal hrt hnl
  have hz := zN
  have hzC := zC
  go_enter Tryd.func71, Tryd.ntmps71
  go_upto_region 1 with fail
  generalize hW1 : World.alloc _ _ = W1
  obtain ⟨N, hN⟩ : ∃ n, w.heap.size = n := ⟨_, rfl⟩
  have HR0 := Lib.hid (show BT W1 N 102 l by subst hW1; rw [← hN]; exact (alloc2_at w _ _).1)
  have HRZ := Lib.hid (show BT W1 (N + 1) 102 (zerB 32) by subst hW1; rw [← hN]; exact (alloc2_at w _ _).2)
  have HB := Lib.hid (show Below N w W1 by subst hW1; rw [← hN]; exact ((Below.refl _ w).alloc (Nat.le_refl _) _).alloc (by simp) _)
  have HN := Lib.hid hN
  rw [hN]
  clear hW1 hN
  go_wp2_with (refine wpList_load_row rfl 102 _ rfl N rfl 102 ((byteVals l).toArray) (0, 0) _ HR0.out Tryd.underlying102 rfl HSL.out ?_)
  refine (HOF.out _).mono ?_
  rintro e wu1 ⟨rfl, hb1⟩
  have HR0x1 := Lib.hid (HR0.out.ext hb1)
  have HRZx1 := Lib.hid (HRZ.out.ext hb1)
  have HBx1 := Lib.hid (HB.out.trans (hb1.mono (show N ≤ _ by have := HRZ.out.lt; omega)))
  clear hb1 HR0 HRZ HB
  have HR0 := HR0x1
  have HRZ := HRZx1
  have HB := HBx1
  clear HR0x1 HRZx1 HBx1
  go_wp2_with fail
  refine (HRE.out _).mono ?_
  rintro e wu2 ⟨rfl, hb2⟩
  have HR0x2 := Lib.hid (HR0.out.ext hb2)
  have HRZx2 := Lib.hid (HRZ.out.ext hb2)
  have HBx2 := Lib.hid (HB.out.trans (hb2.mono (show N ≤ _ by have := HRZ.out.lt; omega)))
  clear hb2 HR0 HRZ HB
  have HR0 := HR0x2
  have HRZ := HRZx2
  have HB := HBx2
  clear HR0x2 HRZx2 HBx2
  go_wp2_with fail
  refine (HRO.out _).mono ?_
  rintro e wu3 ⟨rfl, hb3⟩
  have HR0x3 := Lib.hid (HR0.out.ext hb3)
  have HRZx3 := Lib.hid (HRZ.out.ext hb3)
  have HBx3 := Lib.hid (HB.out.trans (hb3.mono (show N ≤ _ by have := HRZ.out.lt; omega)))
  clear hb3 HR0 HRZ HB
  have HR0 := HR0x3
  have HRZ := HRZx3
  have HB := HBx3
  clear HR0x3 HRZx3 HBx3
  go_wp2_with (refine wpList_store_row rfl 135 _ _ rfl wu3.heap.size (nums .u64 (w4 n)) rfl rfl 135 _ (Go.heap_alloc_new _ _) HSN.out ?hold (nums_one _ _) (Stop.out ?_))
  case hold => rw [size_nums, size_nums, zer_len, w4_len]
  generalize hWS : World.setRow _ _ _ = ws
  obtain ⟨M, hM⟩ : ∃ n, wu3.heap.size = n := ⟨_, rfl⟩
  have hMN : N + 1 < M := by rw [← hM]; exact HRZ.out.lt
  have HD := Lib.hid (show RW ws M .u64 135 (w4 n) by subst hWS; rw [← hM]; exact setRow_heap _ _ _ _ _ _ (Go.heap_alloc_new _ _))
  have HAZ := Lib.hid (show BT ws (N + 1) 102 (zerB 32) by subst hWS; exact HRZ.out.other ((setRow_other _ _ _ _ (by omega)).trans (Go.heap_alloc_old _ _ HRZ.out.lt)))
  have HE := Lib.hid (show Below N w ws by subst hWS; exact Below.setRow (HB.out.alloc (by omega) _) (by omega) _)
  rw [hM]
  clear hWS hM HR0 HRZ HB
  have HRZ := HAZ
  have HB := HE
  clear HAZ HE
  refine ⟨?_⟩
  cases ok with
  | false =>
    rw [if_neg (by decide)] at HFR
    have HSX := Lib.hid (sN (b32 0) (b32_len _))
    have HOX := Lib.hid (oN (zerB 32) (b32 0) (zerB_len 32) (b32_len _))
    go_wp2_with (first
      | (refine wpList_build' rfl 102 _ rfl ((byteVals (b32 0)).toArray) (by kernel_rfl) ?_)
      | (refine wpList_store_row rfl 102 _ _ rfl (N + 1) ((byteVals (b32 0)).toArray) rfl rfl 102 _ HRZ.out HSX.out HOX.out (byteVals_one _) ?_)
      )
    refine bodyPost_ret (results_cell_slot (p := 2) (q := 3) (by rfl) _ _ (N + 1) 102 ((byteVals (b32 0)).toArray) (0, 0) _ (.bool false) (by rfl) (setRow_heap _ _ _ _ _ _ HRZ.out) Tryd.underlying102 rfl HSX.out rfl) rfl ⟨by rw [HFR.out], ?_⟩
    rw [HN.out]
    exact Below.setRow HB.out (by omega) _
  | true =>
    rw [if_pos rfl] at HFR
    go_wp2_with (refine wpList_load_row rfl 135 _ rfl M rfl 135 (nums .u64 (w4 n)) (0, 0) _ HD.out Tryd.underlying135 rfl HSN.out ?_)
    refine (HODD.out _).mono ?_
    rintro e wu4 ⟨rfl, hb4⟩
    have HDx4 := Lib.hid (HD.out.ext hb4)
    have HRZx4 := Lib.hid (HRZ.out.ext hb4)
    have HBx4 := Lib.hid (HB.out.trans (hb4.mono (show N ≤ _ by have := HRZ.out.lt; omega)))
    clear hb4 HD HRZ HB
    have HD := HDx4
    have HRZ := HRZx4
    have HB := HBx4
    clear HDx4 HRZx4 HBx4
    by_cases hodd : n % 2 = 1
    · have hdec : decide (n % 2 = 1) = true := by simpa using hodd
      rw [if_pos hodd] at HFR
      rw [hdec]
      have HMI := Lib.hid (fun w => minusC_any 0 n w (by decide) HNLT.out)
      clear hodd hdec
      obtain ⟨x, hx⟩ : ∃ x, (0 + 57896044618658097711785492504343953926634992332820282019728792003956564819949 - n) % 57896044618658097711785492504343953926634992332820282019728792003956564819949 = x := ⟨_, rfl⟩
      rw [hx] at HMI HFR
      have HSXW := Lib.hid (sC x)
      have HNM := Lib.hid (fun w => numC_any x w)
      have HOW := Lib.hid (show (nums .u64 (w4 n)).size = (nums .u64 (w4 x)).size by rw [size_nums, size_nums, w4_len, w4_len])
      have HSX := Lib.hid (sN (b32 x) (b32_len _))
      have HOX := Lib.hid (oN (zerB 32) (b32 x) (zerB_len 32) (b32_len _))
      clear hx
      go_wp2_with (first
        | (refine wpList_build' rfl 135 _ rfl (nums .u64 (w4 0)) (by kernel_rfl) ?_)
        | (refine wpList_load_row rfl 135 _ rfl M rfl 135 (nums .u64 (w4 n)) (0, 0) _ HD.out Tryd.underlying135 rfl HSN.out ?_)
        )
      refine (HMI.out _).mono ?_
      rintro e wu5 ⟨rfl, hb5⟩
      have HDx5 := Lib.hid (HD.out.ext hb5)
      have HRZx5 := Lib.hid (HRZ.out.ext hb5)
      have HBx5 := Lib.hid (HB.out.trans (hb5.mono (show N ≤ _ by have := HRZ.out.lt; omega)))
      clear hb5 HD HRZ HB
      have HD := HDx5
      have HRZ := HRZx5
      have HB := HBx5
      clear HDx5 HRZx5 HBx5
      go_wp2_with (refine wpList_store_row rfl 135 _ _ rfl M (nums .u64 (w4 x)) rfl rfl 135 _ HD.out HSXW.out HOW.out (nums_one _ _) (Stop.out ?_))
      generalize hWS : World.setRow _ _ _ = ws2
      have HD2 := Lib.hid (show RW ws2 M .u64 135 (w4 x) by subst hWS; exact setRow_heap _ _ _ _ _ _ HD.out)
      have HAZ := Lib.hid (show BT ws2 (N + 1) 102 (zerB 32) by subst hWS; exact HRZ.out.other (setRow_other _ _ _ _ (by omega)))
      have HE := Lib.hid (show Below N w ws2 by subst hWS; exact Below.setRow HB.out (by omega) _)
      clear hWS HD HRZ HB
      have HRZ := HAZ
      have HB := HE
      clear HAZ HE
      refine ⟨?_⟩
      go_wp2_with (refine wpList_load_row rfl 135 _ rfl M rfl 135 (nums .u64 (w4 x)) (0, 0) _ HD2.out Tryd.underlying135 rfl HSXW.out ?_)
      refine (HNM.out _).mono ?_
      rintro e wu6 ⟨rfl, hb6⟩
      have HRZx6 := Lib.hid (HRZ.out.ext hb6)
      have HBx6 := Lib.hid (HB.out.trans (hb6.mono (show N ≤ _ by have := HRZ.out.lt; omega)))
      clear hb6 HRZ HB
      have HRZ := HRZx6
      have HB := HBx6
      clear HRZx6 HBx6
      go_wp2_with (refine wpList_store_row rfl 102 _ _ rfl (N + 1) ((byteVals (b32 x)).toArray) rfl rfl 102 _ HRZ.out HSX.out HOX.out (byteVals_one _) ?_)
      refine bodyPost_ret (results_cell_slot (p := 2) (q := 3) (by rfl) _ _ (N + 1) 102 ((byteVals (b32 x)).toArray) (0, 0) _ (.bool true) (by rfl) (setRow_heap _ _ _ _ _ _ HRZ.out) Tryd.underlying102 rfl HSX.out rfl) rfl ⟨by rw [HFR.out], ?_⟩
      rw [HN.out]
      exact Below.setRow HB.out (by omega) _
    · have hdec : decide (n % 2 = 1) = false := by simpa using hodd
      rw [if_neg hodd] at HFR
      rw [hdec]
      clear hodd hdec
      have HNM := Lib.hid (fun w => numC_any n w)
      have HSX := Lib.hid (sN (b32 n) (b32_len _))
      have HOX := Lib.hid (oN (zerB 32) (b32 n) (zerB_len 32) (b32_len _))
      go_wp2_with (refine wpList_load_row rfl 135 _ rfl M rfl 135 (nums .u64 (w4 n)) (0, 0) _ HD.out Tryd.underlying135 rfl HSN.out ?_)
      refine (HNM.out _).mono ?_
      rintro e wu7 ⟨rfl, hb7⟩
      have HRZx7 := Lib.hid (HRZ.out.ext hb7)
      have HBx7 := Lib.hid (HB.out.trans (hb7.mono (show N ≤ _ by have := HRZ.out.lt; omega)))
      clear hb7 HRZ HB
      have HRZ := HRZx7
      have HB := HBx7
      clear HRZx7 HBx7
      go_wp2_with (refine wpList_store_row rfl 102 _ _ rfl (N + 1) ((byteVals (b32 n)).toArray) rfl rfl 102 _ HRZ.out HSX.out HOX.out (byteVals_one _) ?_)
      refine bodyPost_ret (results_cell_slot (p := 2) (q := 3) (by rfl) _ _ (N + 1) 102 ((byteVals (b32 n)).toArray) (0, 0) _ (.bool true) (by rfl) (setRow_heap _ _ _ _ _ _ HRZ.out) Tryd.underlying102 rfl HSX.out rfl) rfl ⟨by rw [HFR.out], ?_⟩
      rw [HN.out]
      exact Below.setRow HB.out (by omega) _
end Go.Proofs.YtlpchgoaoglhcaaDoor
namespace Go.Proofs.YtlpchgoaoglhcaaDoor
open Go.RowKit
theorem run_eqB (o : Oper) (ax : Act) (x y : Operand) (t : TypeId) (ho : o.op = .binOp .eql t x y t) (hu : Tryd.prog.underlying t = some (.array 32 5)) (l m : List UInt8) (hx : ax.eval x = .agg (byteVals l).toArray) (hy : ax.eval y = .agg (byteVals m).toArray) (hl : l.length = 32) (hm : m.length = 32) (hg : Tryd.prog.eqGuardType Tryd.prog.depth t = false) (b : Bool) (hb : decide (l = m) = b) (w : World) :
    (execOp ax.eval o).run Tryd.prog w = .ok (.value (.bool b)) w := by
  unfold execOp
  simp only [ho, hx, hy]
  have h : (Op.equal t (.agg (byteVals l).toArray) (.agg (byteVals m).toArray)).run Tryd.prog w = .ok (decide (l = m)) w := eqB t 32 hu l m hl hm w
  simp [go_sem, binOp, hg, h, hb]
theorem P_pos : 0 < 57896044618658097711785492504343953926634992332820282019728792003956564819949 := by decide
theorem fMul_eq (a b : Nat) (ha : a < 115792089237316195423570985008687907853269984665640564039457584007913129639936) (hb : b < 115792089237316195423570985008687907853269984665640564039457584007913129639936) : fMul a b = a * b % 57896044618658097711785492504343953926634992332820282019728792003956564819949 := mu_mod a b ha hb
theorem fInv_lt (a : Nat) : fInv a < 57896044618658097711785492504343953926634992332820282019728792003956564819949 := Nat.mod_lt _ P_pos
theorem lt4 {a : Nat} (h : a < 57896044618658097711785492504343953926634992332820282019728792003956564819949) : a < 115792089237316195423570985008687907853269984665640564039457584007913129639936 := by omega
theorem fRoot_lt (a : Nat) : (fRoot a).1 < 57896044618658097711785492504343953926634992332820282019728792003956564819949 := by
  unfold fRoot
  split
  · show (if _ then _ else _) < _
    split
    · exact Nat.mod_lt _ P_pos
    · exact rt_lt _ (Nat.mod_lt _ P_pos)
  · exact P_pos
end Go.Proofs.YtlpchgoaoglhcaaDoor
namespace Go.Proofs.YtlpchgoaoglhcaaDoor
theorem pri_l0 : Pri 1224481 := pri_try 1224481 1105 (by decide) (by decide) (by decide +kernel)
theorem pri_l1 : Pri 531581 := pri_try 531581 728 (by decide) (by decide) (by decide +kernel)
theorem pri_l2 : Pri 1257559732178653 :=
  pockc 1257559732178653 2 1224481 531581 51 1257559732178652 1027014492 2365697292 1252739704402215 1139842034583224 pri_l0 pri_l1 (by decide +kernel) (by decide +kernel) (by decide +kernel) (by decide +kernel) (by decide +kernel) (by decide +kernel) (by decide +kernel) (by decide +kernel) (by decide +kernel) (by decide +kernel) (by decide +kernel) (by decide +kernel) (by decide +kernel) (by decide +kernel)
theorem pri_l3 : Pri 41 := pri_try 41 5 (by decide) (by decide) (by decide +kernel)
theorem pri_l4 : Pri 4434155615661930479 :=
  pockc 4434155615661930479 3 1257559732178653 41 62 4434155615661930478 3526 108150136967364158 1048787157380608640 1332951869666699545 pri_l2 pri_l3 (by decide +kernel) (by decide +kernel) (by decide +kernel) (by decide +kernel) (by decide +kernel) (by decide +kernel) (by decide +kernel) (by decide +kernel) (by decide +kernel) (by decide +kernel) (by decide +kernel) (by decide +kernel) (by decide +kernel) (by decide +kernel)
theorem pri_l5 : Pri 5 := pri_try 5 1 (by decide) (by decide) (by decide +kernel)
theorem pri_l6 : Pri 172054593956031949258510691 :=
  pockc 172054593956031949258510691 2 4434155615661930479 5 88 172054593956031949258510690 38802110 34410918791206389851702138 81982237619807054769897707 126248853658512624395904233 pri_l4 pri_l5 (by decide +kernel) (by decide +kernel) (by decide +kernel) (by decide +kernel) (by decide +kernel) (by decide +kernel) (by decide +kernel) (by decide +kernel) (by decide +kernel) (by decide +kernel) (by decide +kernel) (by decide +kernel) (by decide +kernel) (by decide +kernel)
theorem pri_l7 : Pri 269 := pri_try 269 15 (by decide) (by decide) (by decide +kernel)
theorem pri_l8 : Pri 19757330305831588566944191468367130476339 :=
  pockc 19757330305831588566944191468367130476339 2 172054593956031949258510691 269 134 19757330305831588566944191468367130476338 114831751082918 73447324556994753036967254529245838202 9148758478138211201771971577098600188172 19135173061686524037434590600399368611469 pri_l6 pri_l7 (by decide +kernel) (by decide +kernel) (by decide +kernel) (by decide +kernel) (by decide +kernel) (by decide +kernel) (by decide +kernel) (by decide +kernel) (by decide +kernel) (by decide +kernel) (by decide +kernel) (by decide +kernel) (by decide +kernel) (by decide +kernel)
theorem pri_l9 : Pri 7 := pri_try 7 1 (by decide) (by decide) (by decide +kernel)
theorem pri_l10 : Pri 276602624281642239937218680557139826668747 :=
  pockc 276602624281642239937218680557139826668747 2 19757330305831588566944191468367130476339 7 138 276602624281642239937218680557139826668746 14 39514660611663177133888382936734260952678 16384 52903442526015853514269520076809927482161 pri_l8 pri_l9 (by decide +kernel) (by decide +kernel) (by decide +kernel) (by decide +kernel) (by decide +kernel) (by decide +kernel) (by decide +kernel) (by decide +kernel) (by decide +kernel) (by decide +kernel) (by decide +kernel) (by decide +kernel) (by decide +kernel) (by decide +kernel)
theorem pri_L : Pri 7237005577332262213973186563042994240857116359379907606001950938285454250989 :=
  pockc 7237005577332262213973186563042994240857116359379907606001950938285454250989 2 276602624281642239937218680557139826668747 3 253 7237005577332262213973186563042994240857116359379907606001950938285454250988 26163907866482859529727157400808004 2412335192444087404657728854347664746952372119793302535333983646095151416996 2975531125133123119648879457563281269120703404158613135195788908093573672641 1570463851528226261927580272323658009530148727742783848239914322803198255651 pri_l10 pri_3 (by decide +kernel) (by decide +kernel) (by decide +kernel) (by decide +kernel) (by decide +kernel) (by decide +kernel) (by decide +kernel) (by decide +kernel) (by decide +kernel) (by decide +kernel) (by decide +kernel) (by decide +kernel) (by decide +kernel) (by decide +kernel)
end Go.Proofs.YtlpchgoaoglhcaaDoor
namespace Go.Proofs.YtlpchgoaoglhcaaDoor
def PP : Nat := 57896044618658097711785492504343953926634992332820282019728792003956564819949
instance : NeZero PP := ⟨by decide⟩
theorem PP_pos : 0 < PP := by decide
theorem pri_PP : Pri PP := pri_P
/-- Numbers modulo P. -/
abbrev Fp := Fin PP
theorem Fp.mul_v (a b : Fp) : (a * b).val = a.val * b.val % PP := rfl
theorem Fp.nz {a : Fp} (h : a ≠ 0) : ¬ PP ∣ a.val := fun hd => h (Fin.ext (Nat.eq_zero_of_dvd_of_lt hd a.isLt))
theorem Fp.one_ne : (1 : Fp) ≠ 0 := fun h => absurd (congrArg Fin.val h) (by decide +kernel)
theorem Fp.two_ne : (2 : Fp) ≠ 0 := fun h => absurd (congrArg Fin.val h) (by decide +kernel)
theorem Fp.nzd (a b : Fp) (h : a * b = 0) : a = 0 ∨ b = 0 := by
  have h1 : a.val * b.val % PP = 0 := by rw [← Fp.mul_v, h]; rfl
  have h2 : PP ∣ a.val * b.val := Nat.dvd_of_mod_eq_zero h1
  rcases pri_PP.euclid h2 with h3 | h3
  · exact .inl (Fin.ext (Nat.eq_zero_of_dvd_of_lt h3 a.isLt))
  · exact .inr (Fin.ext (Nat.eq_zero_of_dvd_of_lt h3 b.isLt))
theorem Fp.canc {a b : Fp} (ha : a ≠ 0) (h : a * b = 0) : b = 0 := (Fp.nzd a b h).resolve_left ha
theorem Fp.mul_ne {a b : Fp} (ha : a ≠ 0) (hb : b ≠ 0) : a * b ≠ 0 := fun h => (Fp.nzd a b h).elim ha hb
theorem Fp.eq_of_sub {a b : Fp} (h : a - b = 0) : a = b := by grind
theorem Fp.ex_inv (a : Fp) : ∃ b : Fp, a ≠ 0 → a * b = 1 := by
  refine ⟨⟨a.val ^ (PP - 2) % PP, Nat.mod_lt _ PP_pos⟩, fun h => Fin.ext ?_⟩
  rw [Fp.mul_v]
  show a.val * (a.val ^ (PP - 2) % PP) % PP = 1
  rw [Nat.mul_mod_mod, Nat.mul_comm, ← Nat.pow_succ, show (PP - 2).succ = PP - 1 from by decide +kernel]
  exact pri_PP.fermat (Fp.nz h)
/-- What undoes a product. -/
noncomputable def Fp.inv (a : Fp) : Fp := Classical.choose (Fp.ex_inv a)
theorem Fp.mul_inv {a : Fp} (h : a ≠ 0) : a * Fp.inv a = 1 := Classical.choose_spec (Fp.ex_inv a) h
/-- d. -/
def cD : Fp := ⟨37095705934669439343138083508754565189542113879843219016388785533085940283555, by decide⟩
/-- A root of - 1. -/
def cI : Fp := ⟨19681161376707505956807079304988542015446066515923890162744021073123829784752, by decide⟩
theorem I_I : cI * cI = -1 := Fin.ext (by decide +kernel)
theorem cD_ne : cD ≠ 0 := fun h => absurd (congrArg Fin.val h) (by decide +kernel)
/-- (P - 1) / 2. -/
def HE : Nat := 28948022309329048855892746252171976963317496166410141009864396001978282409974
theorem D_half : cD.val ^ HE % PP = PP - 1 :=
  pow_at cD.val HE PP (PP - 1) 255 (by decide +kernel) (by decide +kernel)
theorem D_nosq (u w : Fp) (h : w * w = cD * (u * u)) : u = 0 := Classical.byContradiction fun hu => by
  have hw : w ≠ 0 := fun hw => by
    have h1 : cD * (u * u) = 0 := by rw [← h, hw]; rfl
    exact Fp.mul_ne cD_ne (Fp.mul_ne hu hu) h1
  have e1 : w.val * w.val % PP = cD.val * (u.val * u.val) % PP := by
    have := congrArg Fin.val h
    simpa only [Fp.mul_v, Nat.mul_mod_mod] using this
  have fu := pri_PP.fermat (Fp.nz hu)
  have fw := pri_PP.fermat (Fp.nz hw)
  have hE : 2 * HE = PP - 1 := by decide +kernel
  have sq : ∀ a : Nat, (a * a) ^ HE = a ^ (PP - 1) := fun a => by
    rw [← hE, Nat.pow_mul, Nat.pow_two]
  have e2 : (w.val * w.val) ^ HE % PP = (cD.val * (u.val * u.val)) ^ HE % PP := by
    rw [Nat.pow_mod, e1, ← Nat.pow_mod]
  rw [sq, Nat.mul_pow, sq] at e2
  have e3 : w.val ^ (PP - 1) % PP = 1 := fw
  have e4 : u.val ^ (PP - 1) % PP = 1 := fu
  rw [e3, Nat.mul_mod, D_half, e4] at e2
  exact absurd e2 (by decide +kernel)
end Go.Proofs.YtlpchgoaoglhcaaDoor
namespace Go.Proofs.YtlpchgoaoglhcaaDoor
/-- On the curve. -/
def On (x y : Fp) : Prop := y * y - x * x = 1 + cD * (x * x * (y * y))
theorem denom {x1 y1 x2 y2 e : Fp} (h1 : On x1 y1) (h2 : On x2 y2) (he : e = cD * (x1 * x2 * (y1 * y2))) (hs : e * e = 1) : False := by
  unfold On at h1 h2
  have hi := I_I
  have k1 : x1 * y1 * (cI * x2 + y2) = 0 := D_nosq _ (cI * x1 + e * y1) (by grind)
  have k2 : x1 * y1 * (cI * x2 - y2) = 0 := D_nosq _ (cI * x1 - e * y1) (by grind)
  have k3 : 2 * (x1 * y1 * y2) = 0 := by grind
  have k4 := Fp.canc Fp.two_ne k3
  have k5 : e = 0 := by grind
  have k6 : (1 : Fp) = 0 := by grind
  exact Fp.one_ne k6
/-- A point. -/
structure Pt where
  x : Fp
  y : Fp
  on : On x y
theorem Pt.same {p q : Pt} (hx : p.x = q.x) (hy : p.y = q.y) : p = q := by
  cases p; cases q; cases hx; cases hy; rfl
def ee (x1 y1 x2 y2 : Fp) : Fp := cD * (x1 * x2 * (y1 * y2))
theorem denA (p q : Pt) : 1 + ee p.x p.y q.x q.y ≠ 0 := fun h =>
  denom (e := ee p.x p.y q.x q.y) p.on q.on rfl (by grind)
theorem denB (p q : Pt) : 1 - ee p.x p.y q.x q.y ≠ 0 := fun h =>
  denom (e := ee p.x p.y q.x q.y) p.on q.on rfl (by grind)
theorem ring1 (x y a b : Fp) : a * a * (b * b) * (y * y - x * x - (1 + cD * (x * x * (y * y)))) = y * b * (y * b) * (a * a) - x * a * (x * a) * (b * b) - a * a * (b * b) - cD * (x * a * (x * a) * (y * b * (y * b))) := by grind
theorem ring2 {x1 y1 x2 y2 : Fp} (h1 : On x1 y1) (h2 : On x2 y2) : (y1 * y2 + x1 * x2) * (y1 * y2 + x1 * x2) * ((1 + ee x1 y1 x2 y2) * (1 + ee x1 y1 x2 y2)) - (x1 * y2 + x2 * y1) * (x1 * y2 + x2 * y1) * ((1 - ee x1 y1 x2 y2) * (1 - ee x1 y1 x2 y2)) - (1 + ee x1 y1 x2 y2) * (1 + ee x1 y1 x2 y2) * ((1 - ee x1 y1 x2 y2) * (1 - ee x1 y1 x2 y2)) - cD * ((x1 * y2 + x2 * y1) * (x1 * y2 + x2 * y1) * ((y1 * y2 + x1 * x2) * (y1 * y2 + x1 * x2))) = 0 := by
  unfold On at *; unfold ee; grind
theorem on_add {x1 y1 x2 y2 x y : Fp} (h1 : On x1 y1) (h2 : On x2 y2) (hA : 1 + ee x1 y1 x2 y2 ≠ 0) (hB : 1 - ee x1 y1 x2 y2 ≠ 0)
    (hx : x * (1 + ee x1 y1 x2 y2) = x1 * y2 + x2 * y1) (hy : y * (1 - ee x1 y1 x2 y2) = y1 * y2 + x1 * x2) : On x y := by
  unfold On at *
  have k : (1 + ee x1 y1 x2 y2) * (1 + ee x1 y1 x2 y2) * ((1 - ee x1 y1 x2 y2) * (1 - ee x1 y1 x2 y2)) * (y * y - x * x - (1 + cD * (x * x * (y * y)))) = 0 := by
    have e1 : (1 + ee x1 y1 x2 y2) * (1 + ee x1 y1 x2 y2) * ((1 - ee x1 y1 x2 y2) * (1 - ee x1 y1 x2 y2)) * (y * y - x * x - (1 + cD * (x * x * (y * y)))) = (y1 * y2 + x1 * x2) * (y1 * y2 + x1 * x2) * ((1 + ee x1 y1 x2 y2) * (1 + ee x1 y1 x2 y2)) - (x1 * y2 + x2 * y1) * (x1 * y2 + x2 * y1) * ((1 - ee x1 y1 x2 y2) * (1 - ee x1 y1 x2 y2)) - (1 + ee x1 y1 x2 y2) * (1 + ee x1 y1 x2 y2) * ((1 - ee x1 y1 x2 y2) * (1 - ee x1 y1 x2 y2)) - cD * ((x1 * y2 + x2 * y1) * (x1 * y2 + x2 * y1) * ((y1 * y2 + x1 * x2) * (y1 * y2 + x1 * x2))) := by
      rw [← hx, ← hy]; exact ring1 x y (1 + ee x1 y1 x2 y2) (1 - ee x1 y1 x2 y2)
    rw [e1]; exact ring2 h1 h2
  have := Fp.canc (Fp.mul_ne (Fp.mul_ne hA hA) (Fp.mul_ne hB hB)) k
  exact Fp.eq_of_sub this
noncomputable def padd (p q : Pt) : Pt where
  x := (p.x * q.y + q.x * p.y) * Fp.inv (1 + ee p.x p.y q.x q.y)
  y := (p.y * q.y + p.x * q.x) * Fp.inv (1 - ee p.x p.y q.x q.y)
  on := on_add p.on q.on (denA p q) (denB p q) (by have := Fp.mul_inv (denA p q); grind) (by have := Fp.mul_inv (denB p q); grind)
theorem padd_x (p q : Pt) : (padd p q).x * (1 + ee p.x p.y q.x q.y) = p.x * q.y + q.x * p.y := by
  have := Fp.mul_inv (denA p q); simp only [padd]; grind
theorem padd_y (p q : Pt) : (padd p q).y * (1 - ee p.x p.y q.x q.y) = p.y * q.y + p.x * q.x := by
  have := Fp.mul_inv (denB p q); simp only [padd]; grind
theorem padd_of {p q r : Pt} (hx : r.x * (1 + ee p.x p.y q.x q.y) = p.x * q.y + q.x * p.y) (hy : r.y * (1 - ee p.x p.y q.x q.y) = p.y * q.y + p.x * q.x) : padd p q = r := by
  refine Pt.same (Fp.eq_of_sub (Fp.canc (denA p q) ?_)) (Fp.eq_of_sub (Fp.canc (denB p q) ?_))
  · have := padd_x p q; grind
  · have := padd_y p q; grind
theorem assoc_x {x1 y1 x2 y2 x3 y3 : Fp} (h1 : On x1 y1) (h2 : On x2 y2) (h3 : On x3 y3) :
  ((x1 * y2 + x2 * y1) * (1 - ee x1 y1 x2 y2) * y3 + x3 * ((y1 * y2 + x1 * x2) * (1 + ee x1 y1 x2 y2))) * ((1 + ee x2 y2 x3 y3) * (1 - ee x2 y2 x3 y3) + cD * (x1 * y1 * ((x2 * y3 + x3 * y2) * (y2 * y3 + x2 * x3))))
  - (x1 * ((y2 * y3 + x2 * x3) * (1 + ee x2 y2 x3 y3)) + (x2 * y3 + x3 * y2) * (1 - ee x2 y2 x3 y3) * y1) * ((1 + ee x1 y1 x2 y2) * (1 - ee x1 y1 x2 y2) + cD * ((x1 * y2 + x2 * y1) * (y1 * y2 + x1 * x2) * (x3 * y3))) = 0 := by
  unfold On at *; unfold ee; grind
theorem assoc_y {x1 y1 x2 y2 x3 y3 : Fp} (h1 : On x1 y1) (h2 : On x2 y2) (h3 : On x3 y3) :
  ((y1 * y2 + x1 * x2) * (1 + ee x1 y1 x2 y2) * y3 + (x1 * y2 + x2 * y1) * (1 - ee x1 y1 x2 y2) * x3) * ((1 + ee x2 y2 x3 y3) * (1 - ee x2 y2 x3 y3) - cD * (x1 * y1 * ((x2 * y3 + x3 * y2) * (y2 * y3 + x2 * x3))))
  - (y1 * ((y2 * y3 + x2 * x3) * (1 + ee x2 y2 x3 y3)) + x1 * ((x2 * y3 + x3 * y2) * (1 - ee x2 y2 x3 y3))) * ((1 + ee x1 y1 x2 y2) * (1 - ee x1 y1 x2 y2) - cD * ((x1 * y2 + x2 * y1) * (y1 * y2 + x1 * x2) * (x3 * y3))) = 0 := by
  unfold On at *; unfold ee; grind
theorem clear_x (x1 y1 x3 y3 u v s t A B A' B' l r : Fp) (hl : l * (1 + ee u v x3 y3) = u * y3 + x3 * v) (hr : r * (1 + ee x1 y1 s t) = x1 * t + s * y1) :
  A * B * (A' * B') * ((1 + ee u v x3 y3) * (1 + ee x1 y1 s t)) * (l - r) = (u * A * B * y3 + x3 * (v * B * A)) * (A' * B' + cD * (x1 * y1 * (s * A' * (t * B')))) - (x1 * (t * B' * A') + s * A' * B' * y1) * (A * B + cD * (u * A * (v * B) * (x3 * y3))) := by
  unfold ee at *; grind
theorem clear_y (x1 y1 x3 y3 u v s t A B A' B' l r : Fp) (hl : l * (1 - ee u v x3 y3) = v * y3 + u * x3) (hr : r * (1 - ee x1 y1 s t) = y1 * t + x1 * s) :
  A * B * (A' * B') * ((1 - ee u v x3 y3) * (1 - ee x1 y1 s t)) * (l - r) = (v * B * A * y3 + u * A * B * x3) * (A' * B' - cD * (x1 * y1 * (s * A' * (t * B')))) - (y1 * (t * B' * A') + x1 * (s * A' * B')) * (A * B - cD * (u * A * (v * B) * (x3 * y3))) := by
  unfold ee at *; grind
theorem padd_assoc (p q r : Pt) : padd (padd p q) r = padd p (padd q r) := by
  have nA := denA p q; have nB := denB p q; have nA' := denA q r; have nB' := denB q r
  have nz := Fp.mul_ne (Fp.mul_ne nA nB) (Fp.mul_ne nA' nB')
  refine Pt.same (Fp.eq_of_sub (Fp.canc (Fp.mul_ne nz (Fp.mul_ne (denA (padd p q) r) (denA p (padd q r)))) ?_)) (Fp.eq_of_sub (Fp.canc (Fp.mul_ne nz (Fp.mul_ne (denB (padd p q) r) (denB p (padd q r)))) ?_))
  · rw [clear_x p.x p.y r.x r.y _ _ _ _ _ _ _ _ _ _ (padd_x (padd p q) r) (padd_x p (padd q r)), padd_x, padd_y, padd_x, padd_y]
    exact assoc_x p.on q.on r.on
  · rw [clear_y p.x p.y r.x r.y _ _ _ _ _ _ _ _ _ _ (padd_y (padd p q) r) (padd_y p (padd q r)), padd_x, padd_y, padd_x, padd_y]
    exact assoc_y p.on q.on r.on
theorem padd_comm (p q : Pt) : padd p q = padd q p := by
  have h : ee p.x p.y q.x q.y = ee q.x q.y p.x p.y := by unfold ee; grind
  refine padd_of ?_ ?_
  · rw [h, padd_x]; grind
  · rw [h, padd_y]; grind
def pzero : Pt := ⟨0, 1, by unfold On; grind⟩
def pneg (p : Pt) : Pt := ⟨-p.x, p.y, by have := p.on; unfold On at *; grind⟩
theorem padd_zero (p : Pt) : padd p pzero = p := padd_of (by simp only [pzero, ee]; grind) (by simp only [pzero, ee]; grind)
theorem padd_neg (p : Pt) : padd p (pneg p) = pzero := padd_of (by simp only [pzero, pneg, ee]; grind) (by have := p.on; simp only [On, pzero, pneg, ee] at *; grind)
/-- So often. -/
noncomputable def ptimes : Nat → Pt → Pt
  | 0, _ => pzero
  | k + 1, p => padd (ptimes k p) p
theorem zero_padd (p : Pt) : padd pzero p = p := by rw [padd_comm, padd_zero]
theorem ptimes_add (a b : Nat) (p : Pt) : ptimes (a + b) p = padd (ptimes a p) (ptimes b p) := by
  induction b with
  | zero => exact (padd_zero _).symm
  | succ b ih => show padd (ptimes (a + b) p) p = padd (ptimes a p) (padd (ptimes b p) p); rw [ih, padd_assoc]
theorem ptimes_zero (a : Nat) : ptimes a pzero = pzero := by
  induction a with
  | zero => rfl
  | succ a ih => show padd _ _ = _; rw [ih, padd_zero]
theorem ptimes_mul (a b : Nat) (p : Pt) : ptimes (a * b) p = ptimes a (ptimes b p) := by
  induction a with
  | zero => rw [Nat.zero_mul]; rfl
  | succ a ih => rw [Nat.succ_mul, ptimes_add, ih]; rfl
theorem ptimes_one (p : Pt) : ptimes 1 p = p := zero_padd p
theorem ptimes_padd (a : Nat) (p q : Pt) : ptimes a (padd p q) = padd (ptimes a p) (ptimes a q) := by
  induction a with
  | zero => exact (padd_zero _).symm
  | succ a ih =>
    have e : padd (padd (ptimes a p) (ptimes a q)) (padd p q) = padd (padd (ptimes a p) p) (padd (ptimes a q) q) :=
      (padd_assoc _ _ _).trans ((congrArg (padd (ptimes a p)) ((padd_assoc _ _ _).symm.trans ((congrArg (fun x => padd x q) (padd_comm (ptimes a q) p)).trans (padd_assoc _ _ _)))).trans (padd_assoc _ _ _).symm)
    exact (congrArg (fun x => padd x (padd p q)) ih).trans e
theorem padd_cancel {p q r : Pt} (h : padd p r = padd q r) : p = q := by
  have := congrArg (fun x => padd x (pneg r)) h
  simpa only [padd_assoc, padd_neg, padd_zero] using this
end Go.Proofs.YtlpchgoaoglhcaaDoor
namespace Go.Proofs.YtlpchgoaoglhcaaDoor
/-- The four numbers stand for the point. -/
structure Rep (x y z t : Fp) (p : Pt) : Prop where
  z0 : z ≠ 0
  hx : x = p.x * z
  hy : y = p.y * z
  ht : t = p.x * p.y * z
theorem rep_of {xn yn xd yd : Fp} {p : Pt} (h1 : xd ≠ 0) (h2 : yd ≠ 0) (hx : xn = p.x * xd) (hy : yn = p.y * yd) : Rep (xn * yd) (yn * xd) (xd * yd) (xn * yn) p :=
  ⟨Fp.mul_ne h1 h2, by grind, by grind, by grind⟩
theorem ne_two {z w e : Fp} (h1 : z ≠ 0) (h2 : w ≠ 0) (h3 : e ≠ 0) : 2 * (z * w) * e ≠ 0 := Fp.mul_ne (Fp.mul_ne Fp.two_ne (Fp.mul_ne h1 h2)) h3
theorem Rep.sum {x y z t x' y' z' t' : Fp} {p q : Pt} (h : Rep x y z t p) (h' : Rep x' y' z' t' q) :
    Rep (((y + x) * (y' + x') - (y - x) * (y' - x')) * ((z * z' + z * z') - (cD * (t * t') + cD * (t * t')))) (((y + x) * (y' + x') + (y - x) * (y' - x')) * ((z * z' + z * z') + (cD * (t * t') + cD * (t * t'))))
      (((z * z' + z * z') + (cD * (t * t') + cD * (t * t'))) * ((z * z' + z * z') - (cD * (t * t') + cD * (t * t')))) (((y + x) * (y' + x') - (y - x) * (y' - x')) * ((y + x) * (y' + x') + (y - x) * (y' - x'))) (padd p q) := by
  obtain ⟨z0, hx, hy, ht⟩ := h
  obtain ⟨z0', hx', hy', ht'⟩ := h'
  have eA : (z * z' + z * z') + (cD * (t * t') + cD * (t * t')) = 2 * (z * z') * (1 + ee p.x p.y q.x q.y) := by unfold ee; grind
  have eB : (z * z' + z * z') - (cD * (t * t') + cD * (t * t')) = 2 * (z * z') * (1 - ee p.x p.y q.x q.y) := by unfold ee; grind
  have kx := padd_x p q
  have ky := padd_y p q
  refine rep_of ?_ ?_ ?_ ?_
  · rw [eA]; exact ne_two z0 z0' (denA p q)
  · rw [eB]; exact ne_two z0 z0' (denB p q)
  · have e : (y + x) * (y' + x') - (y - x) * (y' - x') = 2 * (z * z') * (p.x * q.y + q.x * p.y) := by subst hx hy hx' hy'; grind
    rw [eA, e, ← kx]; grind
  · have e : (y + x) * (y' + x') + (y - x) * (y' - x') = 2 * (z * z') * (p.y * q.y + p.x * q.x) := by subst hx hy hx' hy'; grind
    rw [eB, e, ← ky]; grind
theorem Rep.dbl {x y z t : Fp} {p : Pt} (h : Rep x y z t p) :
    Rep (((x + y) * (x + y) - (y * y + x * x)) * ((z * z + z * z) - (y * y - x * x))) ((y * y + x * x) * (y * y - x * x)) ((y * y - x * x) * ((z * z + z * z) - (y * y - x * x))) (((x + y) * (x + y) - (y * y + x * x)) * (y * y + x * x)) (padd p p) := by
  obtain ⟨z0, hx, hy, ht⟩ := h
  have on := p.on
  unfold On at on
  have eA : y * y - x * x = z * z * (1 + ee p.x p.y p.x p.y) := by unfold ee; grind
  have eB : (z * z + z * z) - (y * y - x * x) = z * z * (1 - ee p.x p.y p.x p.y) := by rw [eA]; grind
  have kx := padd_x p p
  have ky := padd_y p p
  refine rep_of ?_ ?_ ?_ ?_
  · rw [eA]; exact Fp.mul_ne (Fp.mul_ne z0 z0) (denA p p)
  · rw [eB]; exact Fp.mul_ne (Fp.mul_ne z0 z0) (denB p p)
  · have e : (x + y) * (x + y) - (y * y + x * x) = z * z * (p.x * p.y + p.x * p.y) := by subst hx hy; grind
    rw [eA, e, ← kx]; grind
  · have e : y * y + x * x = z * z * (p.y * p.y + p.x * p.x) := by subst hx hy; grind
    rw [eB, e, ← ky]; grind
theorem rep_zero : Rep 0 1 1 0 pzero := ⟨Fp.one_ne, by simp only [pzero]; grind, by simp only [pzero]; grind, by simp only [pzero]; grind⟩
theorem rep_flat (p : Pt) : Rep p.x p.y 1 (p.x * p.y) p := ⟨Fp.one_ne, by grind, by grind, by grind⟩
theorem Rep.same {x y z t : Fp} {p q : Pt} (h : Rep x y z t p) (h' : Rep x y z t q) : p = q := by
  have h1 := h.z0
  refine Pt.same (Fp.eq_of_sub (Fp.canc h1 ?_)) (Fp.eq_of_sub (Fp.canc h1 ?_))
  · have := h.hx; have := h'.hx; grind
  · have := h.hy; have := h'.hy; grind
/-- By numbers alone. -/
def fp (n : Nat) : Fp := Fin.ofNat PP n
theorem fp_mul (a b : Nat) : fp (a * b % PP) = fp a * fp b := Fin.ext (by show a * b % PP % PP = a % PP * (b % PP) % PP; rw [Nat.mod_mod, ← Nat.mul_mod])
theorem fp_add (a b : Nat) : fp (a + b) = fp a + fp b := Fin.ext (by show (a + b) % PP = (a % PP + b % PP) % PP; rw [← Nat.add_mod])
theorem fp_sub (a b : Nat) (h : b ≤ PP) : fp (a + (PP - b)) = fp a - fp b := by
  have e : fp (a + (PP - b)) + fp b = fp a := by rw [← fp_add, Nat.add_assoc, Nat.sub_add_cancel h]; exact Fin.ext (Nat.add_mod_right a PP)
  grind
theorem fp_val (a : Fp) : fp a.val = a := Fin.ext (Nat.mod_eq_of_lt a.isLt)
abbrev Q := Nat × Nat × Nat × Nat
def qm (a b : Nat) : Nat := a * b % PP
def qsum (a b : Q) : Q :=
  match a, b with
  | (x, y, z, t), (x', y', z', t') =>
    let m := qm (y + (PP - x)) (y' + (PP - x'))
    let s := qm (y + x) (y' + x')
    let w := qm z (2 * z')
    let c := qm (2 * 37095705934669439343138083508754565189542113879843219016388785533085940283555) (qm t t')
    let e := s + (PP - m)
    let f := w + (PP - c)
    let g := w + c
    let h := s + m
    (qm e f, qm h g, qm g f, qm e h)
def qtimes (p : Q) : Nat → Nat → Q
  | 0, _ => (0, 1, 1, 0)
  | f + 1, k =>
    let h := qtimes p f (k / 2)
    let h2 := qsum h h
    if k % 2 = 1 then qsum h2 p else h2
def QRep (a : Q) (p : Pt) : Prop := (a.1 ≤ PP ∧ a.2.1 ≤ PP ∧ a.2.2.1 ≤ PP ∧ a.2.2.2 ≤ PP) ∧ Rep (fp a.1) (fp a.2.1) (fp a.2.2.1) (fp a.2.2.2) p
theorem qm_le (a b : Nat) : qm a b ≤ PP := Nat.le_of_lt (Nat.mod_lt _ PP_pos)
theorem fp_qm (a b : Nat) : fp (qm a b) = fp a * fp b := fp_mul a b
theorem fp_two (a : Nat) : fp (2 * a) = fp a + fp a := by rw [Nat.two_mul, fp_add]
theorem fp_D : fp 37095705934669439343138083508754565189542113879843219016388785533085940283555 = cD := fp_val cD
theorem QRep.sum {a b : Q} {p q : Pt} (h : QRep a p) (h' : QRep b q) : QRep (qsum a b) (padd p q) := by
  obtain ⟨x, y, z, t⟩ := a
  obtain ⟨x', y', z', t'⟩ := b
  obtain ⟨⟨b1, b2, b3, b4⟩, h⟩ := h
  obtain ⟨⟨c1, c2, c3, c4⟩, h'⟩ := h'
  refine ⟨⟨qm_le _ _, qm_le _ _, qm_le _ _, qm_le _ _⟩, ?_⟩
  have k := h.sum h'
  have hw : fp (qm z (2 * z')) = fp z * fp z' + fp z * fp z' := by rw [fp_qm, fp_two]; grind
  have hc : fp (qm (2 * 37095705934669439343138083508754565189542113879843219016388785533085940283555) (qm t t')) = cD * (fp t * fp t') + cD * (fp t * fp t') := by rw [fp_qm, fp_qm, fp_two, fp_D]; grind
  have hm : fp (qm (y + (PP - x)) (y' + (PP - x'))) = (fp y - fp x) * (fp y' - fp x') := by rw [fp_qm, fp_sub _ _ b1, fp_sub _ _ c1]
  have hs : fp (qm (y + x) (y' + x')) = (fp y + fp x) * (fp y' + fp x') := by rw [fp_qm, fp_add, fp_add]
  simp only [qsum]
  generalize qm z (2 * z') = w at hw ⊢
  generalize hcc : qm (2 * 37095705934669439343138083508754565189542113879843219016388785533085940283555) (qm t t') = c at hc ⊢
  generalize hmm : qm (y + (PP - x)) (y' + (PP - x')) = m at hm ⊢
  generalize qm (y + x) (y' + x') = s at hs ⊢
  have lc : c ≤ PP := hcc ▸ qm_le _ _
  have lm : m ≤ PP := hmm ▸ qm_le _ _
  simp only [fp_qm, fp_sub _ _ lc, fp_sub _ _ lm, fp_add]
  rw [hw, hc, hm, hs]
  exact k
theorem qtimes_rep {a : Q} {p : Pt} (h : QRep a p) : ∀ f k, k < 2 ^ f → QRep (qtimes a f k) (ptimes k p)
  | 0, k, hk => by
    have : k = 0 := by omega
    subst this
    exact ⟨⟨Nat.zero_le _, PP_pos, PP_pos, Nat.zero_le _⟩, rep_zero⟩
  | f + 1, k, hk => by
    have ih := qtimes_rep h f (k / 2) (by rw [Nat.pow_succ] at hk; omega)
    have h2 := ih.sum ih
    rw [← ptimes_add] at h2
    simp only [qtimes]
    by_cases hb : k % 2 = 1
    · rw [if_pos hb]
      have h3 := h2.sum h
      have e : k = k / 2 + k / 2 + 1 := by omega
      have e2 : padd (ptimes (k / 2 + k / 2) p) p = ptimes k p := (congrArg (fun n => ptimes n p) e).symm
      rw [e2] at h3
      exact h3
    · rw [if_neg hb]
      have e : k / 2 + k / 2 = k := by omega
      rw [e] at h2
      exact h2
/-- L. -/
def LL : Nat := 7237005577332262213973186563042994240857116359379907606001950938285454250989
/-- Base. -/
def cB : Pt := ⟨⟨15112221349535400772501151409588531511454012693041857206046113283949847762202, by decide⟩, ⟨46316835694926478169428394003475163141307993866256225615783033603165251855960, by decide⟩, Fin.ext (by decide +kernel)⟩
/-- A point that comes to nothing eightfold, and no less. -/
def cT : Pt := ⟨⟨14399317868200118260347934320527232580618823971194345261214217575416788799818, by decide⟩, ⟨55188659117513257062467267217118295137698188065244968500265048394206261417927, by decide⟩, Fin.ext (by decide +kernel)⟩
def qB : Q := (15112221349535400772501151409588531511454012693041857206046113283949847762202, 46316835694926478169428394003475163141307993866256225615783033603165251855960, 1, 46827403850823179245072216630277197565144205554125654976674165829533817101731)
def qT : Q := (14399317868200118260347934320527232580618823971194345261214217575416788799818, 55188659117513257062467267217118295137698188065244968500265048394206261417927, 1, 49249569669750663008941572433996126643240416652669157144375776867115012622209)
theorem qB_rep : QRep qB cB := ⟨⟨by decide, by decide, by decide, by decide⟩, by
  have := rep_flat cB
  rwa [show cB.x * cB.y = fp 46827403850823179245072216630277197565144205554125654976674165829533817101731 from Fin.ext (by decide +kernel)] at this⟩
theorem qT_rep : QRep qT cT := ⟨⟨by decide, by decide, by decide, by decide⟩, by
  have := rep_flat cT
  rwa [show cT.x * cT.y = fp 49249569669750663008941572433996126643240416652669157144375776867115012622209 from Fin.ext (by decide +kernel)] at this⟩
theorem QRep.zero {a : Q} {p : Pt} (h : QRep a p) (h0 : a.1 % PP = 0) (h1 : a.2.1 % PP = a.2.2.1 % PP) : p = pzero := by
  obtain ⟨_, z0, hx, hy, _⟩ := h
  have e0 : fp a.1 = 0 := Fin.ext h0
  have e1 : fp a.2.1 = fp a.2.2.1 := Fin.ext h1
  refine Pt.same (Fp.eq_of_sub (Fp.canc z0 ?_)) (Fp.eq_of_sub (Fp.canc z0 ?_))
  · simp only [pzero]; grind
  · simp only [pzero]; grind
theorem QRep.not_zero {a : Q} {p : Pt} (h : QRep a p) (h0 : a.1 % PP ≠ 0) : p ≠ pzero := fun hp => by
  obtain ⟨_, z0, hx, hy, _⟩ := h
  apply h0
  have : fp a.1 = 0 := by rw [hx, hp]; simp only [pzero]; grind
  exact congrArg Fin.val this
theorem QRep.no_zero {a : Q} {p : Pt} (h : QRep a p) (h0 : a.2.1 % PP ≠ a.2.2.1 % PP) : p ≠ pzero := fun hp => by
  obtain ⟨_, z0, hx, hy, _⟩ := h
  apply h0
  have : fp a.2.1 = fp a.2.2.1 := by rw [hy, hp]; simp only [pzero]; grind
  exact congrArg Fin.val this
theorem LB : ptimes LL cB = pzero := (qtimes_rep qB_rep 253 LL (by decide +kernel)).zero (by decide +kernel) (by decide +kernel)
theorem B_ne : cB ≠ pzero := qB_rep.not_zero (by decide +kernel)
theorem T8 : ptimes 8 cT = pzero := (qtimes_rep qT_rep 4 8 (by decide)).zero (by decide +kernel) (by decide +kernel)
theorem T4 : ptimes 4 cT ≠ pzero := (qtimes_rep qT_rep 3 4 (by decide)).no_zero (by decide +kernel)
end Go.Proofs.YtlpchgoaoglhcaaDoor
namespace Go.Proofs.YtlpchgoaoglhcaaDoor
theorem one_of {c y z : Fp} (hy : y = 0) (h : c * (y * y) + 1 = z) : 1 = z := by grind
/-- d y y + 1 is not nought. -/
theorem div_ne (y : Fp) : cD * (y * y) + 1 ≠ 0 := fun h => by
  have hi := I_I
  have h1 : cI * cI = cD * (y * y) := by grind
  have h2 := D_nosq _ _ h1
  exact Fp.one_ne (one_of h2 h)
theorem on_sq {x y : Fp} (h : On x y) : x * x * (cD * (y * y) + 1) = y * y - 1 := by unfold On at h; grind
theorem same_or {p q : Pt} (h : p.y = q.y) : p.x = q.x ∨ p.x = - q.x := by
  have h1 := on_sq p.on
  have h2 := on_sq q.on
  rw [h] at h1
  have h3 : (cD * (q.y * q.y) + 1) * ((p.x - q.x) * (p.x + q.x)) = 0 := by grind
  rcases Fp.nzd _ _ (Fp.canc (div_ne _) h3) with h4 | h4
  · exact .inl (Fp.eq_of_sub h4)
  · exact .inr (by grind)
theorem neg_v (a : Fp) : (-a).val = (PP - a.val) % PP := rfl
theorem par_neg {a : Fp} (h : (-a).val % 2 = a.val % 2) : a = 0 := by
  have h1 := a.isLt
  rw [neg_v] at h
  have h2 : PP % 2 = 1 := by decide
  by_cases h0 : a.val = 0
  · exact Fin.ext h0
  · have h4 : PP - a.val < PP := by have := PP_pos; omega
    rw [Nat.mod_eq_of_lt h4] at h
    have h5 : a.val ≤ PP := Nat.le_of_lt h1
    omega
theorem same_par {p q : Pt} (h : p.y = q.y) (hx : p.x.val % 2 = q.x.val % 2) : p = q := by
  rcases same_or h with e | e
  · exact Pt.same e h
  · rw [e] at hx
    have := par_neg hx
    refine Pt.same ?_ h
    rw [e, this]; decide +kernel
theorem ptimes_sub {a b : Nat} {p : Pt} (h : a ≤ b) (e : ptimes a p = ptimes b p) : ptimes (b - a) p = pzero := by
  apply padd_cancel (r := ptimes a p)
  rw [zero_padd, ← ptimes_add, Nat.sub_add_cancel h]
  exact e.symm
theorem ptimes_rest {p : Pt} {n : Nat} (h : ptimes n p = pzero) (a : Nat) : ptimes (a % n) p = ptimes a p := by
  have e : a = a / n * n + a % n := by rw [Nat.mul_comm]; exact (Nat.div_add_mod a n).symm
  have e2 : ptimes a p = ptimes (a / n * n + a % n) p := congrArg (fun k => ptimes k p) e
  rw [e2, ptimes_add, ptimes_mul, h, ptimes_zero, zero_padd]
theorem LL_pri : Pri LL := pri_L
/-- Base comes to nothing just at the multiples of L. -/
theorem B_order {m : Nat} (h : ptimes m cB = pzero) : LL ∣ m := Classical.byContradiction fun hn => by
  have hc := LL_pri.cop hn
  have h1 : ptimes (Nat.gcd LL m) cB = pzero := by
    have : ∀ a b : Nat, ptimes a cB = pzero → ptimes b cB = pzero → ptimes (Nat.gcd a b) cB = pzero := by
      intro a b
      induction a, b using Nat.gcd.induction with
      | H0 n => intro _ hb; rw [Nat.gcd_zero_left]; exact hb
      | H1 m n hm ih =>
        intro ha hb
        rw [Nat.gcd_rec]
        exact ih (by rw [ptimes_rest ha]; exact hb) ha
    exact this _ _ LB h
  rw [hc, ptimes_one] at h1
  exact B_ne h1
/-- The points that Base and the point of eight make. -/
noncomputable def hpt (i j : Nat) : Pt := padd (ptimes i cB) (ptimes j cT)
theorem h8 (i j : Nat) : ptimes 8 (hpt i j) = ptimes (8 * i) cB := by
  unfold hpt
  rw [ptimes_padd, ← ptimes_mul, ← ptimes_mul 8 j, Nat.mul_comm 8 j, ptimes_mul j 8, T8, ptimes_zero, padd_zero]
end Go.Proofs.YtlpchgoaoglhcaaDoor
