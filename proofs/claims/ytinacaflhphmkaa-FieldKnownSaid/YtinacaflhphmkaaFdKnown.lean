/-
  FieldKnown: what chapter 7 says of P itself, of all bits, of nought.
  Conditions: none.
-/
import Derived.Test.YtinacaflhphmkaaFdAw
import Derived.Test.YtinacaflhphmkaaFdNum
import Derived.Test.YtinacaflhphmkaaFdO
namespace Go.Proofs.Ytinacaflhphmkaa
open Go.RowKit

open Go.ChangeShapes Go.WideShapes Go.ChangeAt
def ff (_ : Nat) : UInt8 := 255
def allL : List UInt8 := (List.range 32).map ff
def pL : List UInt8 := (allL.set 0 237).set 31 127
theorem allL_len : allL.length = 32 := by decide
theorem pL_len : pL.length = 32 := by decide
theorem le_all : le allL = 115792089237316195423570985008687907853269984665640564039457584007913129639935 := by decide +kernel
theorem le_p : le pL = 57896044618658097711785492504343953926634992332820282019728792003956564819949 := by decide +kernel
theorem run_indexN (o : Oper) (ax : Act) (x : Operand) (i : Nat) (ho : o.op = .index 24 x (.const (.int .i64 i))) (l : List UInt8) (hx : ax.eval x = .agg (byteVals l).toArray) (hl : l.length = 32) (hi : i < 32) (v : Nat) (hv : (l.getD i 0).toNat = v) (w : World) :
    (execOp ax.eval o).run Try.prog w = .ok (.value (.int .u8 (v : Int))) w := by
  unfold execOp
  have hc : ax.eval (.const (.int .i64 i)) = .int .i64 i := rfl
  simp only [ho, hx, hc]
  have := index_arr (P := Try.prog) w 24 5 32 (byteVals l).toArray .i64 i (.int .u8 ((l.getD i 0).toNat : Int)) Try.underlying24 (by kernel_rfl) (by kernel_rfl) hi (byteVals_get l i (by rw [hl]; exact hi))
  rw [Sem.run_bind, this, hv]
  rfl
set_option maxRecDepth 100000 in
set_option maxHeartbeats 1000000 in
theorem fieldKnown_true (w : World) :
    Calls Try.prog 3 #[] w fun e w' => e = .returned (.bool true) ∧ Below w.heap.size w w' := by
  have hz := zN
  go_enter Try.func3, Try.ntmps3
  go_upto_region 1 with fail
  go_wp2_with fail
  refine (awake_any _).mono ?_
  rintro e wa ⟨rfl, hba⟩
  have HBA := Lib.hid hba
  clear hba
  go_upto_region 4 with fail
  generalize hW1 : World.alloc _ _ = W1
  obtain ⟨N, hN⟩ : ∃ n, w.heap.size = n := ⟨_, rfl⟩
  obtain ⟨M0, hM⟩ : ∃ n, wa.heap.size = n := ⟨_, rfl⟩
  have HC0 := Lib.hid (show BT W1 M0 24 ((List.range 0).map ff ++ zerB (32 - 0)) by subst hW1; rw [← hM]; exact (alloc2_at wa _ _).1)
  have HC1 := Lib.hid (show BT W1 (M0 + 1) 24 ((List.range 0).map ff ++ zerB (32 - 0)) by subst hW1; rw [← hM]; exact (alloc2_at wa _ _).2)
  have HNM := Lib.hid (show N ≤ M0 by rw [← hN, ← hM]; exact HBA.out.size)
  have HB := Lib.hid (show Below N w W1 by subst hW1; rw [← hN]; exact (HBA.out.alloc HBA.out.size _).alloc (by have := HBA.out.size; simp; omega) _)
  have HN := Lib.hid hN
  rw [hM]
  clear hW1 hN hM HBA
  go_wp2_with fail
  go_loopw [3] (fun iv wr => ∃ (k : Nat), iv = .int .i64 k ∧ k ≤ 32 ∧ BT wr M0 24 ((List.range k).map ff ++ zerB (32 - k)) ∧ BT wr (M0 + 1) 24 ((List.range k).map ff ++ zerB (32 - k)) ∧ Below N w wr) (fun i _ => 32 - (intOf i).toNat)
  case atStart => exact ⟨0, rfl, Nat.zero_le _, HC0.out, HC1.out, HB.out⟩
  case round =>
    obtain ⟨k, rfl, hk, hr0, hr1, hbel⟩ := hrel
    have HA0 := Lib.hid hr0
    have HA1 := Lib.hid hr1
    have HBE := Lib.hid hbel
    clear hr0 hr1 hbel HC0 HC1 HB
    by_cases hlt : k < 32
    · have hlt' : (k : Int) < 32 := by omega
      have HS := Lib.hid (show ((List.range k).map ff ++ zerB (32 - k)).set k (ff k) = (List.range (k + 1)).map ff ++ zerB (32 - (k + 1)) by
        rw [show 32 - k = (32 - (k + 1)) + 1 by omega]
        exact fill_set ff 0 k (32 - (k + 1)))
      have f0 := HA0.out.frozen k
      have c0 := HA0.out.cell (i := k) (by simp only [List.length_append, List.length_map, List.length_range, zerB_len]; omega)
      have f1 := HA1.out.frozen k
      have c1 := HA1.out.cell (i := k) (by simp only [List.length_append, List.length_map, List.length_range, zerB_len]; omega)
      generalize ((List.range k).map ff ++ zerB (32 - k)).getD k 0 = oo at c0 c1
      go_wp2_with fail
      go_roundw
      case rel => exact ⟨k + 1, rfl, hlt, by rw [← HS.out]; exact (HA0.out.set (ff k)).other (setCell_other _ (by omega)), by rw [← HS.out]; exact (HA1.out.other (setCell_other _ (by omega))).set (ff k), (HBE.out.setCell (p := ⟨M0, k, none⟩) HNM.out _).setCell (p := ⟨M0 + 1, k, none⟩) (by show N ≤ M0 + 1; have := HNM.out; omega) _⟩
      case measure => simp [intOf]; omega
    · have hlt' : ¬ (k : Int) < 32 := by omega
      obtain rfl : k = 32 := by omega
      have HD0 := Lib.hid (show BT wr M0 24 allL from HA0.out)
      have HD1 := Lib.hid (show BT wr (M0 + 1) 24 allL from HA1.out)
      have f0 := HD1.out.frozen 0
      have f31 := HD1.out.frozen 31
      have c0 := HD1.out.cell (i := 0) (by decide)
      have c31 := HD1.out.cell (i := 31) (by decide)
      have s1 := HD1.out.set (i := 0) 237
      have s2 := s1.set (i := 31) 127
      have HP2 := Lib.hid (show BT _ (M0 + 1) 24 pL from s2)
      clear s1 s2 HA0 HA1 HD1
      go_upto_region 9 with fail
      generalize hW8 : World.setCell _ _ _ = W8
      have HM1 := Lib.hid (show BT W8 (M0 + 1) 24 pL by subst hW8; exact HP2.out)
      have HM0 := Lib.hid (show BT W8 M0 24 allL by subst hW8; exact (HD0.out.other (setCell_other _ (by omega))).other (setCell_other _ (by omega)))
      have HB := Lib.hid (show Below N w W8 by subst hW8; exact (HBE.out.setCell (p := ⟨M0 + 1, 0, none⟩) (by show N ≤ M0 + 1; have := HNM.out; omega) _).setCell (p := ⟨M0 + 1, 31, none⟩) (by show N ≤ M0 + 1; have := HNM.out; omega) _)
      clear hW8 HP2 HD0 HBE c0 c31 f0 f31
      obtain ⟨M1, hM1⟩ : ∃ m, M0 + 1 = m := ⟨_, rfl⟩
      rw [hM1] at HM1 ⊢
      clear hM1 HNM
      obtain ⟨al, hal⟩ : ∃ l, allL = l := ⟨_, rfl⟩
      have HLA := Lib.hid (show al.length = 32 by rw [← hal]; exact allL_len)
      have HVA := Lib.hid (show le al = 115792089237316195423570985008687907853269984665640564039457584007913129639935 by rw [← hal]; exact le_all)
      obtain ⟨pq, hpq⟩ : ∃ l, pL = l := ⟨_, rfl⟩
      have HLP := Lib.hid (show pq.length = 32 by rw [← hpq]; exact pL_len)
      have HVP := Lib.hid (show le pq = 57896044618658097711785492504343953926634992332820282019728792003956564819949 by rw [← hpq]; exact le_p)
      rw [hal] at HM0
      rw [hpq] at HM1
      clear hal hpq
      obtain ⟨rH1, hrH1⟩ : ∃ r, b32 1 = r := ⟨_, rfl⟩
      have HQH1 : Hid (∀ w, Calls Try.prog 11 #[.int .u64 1] w fun e w' => e = .returned (.agg (byteVals rH1).toArray) ∧ Below w.heap.size w w') := Lib.hid (fun w => by have := Of_any 1 w (by decide); rw [hrH1] at this; exact this)
      have HLH1 := Lib.hid (show rH1.length = 32 by rw [← hrH1]; exact b32_len _)
      have HVH1 := Lib.hid (show le rH1 = 1 by rw [← hrH1]; exact le_b32 _ (by decide))
      clear hrH1
      obtain ⟨rH2, hrH2⟩ : ∃ r, b32 (fSub (le pq) (le rH1)) = r := ⟨_, rfl⟩
      have HQH2 := Lib.hid (fun w => Sub_any pq rH1 w HLP.out HLH1.out)
      rw [hrH2] at HQH2
      have HLH2 := Lib.hid (show rH2.length = 32 by rw [← hrH2]; exact b32_len _)
      have HVH2 := Lib.hid (show le rH2 = fSub (le pq) (le rH1) by rw [← hrH2]; exact le_b32 _ (lt4 (fSub_lt _ _ )))
      clear hrH2
      obtain ⟨rH3, hrH3⟩ : ∃ r, b32 (fRoot (le rH2)).1 = r := ⟨_, rfl⟩
      have HQH3 := Lib.hid (fun w => Root_any rH2 w HLH2.out)
      rw [hrH3, show (fRoot (le rH2)).2 = true from (by simp only [HVP.out, HVH1.out, HVH2.out]; decide +kernel)] at HQH3
      have HLH3 := Lib.hid (show rH3.length = 32 by rw [← hrH3]; exact b32_len _)
      have HVH3 := Lib.hid (show le rH3 = (fRoot (le rH2)).1 by rw [← hrH3]; exact le_b32 _ (lt4 (fRoot_lt _)))
      clear hrH3
      obtain ⟨rH4, hrH4⟩ : ∃ r, b32 2 = r := ⟨_, rfl⟩
      have HQH4 : Hid (∀ w, Calls Try.prog 11 #[.int .u64 2] w fun e w' => e = .returned (.agg (byteVals rH4).toArray) ∧ Below w.heap.size w w') := Lib.hid (fun w => by have := Of_any 2 w (by decide); rw [hrH4] at this; exact this)
      have HLH4 := Lib.hid (show rH4.length = 32 by rw [← hrH4]; exact b32_len _)
      have HVH4 := Lib.hid (show le rH4 = 2 by rw [← hrH4]; exact le_b32 _ (by decide))
      clear hrH4
      obtain ⟨rH5, hrH5⟩ : ∃ r, b32 (fRoot (le rH4)).1 = r := ⟨_, rfl⟩
      have HQH5 := Lib.hid (fun w => Root_any rH4 w HLH4.out)
      rw [hrH5, show (fRoot (le rH4)).2 = false from (by simp only [HVH4.out]; decide +kernel)] at HQH5
      have HLH5 := Lib.hid (show rH5.length = 32 by rw [← hrH5]; exact b32_len _)
      have HVH5 := Lib.hid (show le rH5 = (fRoot (le rH4)).1 by rw [← hrH5]; exact le_b32 _ (lt4 (fRoot_lt _)))
      clear hrH5
      obtain ⟨rH6, hrH6⟩ : ∃ r, b32 (fRoot (le pq)).1 = r := ⟨_, rfl⟩
      have HQH6 := Lib.hid (fun w => Root_any pq w HLP.out)
      rw [hrH6, show (fRoot (le pq)).2 = true from (by simp only [HVP.out]; decide +kernel)] at HQH6
      have HLH6 := Lib.hid (show rH6.length = 32 by rw [← hrH6]; exact b32_len _)
      have HVH6 := Lib.hid (show le rH6 = (fRoot (le pq)).1 by rw [← hrH6]; exact le_b32 _ (lt4 (fRoot_lt _)))
      clear hrH6
      obtain ⟨rH7, hrH7⟩ : ∃ r, b32 (fAdd (le al) (le al)) = r := ⟨_, rfl⟩
      have HQH7 := Lib.hid (fun w => Add_any al al w HLA.out HLA.out)
      rw [hrH7] at HQH7
      have HLH7 := Lib.hid (show rH7.length = 32 by rw [← hrH7]; exact b32_len _)
      have HVH7 := Lib.hid (show le rH7 = fAdd (le al) (le al) by rw [← hrH7]; exact le_b32 _ (lt4 (fAdd_lt _ _ )))
      clear hrH7
      have HQH8 := Lib.hid (fun w => Good_any pq w HLP.out)
      rw [show decide (le pq < 57896044618658097711785492504343953926634992332820282019728792003956564819949) = false from (by simp only [HVP.out]; decide +kernel)] at HQH8
      have HQH9 := Lib.hid (fun w => Good_any al w HLA.out)
      rw [show decide (le al < 57896044618658097711785492504343953926634992332820282019728792003956564819949) = false from (by simp only [HVA.out]; decide +kernel)] at HQH9
      obtain ⟨rH10, hrH10⟩ : ∃ r, b32 (le pq % 57896044618658097711785492504343953926634992332820282019728792003956564819949) = r := ⟨_, rfl⟩
      have HQH10 := Lib.hid (fun w => Rest_any pq w HLP.out)
      rw [hrH10] at HQH10
      have HLH10 := Lib.hid (show rH10.length = 32 by rw [← hrH10]; exact b32_len _)
      have HVH10 := Lib.hid (show le rH10 = le pq % 57896044618658097711785492504343953926634992332820282019728792003956564819949 by rw [← hrH10]; exact le_b32 _ (lt4 (Nat.mod_lt _ P_pos)))
      clear hrH10
      obtain ⟨rH11, hrH11⟩ : ∃ r, b32 (le al % 57896044618658097711785492504343953926634992332820282019728792003956564819949) = r := ⟨_, rfl⟩
      have HQH11 := Lib.hid (fun w => Rest_any al w HLA.out)
      rw [hrH11] at HQH11
      have HLH11 := Lib.hid (show rH11.length = 32 by rw [← hrH11]; exact b32_len _)
      have HVH11 := Lib.hid (show le rH11 = le al % 57896044618658097711785492504343953926634992332820282019728792003956564819949 by rw [← hrH11]; exact le_b32 _ (lt4 (Nat.mod_lt _ P_pos)))
      clear hrH11
      obtain ⟨rH12, hrH12⟩ : ∃ r, b32 37 = r := ⟨_, rfl⟩
      have HQH12 : Hid (∀ w, Calls Try.prog 11 #[.int .u64 37] w fun e w' => e = .returned (.agg (byteVals rH12).toArray) ∧ Below w.heap.size w w') := Lib.hid (fun w => by have := Of_any 37 w (by decide); rw [hrH12] at this; exact this)
      have HLH12 := Lib.hid (show rH12.length = 32 by rw [← hrH12]; exact b32_len _)
      have HVH12 := Lib.hid (show le rH12 = 37 by rw [← hrH12]; exact le_b32 _ (by decide))
      clear hrH12
      obtain ⟨rH13, hrH13⟩ : ∃ r, b32 74 = r := ⟨_, rfl⟩
      have HQH13 : Hid (∀ w, Calls Try.prog 11 #[.int .u64 74] w fun e w' => e = .returned (.agg (byteVals rH13).toArray) ∧ Below w.heap.size w w') := Lib.hid (fun w => by have := Of_any 74 w (by decide); rw [hrH13] at this; exact this)
      have HLH13 := Lib.hid (show rH13.length = 32 by rw [← hrH13]; exact b32_len _)
      have HVH13 := Lib.hid (show le rH13 = 74 by rw [← hrH13]; exact le_b32 _ (by decide))
      clear hrH13
      obtain ⟨rH14, hrH14⟩ : ∃ r, b32 (fInv (le pq)) = r := ⟨_, rfl⟩
      have HQH14 := Lib.hid (fun w => Inv_any pq w HLP.out)
      rw [hrH14] at HQH14
      have HLH14 := Lib.hid (show rH14.length = 32 by rw [← hrH14]; exact b32_len _)
      have HVH14 := Lib.hid (show le rH14 = fInv (le pq) by rw [← hrH14]; exact le_b32 _ (lt4 (fInv_lt _ )))
      clear hrH14
      have HQH15 := Lib.hid (fun w => Odd_any rH3 w HLH3.out)
      rw [show decide (le rH3 % 57896044618658097711785492504343953926634992332820282019728792003956564819949 % 2 = 1) = false from (by simp only [HVP.out, HVH1.out, HVH2.out, HVH3.out]; decide +kernel)] at HQH15
      obtain ⟨rH16, hrH16⟩ : ∃ r, b32 (fMul (le rH3) (le rH3)) = r := ⟨_, rfl⟩
      have HQH16 := Lib.hid (fun w => Mul_any rH3 rH3 w HLH3.out HLH3.out)
      rw [hrH16] at HQH16
      have HLH16 := Lib.hid (show rH16.length = 32 by rw [← hrH16]; exact b32_len _)
      have HVH16 := Lib.hid (show le rH16 = fMul (le rH3) (le rH3) by rw [← hrH16]; exact le_b32 _ (lt4 (fMul_lt _ _ )))
      clear hrH16
      obtain ⟨rH17, hrH17⟩ : ∃ r, b32 1 = r := ⟨_, rfl⟩
      have HQH17 : Hid (∀ w, Calls Try.prog 11 #[.int .u64 1] w fun e w' => e = .returned (.agg (byteVals rH17).toArray) ∧ Below w.heap.size w w') := Lib.hid (fun w => by have := Of_any 1 w (by decide); rw [hrH17] at this; exact this)
      have HLH17 := Lib.hid (show rH17.length = 32 by rw [← hrH17]; exact b32_len _)
      have HVH17 := Lib.hid (show le rH17 = 1 by rw [← hrH17]; exact le_b32 _ (by decide))
      clear hrH17
      obtain ⟨rH18, hrH18⟩ : ∃ r, b32 (fSub (le (zerB 32)) (le rH17)) = r := ⟨_, rfl⟩
      have HQH18 := Lib.hid (fun w => Sub_any (zerB 32) rH17 w (zerB_len 32) HLH17.out)
      rw [hrH18] at HQH18
      have HLH18 := Lib.hid (show rH18.length = 32 by rw [← hrH18]; exact b32_len _)
      have HVH18 := Lib.hid (show le rH18 = fSub (le (zerB 32)) (le rH17) by rw [← hrH18]; exact le_b32 _ (lt4 (fSub_lt _ _ )))
      clear hrH18
      have HQH19 := Lib.hid (fun w => Odd_any pq w HLP.out)
      rw [show decide (le pq % 57896044618658097711785492504343953926634992332820282019728792003956564819949 % 2 = 1) = false from (by simp only [HVP.out]; decide +kernel)] at HQH19
      obtain ⟨rH20, hrH20⟩ : ∃ r, b32 2 = r := ⟨_, rfl⟩
      have HQH20 : Hid (∀ w, Calls Try.prog 11 #[.int .u64 2] w fun e w' => e = .returned (.agg (byteVals rH20).toArray) ∧ Below w.heap.size w w') := Lib.hid (fun w => by have := Of_any 2 w (by decide); rw [hrH20] at this; exact this)
      have HLH20 := Lib.hid (show rH20.length = 32 by rw [← hrH20]; exact b32_len _)
      have HVH20 := Lib.hid (show le rH20 = 2 by rw [← hrH20]; exact le_b32 _ (by decide))
      clear hrH20
      obtain ⟨rH21, hrH21⟩ : ∃ r, b32 (fSub (le pq) (le rH20)) = r := ⟨_, rfl⟩
      have HQH21 := Lib.hid (fun w => Sub_any pq rH20 w HLP.out HLH20.out)
      rw [hrH21] at HQH21
      have HLH21 := Lib.hid (show rH21.length = 32 by rw [← hrH21]; exact b32_len _)
      have HVH21 := Lib.hid (show le rH21 = fSub (le pq) (le rH20) by rw [← hrH21]; exact le_b32 _ (lt4 (fSub_lt _ _ )))
      clear hrH21
      have HQH22 := Lib.hid (fun w => Odd_any rH21 w HLH21.out)
      rw [show decide (le rH21 % 57896044618658097711785492504343953926634992332820282019728792003956564819949 % 2 = 1) = true from (by simp only [HVP.out, HVH20.out, HVH21.out]; decide +kernel)] at HQH22
      obtain ⟨rH23, hrH23⟩ : ∃ r, b32 9223372036854775808 = r := ⟨_, rfl⟩
      have HQH23 : Hid (∀ w, Calls Try.prog 11 #[.int .u64 9223372036854775808] w fun e w' => e = .returned (.agg (byteVals rH23).toArray) ∧ Below w.heap.size w w') := Lib.hid (fun w => by have := Of_any 9223372036854775808 w (by decide); rw [hrH23] at this; exact this)
      have HLH23 := Lib.hid (show rH23.length = 32 by rw [← hrH23]; exact b32_len _)
      have HVH23 := Lib.hid (show le rH23 = 9223372036854775808 by rw [← hrH23]; exact le_b32 _ (by decide))
      clear hrH23
      obtain ⟨rH24, hrH24⟩ : ∃ r, b32 9223372036854775808 = r := ⟨_, rfl⟩
      have HQH24 : Hid (∀ w, Calls Try.prog 11 #[.int .u64 9223372036854775808] w fun e w' => e = .returned (.agg (byteVals rH24).toArray) ∧ Below w.heap.size w w') := Lib.hid (fun w => by have := Of_any 9223372036854775808 w (by decide); rw [hrH24] at this; exact this)
      have HLH24 := Lib.hid (show rH24.length = 32 by rw [← hrH24]; exact b32_len _)
      have HVH24 := Lib.hid (show le rH24 = 9223372036854775808 by rw [← hrH24]; exact le_b32 _ (by decide))
      clear hrH24
      obtain ⟨rH25, hrH25⟩ : ∃ r, b32 2 = r := ⟨_, rfl⟩
      have HQH25 : Hid (∀ w, Calls Try.prog 11 #[.int .u64 2] w fun e w' => e = .returned (.agg (byteVals rH25).toArray) ∧ Below w.heap.size w w') := Lib.hid (fun w => by have := Of_any 2 w (by decide); rw [hrH25] at this; exact this)
      have HLH25 := Lib.hid (show rH25.length = 32 by rw [← hrH25]; exact b32_len _)
      have HVH25 := Lib.hid (show le rH25 = 2 by rw [← hrH25]; exact le_b32 _ (by decide))
      clear hrH25
      obtain ⟨rH26, hrH26⟩ : ∃ r, b32 (fMul (le rH24) (le rH25)) = r := ⟨_, rfl⟩
      have HQH26 := Lib.hid (fun w => Mul_any rH24 rH25 w HLH24.out HLH25.out)
      rw [hrH26] at HQH26
      have HLH26 := Lib.hid (show rH26.length = 32 by rw [← hrH26]; exact b32_len _)
      have HVH26 := Lib.hid (show le rH26 = fMul (le rH24) (le rH25) by rw [← hrH26]; exact le_b32 _ (lt4 (fMul_lt _ _ )))
      clear hrH26
      refine wp_region_upA 8 6 7 [0, 1, 2, 3, 4, 5, 6] _ (.cells ((byteVals (zerB 32)).toArray) 24) (by kernel_rfl) (by kernel_rfl) (fun _ _ dst _ _ h => by cases dst <;> exact h) rfl (fun a w K hK => wpOp_of_run rfl rfl (run_allocN a _ rfl w) hK) rfl ?_
      simp only [List.take_succ_cons, List.take_zero, List.drop_succ_cons, List.drop_zero, List.eraseIdx_cons_succ, List.eraseIdx_cons_zero]
      refine upW_val (by rfl) (by rfl) (by rfl) (fun K hK => quiet_load_row _ _ rfl M1 rfl 24 _ (0, 0) _ HM1.out Try.underlying24 rfl (sN pq HLP.out) (hK _ ?_))
      simp only [Act.put, List.setIfInBounds_toArray, List.set]
      refine upW_call (by rfl) (by rfl) (.agg (byteVals rH1).toArray) _ rfl (by simp) (fun p => ?_) ?_
      · go_big_quiet_op
        exact ⟨_, fun q => Calls.ext_of (HQH1.out q.x), rfl⟩
      simp only [Act.put, List.setIfInBounds_toArray, List.set]
      refine upW_call (by rfl) (by rfl) (.agg (byteVals rH2).toArray) _ rfl (by simp) (fun p => ?_) ?_
      · go_big_quiet_op
        exact ⟨_, fun q => Calls.ext_of (HQH2.out q.x), rfl⟩
      simp only [Act.put, List.setIfInBounds_toArray, List.set]
      refine upW_call (by rfl) (by rfl) (.tuple #[.agg (byteVals rH3).toArray, .bool true]) _ rfl (by simp) (fun p => ?_) ?_
      · go_big_quiet_op
        exact ⟨_, fun q => Calls.ext_of (HQH3.out q.x), rfl⟩
      simp only [Act.put, List.setIfInBounds_toArray, List.set]
      refine upW_val (by rfl) (by rfl) (by rfl) ?_
      intro K hK
      go_big_quiet_op
      refine hK _ ?_
      refine upW_late (by rfl) (.agg (byteVals rH3).toArray) (fun _ => rfl) ?_
      simp only [Act.put, List.setIfInBounds_toArray, List.set]
      refine upW_late (by rfl) (.bool true) (fun _ => rfl) ?_
      simp only [Act.put, List.setIfInBounds_toArray, List.set]
      refine upW_nil (fun M wm hM hbs hom => ?_)
      simp only [List.setIfInBounds_toArray]
      have HOM := Lib.hid hom
      have HM0' := Lib.hid (HM0.out.ext hbs)
      have HM0n := Nat.lt_of_lt_of_le HM0.out.lt hM
      have HM1' := Lib.hid (HM1.out.ext hbs)
      have HM1n := Nat.lt_of_lt_of_le HM1.out.lt hM
      have HB' := Lib.hid (HB.out.trans (hbs.mono (show N ≤ _ by have := HB.out.size; have := HN.out; omega)))
      have HNM : N ≤ M := by have := HB.out.size; have := HN.out; omega
      clear hom hbs HB HM0 HM1
      go_wp2_with (refine wpList_store_row rfl 24 _ _ rfl M ((byteVals rH3).toArray) rfl rfl 24 _ HOM.out (sN rH3 HLH3.out) (oN (zerB 32) rH3 (zerB_len 32) HLH3.out) (byteVals_one _) (Stop.out ?_))
      generalize hWS : World.setRow _ _ _ = w9
      have HM2 := Lib.hid (show BT w9 M 24 rH3 by subst hWS; exact setRow_heap _ _ _ _ _ _ HOM.out)
      have HM0 := Lib.hid (HM0'.out.other (show w9.heap[_]? = _ by subst hWS; exact setRow_other _ _ _ _ (by omega)))
      have HM1 := Lib.hid (HM1'.out.other (show w9.heap[_]? = _ by subst hWS; exact setRow_other _ _ _ _ (by omega)))
      have HB := Lib.hid (show Below N w w9 by subst hWS; exact Below.setRow HB'.out HNM _)
      clear hWS HB' HOM hM HNM HM0' HM0n HM1' HM1n
      refine ⟨?_⟩
      obtain ⟨M2, hM2⟩ : ∃ m, M = m := ⟨_, rfl⟩
      rw [hM2] at HM2 ⊢
      clear hM2
      go_upto_region 10 with fail
      refine wp_region_seq 5 ?_
      simp only [List.take_succ_cons, List.take_zero, List.drop_succ_cons, List.drop_zero]
      refine upW_call (by rfl) (by rfl) (.agg (byteVals rH4).toArray) _ rfl (by simp) (fun p => ?_) ?_
      · go_big_quiet_op
        exact ⟨_, fun q => Calls.ext_of (HQH4.out q.x), rfl⟩
      simp only [Act.put, List.setIfInBounds_toArray, List.set]
      refine upW_call (by rfl) (by rfl) (.tuple #[.agg (byteVals rH5).toArray, .bool false]) _ rfl (by simp) (fun p => ?_) ?_
      · go_big_quiet_op
        exact ⟨_, fun q => Calls.ext_of (HQH5.out q.x), rfl⟩
      simp only [Act.put, List.setIfInBounds_toArray, List.set]
      refine upW_val (by rfl) (by rfl) (by rfl) ?_
      intro K hK
      go_big_quiet_op
      refine hK _ ?_
      refine upW_late (by rfl) (.agg (byteVals rH5).toArray) (fun _ => rfl) ?_
      simp only [Act.put, List.setIfInBounds_toArray, List.set]
      refine upW_late (by rfl) (.bool false) (fun _ => rfl) ?_
      simp only [Act.put, List.setIfInBounds_toArray, List.set]
      refine upW_nil (fun ws3 hbs3 => ?_)
      go_wp2_with (refine wpList_store_row rfl 24 _ _ rfl ws3.heap.size ((byteVals rH5).toArray) rfl rfl 24 _ (Go.heap_alloc_new _ _) (sN rH5 HLH5.out) ?hold (byteVals_one _) (Stop.out ?_))
      case hold => rw [size_byteVals, size_byteVals, zerB_len, HLH5.out]
      generalize hWS : World.setRow _ _ _ = W3
      obtain ⟨M3, hM⟩ : ∃ n, ws3.heap.size = n := ⟨_, rfl⟩
      have HM3 := Lib.hid (show BT W3 M3 24 rH5 by subst hWS; rw [← hM]; exact setRow_heap _ _ _ _ _ _ (Go.heap_alloc_new _ _))
      have HM0' := Lib.hid (show BT W3 M0 24 al by subst hWS; exact (HM0.out.ext hbs3).other ((setRow_other _ _ _ _ (by rw [hM]; have := (HM0.out.ext hbs3).lt; omega)).trans (Go.heap_alloc_old _ _ (HM0.out.ext hbs3).lt)))
      have HM1' := Lib.hid (show BT W3 M1 24 pq by subst hWS; exact (HM1.out.ext hbs3).other ((setRow_other _ _ _ _ (by rw [hM]; have := (HM1.out.ext hbs3).lt; omega)).trans (Go.heap_alloc_old _ _ (HM1.out.ext hbs3).lt)))
      have HM2' := Lib.hid (show BT W3 M2 24 rH3 by subst hWS; exact (HM2.out.ext hbs3).other ((setRow_other _ _ _ _ (by rw [hM]; have := (HM2.out.ext hbs3).lt; omega)).trans (Go.heap_alloc_old _ _ (HM2.out.ext hbs3).lt)))
      have HB' := Lib.hid (show Below N w W3 by subst hWS; exact Below.setRow ((HB.out.trans (hbs3.mono (show N ≤ _ by have := HB.out.size; have := HN.out; omega))).alloc (by have := hbs3.size; have := HB.out.size; have := HN.out; omega) _) (by have := hbs3.size; have := HB.out.size; have := HN.out; omega) _)
      rw [hM]
      clear hWS hM hbs3 HB HM0 HM1 HM2
      have HB := HB'
      have HM0 := HM0'
      have HM1 := HM1'
      have HM2 := HM2'
      clear HB' HM0' HM1' HM2'
      refine ⟨?_⟩
      go_upto_region 11 with fail
      refine wp_region_seq 5 ?_
      simp only [List.take_succ_cons, List.take_zero, List.drop_succ_cons, List.drop_zero]
      refine upW_val (by rfl) (by rfl) (by rfl) (fun K hK => quiet_load_row _ _ rfl M1 rfl 24 _ (0, 0) _ HM1.out Try.underlying24 rfl (sN pq HLP.out) (hK _ ?_))
      simp only [Act.put, List.setIfInBounds_toArray, List.set]
      refine upW_call (by rfl) (by rfl) (.tuple #[.agg (byteVals rH6).toArray, .bool true]) _ rfl (by simp) (fun p => ?_) ?_
      · go_big_quiet_op
        exact ⟨_, fun q => Calls.ext_of (HQH6.out q.x), rfl⟩
      simp only [Act.put, List.setIfInBounds_toArray, List.set]
      refine upW_val (by rfl) (by rfl) (by rfl) ?_
      intro K hK
      go_big_quiet_op
      refine hK _ ?_
      refine upW_late (by rfl) (.agg (byteVals rH6).toArray) (fun _ => rfl) ?_
      simp only [Act.put, List.setIfInBounds_toArray, List.set]
      refine upW_late (by rfl) (.bool true) (fun _ => rfl) ?_
      simp only [Act.put, List.setIfInBounds_toArray, List.set]
      refine upW_nil (fun ws4 hbs4 => ?_)
      go_wp2_with (refine wpList_store_row rfl 24 _ _ rfl ws4.heap.size ((byteVals rH6).toArray) rfl rfl 24 _ (Go.heap_alloc_new _ _) (sN rH6 HLH6.out) ?hold (byteVals_one _) (Stop.out ?_))
      case hold => rw [size_byteVals, size_byteVals, zerB_len, HLH6.out]
      generalize hWS : World.setRow _ _ _ = W4
      obtain ⟨M4, hM⟩ : ∃ n, ws4.heap.size = n := ⟨_, rfl⟩
      have HM4 := Lib.hid (show BT W4 M4 24 rH6 by subst hWS; rw [← hM]; exact setRow_heap _ _ _ _ _ _ (Go.heap_alloc_new _ _))
      have HM0' := Lib.hid (show BT W4 M0 24 al by subst hWS; exact (HM0.out.ext hbs4).other ((setRow_other _ _ _ _ (by rw [hM]; have := (HM0.out.ext hbs4).lt; omega)).trans (Go.heap_alloc_old _ _ (HM0.out.ext hbs4).lt)))
      have HM1' := Lib.hid (show BT W4 M1 24 pq by subst hWS; exact (HM1.out.ext hbs4).other ((setRow_other _ _ _ _ (by rw [hM]; have := (HM1.out.ext hbs4).lt; omega)).trans (Go.heap_alloc_old _ _ (HM1.out.ext hbs4).lt)))
      have HM2' := Lib.hid (show BT W4 M2 24 rH3 by subst hWS; exact (HM2.out.ext hbs4).other ((setRow_other _ _ _ _ (by rw [hM]; have := (HM2.out.ext hbs4).lt; omega)).trans (Go.heap_alloc_old _ _ (HM2.out.ext hbs4).lt)))
      have HM3' := Lib.hid (show BT W4 M3 24 rH5 by subst hWS; exact (HM3.out.ext hbs4).other ((setRow_other _ _ _ _ (by rw [hM]; have := (HM3.out.ext hbs4).lt; omega)).trans (Go.heap_alloc_old _ _ (HM3.out.ext hbs4).lt)))
      have HB' := Lib.hid (show Below N w W4 by subst hWS; exact Below.setRow ((HB.out.trans (hbs4.mono (show N ≤ _ by have := HB.out.size; have := HN.out; omega))).alloc (by have := hbs4.size; have := HB.out.size; have := HN.out; omega) _) (by have := hbs4.size; have := HB.out.size; have := HN.out; omega) _)
      rw [hM]
      clear hWS hM hbs4 HB HM0 HM1 HM2 HM3
      have HB := HB'
      have HM0 := HM0'
      have HM1 := HM1'
      have HM2 := HM2'
      have HM3 := HM3'
      clear HB' HM0' HM1' HM2' HM3'
      refine ⟨?_⟩
      go_upto_region 12 with fail
      refine wp_region_seq 3 ?_
      simp only [List.take_succ_cons, List.take_zero, List.drop_succ_cons, List.drop_zero]
      refine upW_val (by rfl) (by rfl) (by rfl) (fun K hK => quiet_load_row _ _ rfl M0 rfl 24 _ (0, 0) _ HM0.out Try.underlying24 rfl (sN al HLA.out) (hK _ ?_))
      simp only [Act.put, List.setIfInBounds_toArray, List.set]
      refine upW_val (by rfl) (by rfl) (by rfl) (fun K hK => quiet_load_row _ _ rfl M0 rfl 24 _ (0, 0) _ HM0.out Try.underlying24 rfl (sN al HLA.out) (hK _ ?_))
      simp only [Act.put, List.setIfInBounds_toArray, List.set]
      refine upW_call (by rfl) (by rfl) (.agg (byteVals rH7).toArray) _ rfl (by simp) (fun p => ?_) ?_
      · go_big_quiet_op
        exact ⟨_, fun q => Calls.ext_of (HQH7.out q.x), rfl⟩
      simp only [Act.put, List.setIfInBounds_toArray, List.set]
      refine upW_nil (fun ws5 hbs5 => ?_)
      go_wp2_with (refine wpList_store_row rfl 24 _ _ rfl ws5.heap.size ((byteVals rH7).toArray) rfl rfl 24 _ (Go.heap_alloc_new _ _) (sN rH7 HLH7.out) ?hold (byteVals_one _) (Stop.out ?_))
      case hold => rw [size_byteVals, size_byteVals, zerB_len, HLH7.out]
      generalize hWS : World.setRow _ _ _ = W5
      obtain ⟨M5, hM⟩ : ∃ n, ws5.heap.size = n := ⟨_, rfl⟩
      have HM5 := Lib.hid (show BT W5 M5 24 rH7 by subst hWS; rw [← hM]; exact setRow_heap _ _ _ _ _ _ (Go.heap_alloc_new _ _))
      have HM0' := Lib.hid (show BT W5 M0 24 al by subst hWS; exact (HM0.out.ext hbs5).other ((setRow_other _ _ _ _ (by rw [hM]; have := (HM0.out.ext hbs5).lt; omega)).trans (Go.heap_alloc_old _ _ (HM0.out.ext hbs5).lt)))
      have HM1' := Lib.hid (show BT W5 M1 24 pq by subst hWS; exact (HM1.out.ext hbs5).other ((setRow_other _ _ _ _ (by rw [hM]; have := (HM1.out.ext hbs5).lt; omega)).trans (Go.heap_alloc_old _ _ (HM1.out.ext hbs5).lt)))
      have HM2' := Lib.hid (show BT W5 M2 24 rH3 by subst hWS; exact (HM2.out.ext hbs5).other ((setRow_other _ _ _ _ (by rw [hM]; have := (HM2.out.ext hbs5).lt; omega)).trans (Go.heap_alloc_old _ _ (HM2.out.ext hbs5).lt)))
      have HM3' := Lib.hid (show BT W5 M3 24 rH5 by subst hWS; exact (HM3.out.ext hbs5).other ((setRow_other _ _ _ _ (by rw [hM]; have := (HM3.out.ext hbs5).lt; omega)).trans (Go.heap_alloc_old _ _ (HM3.out.ext hbs5).lt)))
      have HM4' := Lib.hid (show BT W5 M4 24 rH6 by subst hWS; exact (HM4.out.ext hbs5).other ((setRow_other _ _ _ _ (by rw [hM]; have := (HM4.out.ext hbs5).lt; omega)).trans (Go.heap_alloc_old _ _ (HM4.out.ext hbs5).lt)))
      have HB' := Lib.hid (show Below N w W5 by subst hWS; exact Below.setRow ((HB.out.trans (hbs5.mono (show N ≤ _ by have := HB.out.size; have := HN.out; omega))).alloc (by have := hbs5.size; have := HB.out.size; have := HN.out; omega) _) (by have := hbs5.size; have := HB.out.size; have := HN.out; omega) _)
      rw [hM]
      clear hWS hM hbs5 HB HM0 HM1 HM2 HM3 HM4
      have HB := HB'
      have HM0 := HM0'
      have HM1 := HM1'
      have HM2 := HM2'
      have HM3 := HM3'
      have HM4 := HM4'
      clear HB' HM0' HM1' HM2' HM3' HM4'
      refine ⟨?_⟩
      go_wp2_with fail
      refine wp_region_up 83 83 (by kernel_rfl) (by kernel_rfl) (fun _ _ dst _ _ h => by cases dst <;> exact h) ?_
      simp only [List.append, List.take_succ_cons, List.take_zero, List.drop_succ_cons, List.drop_zero]
      refine upW_val (by rfl) (by rfl) (by rfl) (fun K hK => quiet_load_row _ _ rfl M1 rfl 24 _ (0, 0) _ HM1.out Try.underlying24 rfl (sN pq HLP.out) (hK _ ?_))
      simp only [Act.put, List.setIfInBounds_toArray, List.set]
      refine upW_call (by rfl) (by rfl) (.bool false) _ rfl (by simp) (fun p => ?_) ?_
      · go_big_quiet_op
        exact ⟨_, fun q => Calls.ext_of (HQH8.out q.x), rfl⟩
      simp only [Act.put, List.setIfInBounds_toArray, List.set]
      refine upW_val (by rfl) (by rfl) (by rfl) ?_
      intro K hK
      go_big_quiet_op
      refine hK _ ?_
      refine upW_val (by rfl) (by rfl) (by rfl) ?_
      intro K hK
      go_big_quiet_op
      refine hK _ ?_
      refine upW_val (by rfl) (by rfl) (by rfl) (fun K hK => quiet_load_row _ _ rfl M0 rfl 24 _ (0, 0) _ HM0.out Try.underlying24 rfl (sN al HLA.out) (hK _ ?_))
      simp only [Act.put, List.setIfInBounds_toArray, List.set]
      refine upW_call (by rfl) (by rfl) (.bool false) _ rfl (by simp) (fun p => ?_) ?_
      · go_big_quiet_op
        exact ⟨_, fun q => Calls.ext_of (HQH9.out q.x), rfl⟩
      simp only [Act.put, List.setIfInBounds_toArray, List.set]
      refine upW_val (by rfl) (by rfl) (by rfl) ?_
      intro K hK
      go_big_quiet_op
      refine hK _ ?_
      refine upW_val (by rfl) (by rfl) (by rfl) ?_
      intro K hK
      go_big_quiet_op
      refine hK _ ?_
      refine upW_val (by rfl) (by rfl) (by rfl) ?_
      intro K hK
      go_big_quiet_op
      refine hK _ ?_
      refine upW_val (by rfl) (by rfl) (by rfl) (fun K hK => quiet_load_row _ _ rfl M1 rfl 24 _ (0, 0) _ HM1.out Try.underlying24 rfl (sN pq HLP.out) (hK _ ?_))
      simp only [Act.put, List.setIfInBounds_toArray, List.set]
      refine upW_call (by rfl) (by rfl) (.agg (byteVals rH10).toArray) _ rfl (by simp) (fun p => ?_) ?_
      · go_big_quiet_op
        exact ⟨_, fun q => Calls.ext_of (HQH10.out q.x), rfl⟩
      simp only [Act.put, List.setIfInBounds_toArray, List.set]
      refine upW_late (by rfl) (.agg (byteVals (zerB 32)).toArray) (fun w => run_zeroN _ _ rfl w) ?_
      simp only [Act.put, List.setIfInBounds_toArray, List.set]
      refine upW_late (by rfl) (.bool true) (fun w => run_eqB _ _ _ _ 24 rfl Try.underlying24 rH10 (zerB 32) rfl rfl HLH10.out (zerB_len 32) (by kernel_rfl) true (decide_eq_true (eq_le HLH10.out (zerB_len 32) (by simp only [HVP.out, HVH10.out, le_zer] <;> exact (by decide +kernel)))) w) ?_
      simp only [Act.put, List.setIfInBounds_toArray, List.set]
      refine upW_val (by rfl) (by rfl) (by rfl) ?_
      intro K hK
      go_big_quiet_op
      refine hK _ ?_
      refine upW_val (by rfl) (by rfl) (by rfl) ?_
      intro K hK
      go_big_quiet_op
      refine hK _ ?_
      refine upW_val (by rfl) (by rfl) (by rfl) (fun K hK => quiet_load_row _ _ rfl M0 rfl 24 _ (0, 0) _ HM0.out Try.underlying24 rfl (sN al HLA.out) (hK _ ?_))
      simp only [Act.put, List.setIfInBounds_toArray, List.set]
      refine upW_call (by rfl) (by rfl) (.agg (byteVals rH11).toArray) _ rfl (by simp) (fun p => ?_) ?_
      · go_big_quiet_op
        exact ⟨_, fun q => Calls.ext_of (HQH11.out q.x), rfl⟩
      simp only [Act.put, List.setIfInBounds_toArray, List.set]
      refine upW_call (by rfl) (by rfl) (.agg (byteVals rH12).toArray) _ rfl (by simp) (fun p => ?_) ?_
      · go_big_quiet_op
        exact ⟨_, fun q => Calls.ext_of (HQH12.out q.x), rfl⟩
      simp only [Act.put, List.setIfInBounds_toArray, List.set]
      refine upW_late (by rfl) (.bool true) (fun w => run_eqB _ _ _ _ 24 rfl Try.underlying24 rH11 rH12 rfl rfl HLH11.out HLH12.out (by kernel_rfl) true (decide_eq_true (eq_le HLH11.out HLH12.out (by simp only [HVA.out, HVH11.out, HVH12.out] <;> exact (by decide +kernel)))) w) ?_
      simp only [Act.put, List.setIfInBounds_toArray, List.set]
      refine upW_val (by rfl) (by rfl) (by rfl) ?_
      intro K hK
      go_big_quiet_op
      refine hK _ ?_
      refine upW_val (by rfl) (by rfl) (by rfl) ?_
      intro K hK
      go_big_quiet_op
      refine hK _ ?_
      refine upW_val (by rfl) (by rfl) (by rfl) (fun K hK => quiet_load_row _ _ rfl M5 rfl 24 _ (0, 0) _ HM5.out Try.underlying24 rfl (sN rH7 HLH7.out) (hK _ ?_))
      simp only [Act.put, List.setIfInBounds_toArray, List.set]
      refine upW_call (by rfl) (by rfl) (.agg (byteVals rH13).toArray) _ rfl (by simp) (fun p => ?_) ?_
      · go_big_quiet_op
        exact ⟨_, fun q => Calls.ext_of (HQH13.out q.x), rfl⟩
      simp only [Act.put, List.setIfInBounds_toArray, List.set]
      refine upW_late (by rfl) (.bool true) (fun w => run_eqB _ _ _ _ 24 rfl Try.underlying24 rH7 rH13 rfl rfl HLH7.out HLH13.out (by kernel_rfl) true (decide_eq_true (eq_le HLH7.out HLH13.out (by simp only [HVA.out, HVH7.out, HVH13.out] <;> exact (by decide +kernel)))) w) ?_
      simp only [Act.put, List.setIfInBounds_toArray, List.set]
      refine upW_val (by rfl) (by rfl) (by rfl) ?_
      intro K hK
      go_big_quiet_op
      refine hK _ ?_
      refine upW_val (by rfl) (by rfl) (by rfl) ?_
      intro K hK
      go_big_quiet_op
      refine hK _ ?_
      refine upW_val (by rfl) (by rfl) (by rfl) (fun K hK => quiet_load_row _ _ rfl M1 rfl 24 _ (0, 0) _ HM1.out Try.underlying24 rfl (sN pq HLP.out) (hK _ ?_))
      simp only [Act.put, List.setIfInBounds_toArray, List.set]
      refine upW_call (by rfl) (by rfl) (.agg (byteVals rH14).toArray) _ rfl (by simp) (fun p => ?_) ?_
      · go_big_quiet_op
        exact ⟨_, fun q => Calls.ext_of (HQH14.out q.x), rfl⟩
      simp only [Act.put, List.setIfInBounds_toArray, List.set]
      refine upW_late (by rfl) (.agg (byteVals (zerB 32)).toArray) (fun w => run_zeroN _ _ rfl w) ?_
      simp only [Act.put, List.setIfInBounds_toArray, List.set]
      refine upW_late (by rfl) (.bool true) (fun w => run_eqB _ _ _ _ 24 rfl Try.underlying24 rH14 (zerB 32) rfl rfl HLH14.out (zerB_len 32) (by kernel_rfl) true (decide_eq_true (eq_le HLH14.out (zerB_len 32) (by simp only [HVP.out, HVH14.out, le_zer] <;> exact (by decide +kernel)))) w) ?_
      simp only [Act.put, List.setIfInBounds_toArray, List.set]
      refine upW_val (by rfl) (by rfl) (by rfl) ?_
      intro K hK
      go_big_quiet_op
      refine hK _ ?_
      refine upW_val (by rfl) (by rfl) (by rfl) ?_
      intro K hK
      go_big_quiet_op
      refine hK _ ?_
      refine upW_val (by rfl) (by rfl) (by rfl) ?_
      intro K hK
      go_big_quiet_op
      refine hK _ ?_
      refine upW_val (by rfl) (by rfl) (by rfl) ?_
      intro K hK
      go_big_quiet_op
      refine hK _ ?_
      refine upW_val (by rfl) (by rfl) (by rfl) ?_
      intro K hK
      go_big_quiet_op
      refine hK _ ?_
      refine upW_val (by rfl) (by rfl) (by rfl) (fun K hK => quiet_load_row _ _ rfl M2 rfl 24 _ (0, 0) _ HM2.out Try.underlying24 rfl (sN rH3 HLH3.out) (hK _ ?_))
      simp only [Act.put, List.setIfInBounds_toArray, List.set]
      refine upW_call (by rfl) (by rfl) (.bool false) _ rfl (by simp) (fun p => ?_) ?_
      · go_big_quiet_op
        exact ⟨_, fun q => Calls.ext_of (HQH15.out q.x), rfl⟩
      simp only [Act.put, List.setIfInBounds_toArray, List.set]
      refine upW_val (by rfl) (by rfl) (by rfl) ?_
      intro K hK
      go_big_quiet_op
      refine hK _ ?_
      refine upW_val (by rfl) (by rfl) (by rfl) ?_
      intro K hK
      go_big_quiet_op
      refine hK _ ?_
      refine upW_val (by rfl) (by rfl) (by rfl) ?_
      intro K hK
      go_big_quiet_op
      refine hK _ ?_
      refine upW_val (by rfl) (by rfl) (by rfl) (fun K hK => quiet_load_row _ _ rfl M2 rfl 24 _ (0, 0) _ HM2.out Try.underlying24 rfl (sN rH3 HLH3.out) (hK _ ?_))
      simp only [Act.put, List.setIfInBounds_toArray, List.set]
      refine upW_val (by rfl) (by rfl) (by rfl) (fun K hK => quiet_load_row _ _ rfl M2 rfl 24 _ (0, 0) _ HM2.out Try.underlying24 rfl (sN rH3 HLH3.out) (hK _ ?_))
      simp only [Act.put, List.setIfInBounds_toArray, List.set]
      refine upW_call (by rfl) (by rfl) (.agg (byteVals rH16).toArray) _ rfl (by simp) (fun p => ?_) ?_
      · go_big_quiet_op
        exact ⟨_, fun q => Calls.ext_of (HQH16.out q.x), rfl⟩
      simp only [Act.put, List.setIfInBounds_toArray, List.set]
      refine upW_late (by rfl) (.agg (byteVals (zerB 32)).toArray) (fun w => run_zeroN _ _ rfl w) ?_
      simp only [Act.put, List.setIfInBounds_toArray, List.set]
      refine upW_call (by rfl) (by rfl) (.agg (byteVals rH17).toArray) _ rfl (by simp) (fun p => ?_) ?_
      · go_big_quiet_op
        exact ⟨_, fun q => Calls.ext_of (HQH17.out q.x), rfl⟩
      simp only [Act.put, List.setIfInBounds_toArray, List.set]
      refine upW_call (by rfl) (by rfl) (.agg (byteVals rH18).toArray) _ rfl (by simp) (fun p => ?_) ?_
      · go_big_quiet_op
        exact ⟨_, fun q => Calls.ext_of (HQH18.out q.x), rfl⟩
      simp only [Act.put, List.setIfInBounds_toArray, List.set]
      refine upW_late (by rfl) (.bool true) (fun w => run_eqB _ _ _ _ 24 rfl Try.underlying24 rH16 rH18 rfl rfl HLH16.out HLH18.out (by kernel_rfl) true (decide_eq_true (eq_le HLH16.out HLH18.out (by simp only [HVP.out, HVH1.out, HVH2.out, HVH3.out, HVH16.out, le_zer, HVH17.out, HVH18.out] <;> exact (by decide +kernel)))) w) ?_
      simp only [Act.put, List.setIfInBounds_toArray, List.set]
      refine upW_val (by rfl) (by rfl) (by rfl) ?_
      intro K hK
      go_big_quiet_op
      refine hK _ ?_
      refine upW_val (by rfl) (by rfl) (by rfl) ?_
      intro K hK
      go_big_quiet_op
      refine hK _ ?_
      refine upW_val (by rfl) (by rfl) (by rfl) ?_
      intro K hK
      go_big_quiet_op
      refine hK _ ?_
      refine upW_val (by rfl) (by rfl) (by rfl) ?_
      intro K hK
      go_big_quiet_op
      refine hK _ ?_
      refine upW_val (by rfl) (by rfl) (by rfl) ?_
      intro K hK
      go_big_quiet_op
      refine hK _ ?_
      refine upW_val (by rfl) (by rfl) (by rfl) ?_
      intro K hK
      go_big_quiet_op
      refine hK _ ?_
      refine upW_val (by rfl) (by rfl) (by rfl) ?_
      intro K hK
      go_big_quiet_op
      refine hK _ ?_
      refine upW_val (by rfl) (by rfl) (by rfl) ?_
      intro K hK
      go_big_quiet_op
      refine hK _ ?_
      refine upW_val (by rfl) (by rfl) (by rfl) ?_
      intro K hK
      go_big_quiet_op
      refine hK _ ?_
      refine upW_val (by rfl) (by rfl) (by rfl) (fun K hK => quiet_load_row _ _ rfl M4 rfl 24 _ (0, 0) _ HM4.out Try.underlying24 rfl (sN rH6 HLH6.out) (hK _ ?_))
      simp only [Act.put, List.setIfInBounds_toArray, List.set]
      refine upW_late (by rfl) (.agg (byteVals (zerB 32)).toArray) (fun w => run_zeroN _ _ rfl w) ?_
      simp only [Act.put, List.setIfInBounds_toArray, List.set]
      refine upW_late (by rfl) (.bool true) (fun w => run_eqB _ _ _ _ 24 rfl Try.underlying24 rH6 (zerB 32) rfl rfl HLH6.out (zerB_len 32) (by kernel_rfl) true (decide_eq_true (eq_le HLH6.out (zerB_len 32) (by simp only [HVP.out, HVH6.out, le_zer] <;> exact (by decide +kernel)))) w) ?_
      simp only [Act.put, List.setIfInBounds_toArray, List.set]
      refine upW_val (by rfl) (by rfl) (by rfl) ?_
      intro K hK
      go_big_quiet_op
      refine hK _ ?_
      refine upW_val (by rfl) (by rfl) (by rfl) ?_
      intro K hK
      go_big_quiet_op
      refine hK _ ?_
      refine upW_val (by rfl) (by rfl) (by rfl) (fun K hK => quiet_load_row _ _ rfl M1 rfl 24 _ (0, 0) _ HM1.out Try.underlying24 rfl (sN pq HLP.out) (hK _ ?_))
      simp only [Act.put, List.setIfInBounds_toArray, List.set]
      refine upW_call (by rfl) (by rfl) (.bool false) _ rfl (by simp) (fun p => ?_) ?_
      · go_big_quiet_op
        exact ⟨_, fun q => Calls.ext_of (HQH19.out q.x), rfl⟩
      simp only [Act.put, List.setIfInBounds_toArray, List.set]
      refine upW_val (by rfl) (by rfl) (by rfl) ?_
      intro K hK
      go_big_quiet_op
      refine hK _ ?_
      refine upW_val (by rfl) (by rfl) (by rfl) ?_
      intro K hK
      go_big_quiet_op
      refine hK _ ?_
      refine upW_val (by rfl) (by rfl) (by rfl) ?_
      intro K hK
      go_big_quiet_op
      refine hK _ ?_
      refine upW_val (by rfl) (by rfl) (by rfl) (fun K hK => quiet_load_row _ _ rfl M1 rfl 24 _ (0, 0) _ HM1.out Try.underlying24 rfl (sN pq HLP.out) (hK _ ?_))
      simp only [Act.put, List.setIfInBounds_toArray, List.set]
      refine upW_call (by rfl) (by rfl) (.agg (byteVals rH20).toArray) _ rfl (by simp) (fun p => ?_) ?_
      · go_big_quiet_op
        exact ⟨_, fun q => Calls.ext_of (HQH20.out q.x), rfl⟩
      simp only [Act.put, List.setIfInBounds_toArray, List.set]
      refine upW_call (by rfl) (by rfl) (.agg (byteVals rH21).toArray) _ rfl (by simp) (fun p => ?_) ?_
      · go_big_quiet_op
        exact ⟨_, fun q => Calls.ext_of (HQH21.out q.x), rfl⟩
      simp only [Act.put, List.setIfInBounds_toArray, List.set]
      refine upW_call (by rfl) (by rfl) (.bool true) _ rfl (by simp) (fun p => ?_) ?_
      · go_big_quiet_op
        exact ⟨_, fun q => Calls.ext_of (HQH22.out q.x), rfl⟩
      simp only [Act.put, List.setIfInBounds_toArray, List.set]
      refine upW_val (by rfl) (by rfl) (by rfl) ?_
      intro K hK
      go_big_quiet_op
      refine hK _ ?_
      refine upW_val (by rfl) (by rfl) (by rfl) ?_
      intro K hK
      go_big_quiet_op
      refine hK _ ?_
      refine upW_call (by rfl) (by rfl) (.agg (byteVals rH23).toArray) _ rfl (by simp) (fun p => ?_) ?_
      · go_big_quiet_op
        exact ⟨_, fun q => Calls.ext_of (HQH23.out q.x), rfl⟩
      simp only [Act.put, List.setIfInBounds_toArray, List.set]
      refine upW_late (by rfl) (.int .u8 128) (fun w => run_indexN _ _ _ 7 rfl rH23 rfl HLH23.out (by decide) 128 (by rw [get_of rH23 HLH23.out _ 7 rfl 128 (by simp only [HVH23.out]; decide +kernel)]; rfl) w) ?_
      simp only [Act.put, List.setIfInBounds_toArray, List.set]
      refine upW_val (by rfl) (by rfl) (by rfl) ?_
      intro K hK
      go_big_quiet_op
      refine hK _ ?_
      refine upW_val (by rfl) (by rfl) (by rfl) ?_
      intro K hK
      go_big_quiet_op
      refine hK _ ?_
      refine upW_val (by rfl) (by rfl) (by rfl) ?_
      intro K hK
      go_big_quiet_op
      refine hK _ ?_
      refine upW_call (by rfl) (by rfl) (.agg (byteVals rH24).toArray) _ rfl (by simp) (fun p => ?_) ?_
      · go_big_quiet_op
        exact ⟨_, fun q => Calls.ext_of (HQH24.out q.x), rfl⟩
      simp only [Act.put, List.setIfInBounds_toArray, List.set]
      refine upW_call (by rfl) (by rfl) (.agg (byteVals rH25).toArray) _ rfl (by simp) (fun p => ?_) ?_
      · go_big_quiet_op
        exact ⟨_, fun q => Calls.ext_of (HQH25.out q.x), rfl⟩
      simp only [Act.put, List.setIfInBounds_toArray, List.set]
      refine upW_call (by rfl) (by rfl) (.agg (byteVals rH26).toArray) _ rfl (by simp) (fun p => ?_) ?_
      · go_big_quiet_op
        exact ⟨_, fun q => Calls.ext_of (HQH26.out q.x), rfl⟩
      simp only [Act.put, List.setIfInBounds_toArray, List.set]
      refine upW_late (by rfl) (.int .u8 1) (fun w => run_indexN _ _ _ 8 rfl rH26 rfl HLH26.out (by decide) 1 (by rw [get_of rH26 HLH26.out _ 8 rfl 1 (by simp only [HVH24.out, HVH25.out, HVH26.out]; decide +kernel)]; rfl) w) ?_
      simp only [Act.put, List.setIfInBounds_toArray, List.set]
      refine upW_val (by rfl) (by rfl) (by rfl) ?_
      intro K hK
      go_big_quiet_op
      refine hK _ ?_
      refine upW_val (by rfl) (by rfl) (by rfl) ?_
      intro K hK
      go_big_quiet_op
      refine hK _ ?_
      refine upW_nil (fun w13 hbs => ?_)
      have HF := Lib.hid (HB.out.trans (hbs.mono (show N ≤ _ by have := HB.out.size; have := HN.out; omega)))
      clear hbs
      go_wp2
      go_ret
      exact ⟨rfl, HN.out.symm ▸ HF.out⟩
theorem fieldKnown_own : ownKnob Try.prog.godebug = none := by kernel_rfl

set_option maxRecDepth 100000 in
theorem fieldKnown_lifted (os : Os) (started : os.Started) (H : Type) (enc : TypeId × Value → H) :
    ReturnsInHanded {} Try.checked os 3 .any (Rows.fieldKnownSpec.pre6 enc Try.prog Try.f3 Rows.fieldKnownRow.domain false) (Rows.fieldKnownSpec.post enc Try.prog Try.f3 false true false false) := by
  refine returnsInHanded_of_change (C := Try.checked) fieldKnown_own started (by kernel_rfl) Try.func3
    (ChangeSpec.witness6 (enc := enc) (C := Try.checked) false ⟨#[], #[], []⟩ 8 (by kernel_rfl) (by kernel_rfl) (by kernel_rfl) (by kernel_rfl)) ?_
  intro W base args ds gs before hval0 hW hcnd _
  have hW' := hW
  obtain ⟨p, q, hA0, hV, rfl, hfz, hnd⟩ := hW
  have hA : DataW.TrodAll enc Try.prog W 0 (fun _ => true) true Try.f3.params.toList args.toList ds p := hA0
  rw [Try.params3] at hA
  obtain ⟨rfl, rfl, rfl⟩ := trodAll_none hA
  obtain ⟨rfl, rfl⟩ := trodVars_none hV
  clear hA0 hval0
  simp only [List.append_nil] at hW'
  refine (fieldKnown_true  W).mono fun e W' ⟨he, bel⟩ => ?_
  subst he
  exact ⟨_, rfl, _, _, _, [], [], [], hW', trodAll_mk1 (shut_bool Try.underlying4 _), trodAll_mk0, rfl, bel.frame _, fun h => by cases h⟩

theorem fieldKnown_holds : Rows.FieldKnownSaid :=
  OpenClaim.holds_of_wide 3 Try.f3 rfl rfl rfl rfl rfl rfl rfl ⟨rfl, rfl, rfl, rfl, rfl⟩ rfl rfl rfl rfl rfl (by kernel_rfl) Try.func3 (by kernel_rfl)
    (of_decide_eq_true (by kernel_rfl)) (by unfold Func.isWrapper; first | (rw [if_pos (by decide +kernel)]; kernel_rfl) | (rw [if_neg (by decide +kernel)]; exact ⟨rfl, rfl⟩))
    (fun os started H enc _ => fieldKnown_lifted os started H enc)
#print axioms fieldKnown_holds

end Go.Proofs.Ytinacaflhphmkaa
