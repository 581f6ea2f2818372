/-
  ScalarKnown: what chapter 8 says of more than 64 bytes, of L less 1, of bits.
  Conditions: none.
-/
import Derived.Test.YtgajheocobgecaaScL
import Derived.Test.YtgajheocobgecaaFdO
import Derived.Test.YtgajheocobgecaaUpT
namespace Go.Proofs.Ytgajheocobgecaa
open Go.RowKit

open Go.ChangeShapes Go.WideShapes Go.ChangeAt
theorem z64 (w : World) : (zeroValue 42).run Try.prog w = .ok (.agg (byteVals (zerB 64)).toArray) w :=
  (zero_of_info (P := Try.prog) (t := 42) (v := .agg (byteVals (zerB 64)).toArray) (n := 64) (by kernel_rfl)).1 w
theorem make70 (w : World) : (Instr.makeSlice 41 (.int .i64 70) (.int .i64 70)).run Try.prog w = .ok (.slice (some ⟨w.heap.size, 0, none⟩) 70 70) (w.alloc (.cells (byteVals (zerB 70)).toArray 5)) := make_run 70 70 rfl (by decide) w
/-- All bits. -/
def filB (n : Nat) : List UInt8 := List.replicate n 255
theorem filB_len (n : Nat) : (filB n).length = n := List.length_replicate
def ones (k m : Nat) : List UInt8 := (List.range k).map (fun _ => (255 : UInt8)) ++ List.replicate m 0
theorem ones_len (k m : Nat) : (ones k m).length = k + m := by simp [ones]
theorem ones_set (k m : Nat) : (ones k (m + 1)).set k 255 = ones (k + 1) m := fill_set (fun _ => 255) 0 k m
theorem ones_full (k : Nat) : ones k 0 = filB k := by
  unfold ones filB
  rw [List.replicate_zero, List.append_nil]
  apply List.ext_getElem?
  intro i
  by_cases h : i < k <;> simp [h]
theorem ones_none (m : Nat) : ones 0 m = zerB m := rfl
def longB : List UInt8 := (((zerB 70).set 0 9).set 64 1).set 69 1
theorem longB_len : longB.length = 70 := rfl
theorem less_set : (b32 7237005577332262213973186563042994240857116359379907606001950938285454250989).set 0 236 = b32 7237005577332262213973186563042994240857116359379907606001950938285454250988 := by decide +kernel
theorem less_get : ((b32 7237005577332262213973186563042994240857116359379907606001950938285454250989).getD 0 0).toNat = 237 := by decide +kernel
theorem bys_br {w : World} {g : Nat} {l : List UInt8} (h : BR w g l) (hl : l.length ≤ 100000) : Bys w (.slice (some ⟨g, 0, none⟩) l.length l.length) l :=
  ⟨_, _, rfl, ⟨Nat.le_refl _, by unfold maxLen; omega, fun h => by cases h⟩, .inr ⟨g, 0, rfl, (Array.getElem?_eq_some_iff.1 (show w.heap[g]? = _ from h)).1, fun i hi => by
    have := (h.cells hi).1
    rw [Nat.zero_add, this]
    simp [List.getD_eq_getElem?_getD, List.getElem?_eq_getElem hi]⟩⟩
theorem BR.ext {w : World} {b : Nat} {l : List UInt8} (h : BR w b l) {w' : World} (p : Below w.heap.size w w') : BR w' b l := (p.block b (Array.getElem?_eq_some_iff.1 (show w.heap[b]? = _ from h)).1).trans h
theorem BR.other {w w' : World} {b : Nat} {l : List UInt8} (h : BR w b l) (hb : w'.heap[b]? = w.heap[b]?) : BR w' b l := hb.trans h
theorem BR.lt {w : World} {b : Nat} {l : List UInt8} (h : BR w b l) : b < w.heap.size := (Array.getElem?_eq_some_iff.1 (show w.heap[b]? = _ from h)).1
theorem BR.put {w : World} {g q : Nat} {O : List UInt8} (h : BR w g O) (z : UInt8) : BR (w.setCell ⟨g, q, none⟩ (.int .u8 (z.toNat : Int))) g (O.set q z) := h.set z
theorem le_fil32 : le (filB 32) = 115792089237316195423570985008687907853269984665640564039457584007913129639936 - 1 := by decide +kernel
theorem bys64 {w : World} {b : Nat} {t : TypeId} (h : BT w b t (filB 64)) : Bys w (.slice (some ⟨b, 0, none⟩) 64 64) (filB 64) := bys_box h (by rw [filB_len]; decide)
theorem bys70 {w : World} {b : Nat} (h : BR w b longB) : Bys w (.slice (some ⟨b, 0, none⟩) 70 70) longB := bys_br h (by rw [longB_len]; decide)
set_option maxRecDepth 100000 in
set_option maxHeartbeats 1000000 in
theorem scalarKnown_true (w : World) :
    Calls Try.prog 4 #[] w fun e w' => e = .returned (.bool true) ∧ Below w.heap.size w w' := by
  have hz := zM
  have HQH1 := Lib.hid (fun w => Good_sc (b32 7237005577332262213973186563042994240857116359379907606001950938285454250988) w (b32_len 7237005577332262213973186563042994240857116359379907606001950938285454250988))
  rw [show decide (le (b32 7237005577332262213973186563042994240857116359379907606001950938285454250988) < 7237005577332262213973186563042994240857116359379907606001950938285454250989) = true from (decide_eq_true (by rw [le_b32 7237005577332262213973186563042994240857116359379907606001950938285454250988 (by decide)]; decide))] at HQH1
  obtain ⟨rH2, hrH2⟩ : ∃ r, b32 (oNeg (le (b32 1))) = r := ⟨_, rfl⟩
  have HQH2 := Lib.hid (fun w => Neg_sc (b32 1) w (b32_len 1))
  rw [hrH2] at HQH2
  have HLH2 := Lib.hid (show rH2.length = 32 by rw [← hrH2]; exact b32_len _)
  have HVH2 := Lib.hid (show le rH2 = (oNeg (le (b32 1))) by rw [← hrH2]; exact le_b32 _ (lt4L (oNeg_lt _ )))
  clear hrH2
  obtain ⟨rH3, hrH3⟩ : ∃ r, b32 (oNeg (le (zerB 32))) = r := ⟨_, rfl⟩
  have HQH3 := Lib.hid (fun w => Neg_sc (zerB 32) w (zerB_len 32))
  rw [hrH3] at HQH3
  have HLH3 := Lib.hid (show rH3.length = 32 by rw [← hrH3]; exact b32_len _)
  have HVH3 := Lib.hid (show le rH3 = (oNeg (le (zerB 32))) by rw [← hrH3]; exact le_b32 _ (lt4L (oNeg_lt _ )))
  clear hrH3
  obtain ⟨rH4, hrH4⟩ : ∃ r, b32 (oAdd (le (b32 7237005577332262213973186563042994240857116359379907606001950938285454250988)) (le (b32 1))) = r := ⟨_, rfl⟩
  have HQH4 := Lib.hid (fun w => Add_sc (b32 7237005577332262213973186563042994240857116359379907606001950938285454250988) (b32 1) w (b32_len 7237005577332262213973186563042994240857116359379907606001950938285454250988) (b32_len 1))
  rw [hrH4] at HQH4
  have HLH4 := Lib.hid (show rH4.length = 32 by rw [← hrH4]; exact b32_len _)
  have HVH4 := Lib.hid (show le rH4 = (oAdd (le (b32 7237005577332262213973186563042994240857116359379907606001950938285454250988)) (le (b32 1))) by rw [← hrH4]; exact le_b32 _ (lt4L (oAdd_lt _ _ )))
  clear hrH4
  obtain ⟨rH5, hrH5⟩ : ∃ r, b32 (oMul (le (b32 7237005577332262213973186563042994240857116359379907606001950938285454250988)) (le (b32 7237005577332262213973186563042994240857116359379907606001950938285454250988)) (le (zerB 32))) = r := ⟨_, rfl⟩
  have HQH5 := Lib.hid (fun w => MulAdd_sc (b32 7237005577332262213973186563042994240857116359379907606001950938285454250988) (b32 7237005577332262213973186563042994240857116359379907606001950938285454250988) (zerB 32) w (b32_len 7237005577332262213973186563042994240857116359379907606001950938285454250988) (b32_len 7237005577332262213973186563042994240857116359379907606001950938285454250988) (zerB_len 32))
  rw [hrH5] at HQH5
  have HLH5 := Lib.hid (show rH5.length = 32 by rw [← hrH5]; exact b32_len _)
  have HVH5 := Lib.hid (show le rH5 = (oMul (le (b32 7237005577332262213973186563042994240857116359379907606001950938285454250988)) (le (b32 7237005577332262213973186563042994240857116359379907606001950938285454250988)) (le (zerB 32))) by rw [← hrH5]; exact le_b32 _ (lt4L (oMul_lt _ _ _ )))
  clear hrH5
  obtain ⟨rH6, hrH6⟩ : ∃ r, b32 (le longB % 13407807929942597099574024998205846127479365820592393377723561443721764030073546976801874298166903427690031858186486050853753882811946569946433649006084096 % 7237005577332262213973186563042994240857116359379907606001950938285454250989) = r := ⟨_, rfl⟩
  have HQH6 := Lib.hid (fun v w (h : Bys w v longB) => Of_sc v longB w h)
  rw [hrH6] at HQH6
  have HLH6 := Lib.hid (show rH6.length = 32 by rw [← hrH6]; exact b32_len _)
  have HVH6 := Lib.hid (show le rH6 = (le longB % 13407807929942597099574024998205846127479365820592393377723561443721764030073546976801874298166903427690031858186486050853753882811946569946433649006084096 % 7237005577332262213973186563042994240857116359379907606001950938285454250989) by rw [← hrH6]; exact le_b32 _ (lt4L (Nat.mod_lt _ L_pos)))
  clear hrH6
  obtain ⟨rH7, hrH7⟩ : ∃ r, b32 (le [] % 13407807929942597099574024998205846127479365820592393377723561443721764030073546976801874298166903427690031858186486050853753882811946569946433649006084096 % 7237005577332262213973186563042994240857116359379907606001950938285454250989) = r := ⟨_, rfl⟩
  have HQH7 := Lib.hid (fun v w (h : Bys w v []) => Of_sc v [] w h)
  rw [hrH7] at HQH7
  have HLH7 := Lib.hid (show rH7.length = 32 by rw [← hrH7]; exact b32_len _)
  have HVH7 := Lib.hid (show le rH7 = (le [] % 13407807929942597099574024998205846127479365820592393377723561443721764030073546976801874298166903427690031858186486050853753882811946569946433649006084096 % 7237005577332262213973186563042994240857116359379907606001950938285454250989) by rw [← hrH7]; exact le_b32 _ (lt4L (Nat.mod_lt _ L_pos)))
  clear hrH7
  obtain ⟨rH8, hrH8⟩ : ∃ r, b32 (le (filB 64) % 13407807929942597099574024998205846127479365820592393377723561443721764030073546976801874298166903427690031858186486050853753882811946569946433649006084096 % 7237005577332262213973186563042994240857116359379907606001950938285454250989) = r := ⟨_, rfl⟩
  have HQH8 := Lib.hid (fun v w (h : Bys w v (filB 64)) => Of_sc v (filB 64) w h)
  rw [hrH8] at HQH8
  have HLH8 := Lib.hid (show rH8.length = 32 by rw [← hrH8]; exact b32_len _)
  have HVH8 := Lib.hid (show le rH8 = (le (filB 64) % 13407807929942597099574024998205846127479365820592393377723561443721764030073546976801874298166903427690031858186486050853753882811946569946433649006084096 % 7237005577332262213973186563042994240857116359379907606001950938285454250989) by rw [← hrH8]; exact le_b32 _ (lt4L (Nat.mod_lt _ L_pos)))
  clear hrH8
  have HQH9 := Lib.hid (fun w => Good_sc rH8 w HLH8.out)
  rw [show decide (le rH8 < 7237005577332262213973186563042994240857116359379907606001950938285454250989) = true from (decide_eq_true (by rw [HVH8.out]; exact Nat.mod_lt _ L_pos))] at HQH9
  have HQH10 := Lib.hid (fun w => Bit_sc (filB 32) (255) w (filB_len 32) (by decide) (by decide))
  rw [show bitB (le (filB 32)) (255) = true from (by decide +kernel)] at HQH10
  have HQH11 := Lib.hid (fun w => Bit_sc (filB 32) (256) w (filB_len 32) (by decide) (by decide))
  rw [show bitB (le (filB 32)) (256) = false from (by decide +kernel)] at HQH11
  have HQH12 := Lib.hid (fun w => Bit_sc (filB 32) (-1) w (filB_len 32) (by decide) (by decide))
  rw [show bitB (le (filB 32)) (-1) = false from (by decide +kernel)] at HQH12
  have HQH13 := Lib.hid (fun w => Bit_sc (b32 1) (0) w (b32_len 1) (by decide) (by decide))
  rw [show bitB (le (b32 1)) (0) = true from (by decide +kernel)] at HQH13
  have HQH14 := Lib.hid (fun w => Bit_sc (b32 1) (1) w (b32_len 1) (by decide) (by decide))
  rw [show bitB (le (b32 1)) (1) = false from (by decide +kernel)] at HQH14
  obtain ⟨rH15, hrH15⟩ : ∃ r, b32 (oNeg (le (filB 32))) = r := ⟨_, rfl⟩
  have HQH15 := Lib.hid (fun w => Neg_sc (filB 32) w (filB_len 32))
  rw [hrH15] at HQH15
  have HLH15 := Lib.hid (show rH15.length = 32 by rw [← hrH15]; exact b32_len _)
  have HVH15 := Lib.hid (show le rH15 = (oNeg (le (filB 32))) by rw [← hrH15]; exact le_b32 _ (lt4L (oNeg_lt _ )))
  clear hrH15
  have HQH16 := Lib.hid (fun w => Good_sc rH15 w HLH15.out)
  rw [show decide (le rH15 < 7237005577332262213973186563042994240857116359379907606001950938285454250989) = true from (decide_eq_true (by rw [HVH15.out]; exact oNeg_lt _))] at HQH16
  go_enter Try.func4, Try.ntmps4
  go_wp2_with fail
  refine (awake8_any _).mono ?_
  rintro e wa ⟨rfl, hba⟩
  obtain ⟨N, hN⟩ : ∃ n, w.heap.size = n := ⟨_, rfl⟩
  rw [hN] at hba
  have HN := Lib.hid hN
  have HB := Lib.hid hba
  clear hN hba
  go_wp2_with (first
    | (refine wpList_build' rfl 39 _ rfl ((byteVals (b32 1)).toArray) (by kernel_rfl) ?_)
    | (refine wpList_store_row rfl 39 _ _ rfl wa.heap.size ((byteVals (b32 1)).toArray) rfl rfl 39 _ (Go.heap_alloc_new _ _) (sM _ (b32_len _)) (oN (zerB 32) (b32 1) (zerB_len 32) (b32_len _)) (byteVals_one _) (Stop.out ?_)))
  generalize hWS : World.setRow _ _ _ = w3
  obtain ⟨M1, hM⟩ : ∃ n, wa.heap.size = n := ⟨_, rfl⟩
  have HM1 := Lib.hid (show BT w3 M1 39 (b32 1) by subst hWS; rw [← hM]; exact setRow_heap _ _ _ _ _ _ (Go.heap_alloc_new _ _))
  have HB' := Lib.hid (show Below N w w3 by subst hWS; exact Below.setRow (HB.out.alloc (by have := HB.out.size; have := HN.out; omega) _) (by have := HB.out.size; have := HN.out; omega) _)
  rw [hM]
  clear hWS hM HB 
  have HB := HB'
  clear HB' 
  refine ⟨?_⟩
  go_wp2_with fail
  refine (ell_any _).mono ?_
  rintro e w4e ⟨rfl, hb4⟩
  have HM1' := Lib.hid (HM1.out.ext hb4)
  have HB' := Lib.hid (HB.out.trans (hb4.mono (show N ≤ _ by have := HB.out.size; have := HN.out; omega)))
  clear hb4 HB HM1
  have HB := HB'
  have HM1 := HM1'
  clear HB' HM1'
  go_wp2_with (refine wpList_store_row rfl 39 _ _ rfl w4e.heap.size ((byteVals (b32 7237005577332262213973186563042994240857116359379907606001950938285454250989)).toArray) rfl rfl 39 _ (Go.heap_alloc_new _ _) (sM _ (b32_len _)) (oN (zerB 32) (b32 7237005577332262213973186563042994240857116359379907606001950938285454250989) (zerB_len 32) (b32_len _)) (byteVals_one _) (Stop.out ?_))
  generalize hWS : World.setRow _ _ _ = w4x
  obtain ⟨M2, hM⟩ : ∃ n, w4e.heap.size = n := ⟨_, rfl⟩
  have HNM2 := Lib.hid (show N ≤ M2 by rw [← hM]; have := HB.out.size; have := HN.out; omega)
  have HM1' := Lib.hid (show BT w4x M1 39 (b32 1) by subst hWS; exact HM1.out.other ((setRow_other _ _ _ _ (Nat.ne_of_lt HM1.out.lt)).trans (Go.heap_alloc_old _ _ HM1.out.lt)))
  have HM1n := Lib.hid (show M1 < M2 by rw [← hM]; exact HM1.out.lt)
  have HM2 := Lib.hid (show BT w4x M2 39 (b32 7237005577332262213973186563042994240857116359379907606001950938285454250989) by subst hWS; rw [← hM]; exact setRow_heap _ _ _ _ _ _ (Go.heap_alloc_new _ _))
  have HB' := Lib.hid (show Below N w w4x by subst hWS; exact Below.setRow (HB.out.alloc (by have := HB.out.size; have := HN.out; omega) _) (by have := HB.out.size; have := HN.out; omega) _)
  rw [hM]
  clear hWS hM HB HM1
  have HB := HB'
  have HM1 := HM1'
  clear HB' HM1'
  refine ⟨?_⟩
  have c0 := HM2.out.cell (i := 0) (by rw [b32_len]; decide)
  rw [less_get] at c0
  have f0 := HM2.out.frozen 0
  go_upto_region 6 with fail
  generalize hW5 : World.setCell _ _ _ = w5
  have HM2' := Lib.hid (show BT w5 M2 39 (b32 7237005577332262213973186563042994240857116359379907606001950938285454250988) by subst hW5; rw [← less_set]; exact HM2.out.set 236)
  have HM1' := Lib.hid (show BT w5 M1 39 (b32 1) by subst hW5; exact HM1.out.other (setCell_other _ (by have := HM1n.out; omega)))
  have HB' := Lib.hid (show Below N w w5 by subst hW5; exact HB.out.setCell (p := ⟨M2, 0, none⟩) (by show N ≤ M2; exact HNM2.out) _)
  clear hW5 c0 f0 HM1 HM2 HB
  have HM1 := HM1'
  have HM2 := HM2'
  have HB := HB'
  clear HM1' HM2' HB'
  have hmk := make70
  go_upto_region 7 with fail
  clear hmk
  generalize hWS : World.alloc _ _ = w6
  obtain ⟨G0, hM⟩ : ∃ n, w5.heap.size = n := ⟨_, rfl⟩
  have HNG := Lib.hid (show N ≤ G0 by rw [← hM]; have := HB.out.size; have := HN.out; omega)
  have HM1' := Lib.hid (show BT w6 M1 39 (b32 1) by subst hWS; exact HM1.out.other (Go.heap_alloc_old _ _ HM1.out.lt))
  have HM1n := Lib.hid (show M1 < G0 by rw [← hM]; exact HM1.out.lt)
  have HM2' := Lib.hid (show BT w6 M2 39 (b32 7237005577332262213973186563042994240857116359379907606001950938285454250988) by subst hWS; exact HM2.out.other (Go.heap_alloc_old _ _ HM2.out.lt))
  have HM2n := Lib.hid (show M2 < G0 by rw [← hM]; exact HM2.out.lt)
  have HG := Lib.hid (show BR w6 G0 (zerB 70) by subst hWS; rw [← hM]; exact Go.heap_alloc_new _ _)
  have HB' := Lib.hid (show Below N w w6 by subst hWS; exact HB.out.alloc (by have := HB.out.size; have := HN.out; omega) _)
  rw [hM]
  clear hWS hM HB HM1 HM2
  have HB := HB'
  have HM1 := HM1'
  have HM2 := HM2'
  clear HB' HM1' HM2'
  have hg0 := HG.out.cells (q := 0) (by rw [zerB_len]; decide)
  have hg1 := HG.out.cells (q := 64) (by rw [zerB_len]; decide)
  have hg2 := HG.out.cells (q := 69) (by rw [zerB_len]; decide)
  obtain ⟨c0, f0⟩ := hg0
  obtain ⟨c1, f1⟩ := hg1
  obtain ⟨c2, f2⟩ := hg2
  go_upto_region 8 with fail
  generalize hW7 : World.setCell _ _ _ = w7
  have HG' := Lib.hid (show BR w7 G0 longB by subst hW7; exact ((HG.out.put 9).put 1).put 1)
  have HM1' := Lib.hid (show BT w7 M1 39 (b32 1) by subst hW7; exact HM1.out.other ((setCell_other _ (Nat.ne_of_lt HM1n.out)).trans ((setCell_other _ (Nat.ne_of_lt HM1n.out)).trans (setCell_other _ (Nat.ne_of_lt HM1n.out)))))
  have HM2' := Lib.hid (show BT w7 M2 39 (b32 7237005577332262213973186563042994240857116359379907606001950938285454250988) by subst hW7; exact HM2.out.other ((setCell_other _ (Nat.ne_of_lt HM2n.out)).trans ((setCell_other _ (Nat.ne_of_lt HM2n.out)).trans (setCell_other _ (Nat.ne_of_lt HM2n.out)))))
  have HB' := Lib.hid (show Below N w w7 by subst hW7; exact ((HB.out.setCell (p := ⟨G0, 0, none⟩) (by show N ≤ G0; exact HNG.out) _).setCell (p := ⟨G0, 64, none⟩) (by show N ≤ G0; exact HNG.out) _).setCell (p := ⟨G0, 69, none⟩) (by show N ≤ G0; exact HNG.out) _)
  clear hW7 c0 f0 c1 f1 c2 f2 HM1 HM2 HB HG
  have HM1 := HM1'
  have HM2 := HM2'
  have HG := HG'
  have HB := HB'
  clear HM1' HM2' HB' HG'
  have hz64 := z64
  go_upto_region 9 with fail
  clear hz64
  generalize hWS : World.alloc _ _ = w8
  obtain ⟨M4, hM⟩ : ∃ n, w7.heap.size = n := ⟨_, rfl⟩
  have HNM := Lib.hid (show N ≤ M4 by rw [← hM]; have := HB.out.size; have := HN.out; omega)
  have HM1' := Lib.hid (show BT w8 M1 39 (b32 1) by subst hWS; exact HM1.out.other (Go.heap_alloc_old _ _ HM1.out.lt))
  have HM14n := Lib.hid (show M1 < M4 by rw [← hM]; exact HM1.out.lt)
  have HM2' := Lib.hid (show BT w8 M2 39 (b32 7237005577332262213973186563042994240857116359379907606001950938285454250988) by subst hWS; exact HM2.out.other (Go.heap_alloc_old _ _ HM2.out.lt))
  have HM24n := Lib.hid (show M2 < M4 by rw [← hM]; exact HM2.out.lt)
  have HG' := Lib.hid (show BR w8 G0 longB by subst hWS; exact HG.out.other (Go.heap_alloc_old _ _ HG.out.lt))
  have HG4n := Lib.hid (show G0 < M4 by rw [← hM]; exact HG.out.lt)
  have HM4 := Lib.hid (show BT w8 M4 42 (zerB 64) by subst hWS; rw [← hM]; exact Go.heap_alloc_new _ _)
  have HB' := Lib.hid (show Below N w w8 by subst hWS; exact HB.out.alloc (by have := HB.out.size; have := HN.out; omega) _)
  rw [hM]
  clear hWS hM HB HM1 HM2 HG
  have HB := HB'
  have HM1 := HM1'
  have HM2 := HM2'
  have HG := HG'
  clear HB' HM1' HM2' HG'
  go_upto_region 10 with fail
  generalize hWS : World.alloc _ _ = w9
  obtain ⟨M5, hM⟩ : ∃ n, w8.heap.size = n := ⟨_, rfl⟩
  have HM1' := Lib.hid (show BT w9 M1 39 (b32 1) by subst hWS; exact HM1.out.other (Go.heap_alloc_old _ _ HM1.out.lt))
  have HM15n := Lib.hid (show M1 < M5 by rw [← hM]; exact HM1.out.lt)
  have HM2' := Lib.hid (show BT w9 M2 39 (b32 7237005577332262213973186563042994240857116359379907606001950938285454250988) by subst hWS; exact HM2.out.other (Go.heap_alloc_old _ _ HM2.out.lt))
  have HM25n := Lib.hid (show M2 < M5 by rw [← hM]; exact HM2.out.lt)
  have HG' := Lib.hid (show BR w9 G0 longB by subst hWS; exact HG.out.other (Go.heap_alloc_old _ _ HG.out.lt))
  have HG5n := Lib.hid (show G0 < M5 by rw [← hM]; exact HG.out.lt)
  have HM4' := Lib.hid (show BT w9 M4 42 (zerB 64) by subst hWS; exact HM4.out.other (Go.heap_alloc_old _ _ HM4.out.lt))
  have HM45n := Lib.hid (show M4 < M5 by rw [← hM]; exact HM4.out.lt)
  have HM5 := Lib.hid (show BT w9 M5 39 (zerB 32) by subst hWS; rw [← hM]; exact Go.heap_alloc_new _ _)
  have HB' := Lib.hid (show Below N w w9 by subst hWS; exact HB.out.alloc (by have := HB.out.size; have := HN.out; omega) _)
  rw [hM]
  clear hWS hM HB HM1 HM2 HG HM4
  have HB := HB'
  have HM1 := HM1'
  have HM2 := HM2'
  have HG := HG'
  have HM4 := HM4'
  clear HB' HM1' HM2' HG' HM4'
  go_wp2_with fail
  go_loopw [6] (fun iv wr => ∃ (k m : Nat), iv = .int .i64 k ∧ k + m = 64 ∧ BT wr M1 39 (b32 1) ∧ BT wr M2 39 (b32 7237005577332262213973186563042994240857116359379907606001950938285454250988) ∧ BR wr G0 longB ∧ BT wr M4 42 (ones k m) ∧ BT wr M5 39 (zerB 32) ∧ Below N w wr) (fun i _ => 64 - (intOf i).toNat)
  case atStart => exact ⟨0, 64, rfl, rfl, HM1.out, HM2.out, HG.out, by rw [ones_none]; exact HM4.out, HM5.out, HB.out⟩
  case round =>
    obtain ⟨k, m, rfl, hk, h1, h2, h3, h4, h5, hbel⟩ := hrel
    clear HM1 HM2 HG HM4 HM5 HB
    have HM1 := Lib.hid h1
    have HM2 := Lib.hid h2
    have HG := Lib.hid h3
    have HM4 := Lib.hid h4
    have HM5 := Lib.hid h5
    have HB := Lib.hid hbel
    clear h1 h2 h3 h4 h5 hbel
    cases m with
    | succ m =>
      have hlt' : (k : Int) < 64 := by omega
      have hk0 : (0 : Int) ≤ (k : Int) := by omega
      have c1 := HM4.out.cell (i := k) (by rw [ones_len]; omega)
      generalize (ones k (m + 1)).getD k 0 = oo at c1
      have f1 := HM4.out.frozen k
      have HO := Lib.hid (ones_set k m)
      go_wp2_with fail
      go_roundw
      case rel => exact ⟨k + 1, m, rfl, by omega, HM1.out.other (setCell_other _ (by have := HM14n.out; have := HM15n.out; omega)), HM2.out.other (setCell_other _ (by have := HM24n.out; have := HM25n.out; omega)), HG.out.other (setCell_other _ (by have := HG4n.out; have := HG5n.out; omega)), by rw [← HO.out]; exact HM4.out.set 255, HM5.out.other (setCell_other _ (by have := HM45n.out; omega)), HB.out.setCell (p := ⟨M4, k, none⟩) (by show N ≤ M4; have := HNM.out; have := HM45n.out; omega) _⟩
      case measure => simp [intOf]; omega
    | zero =>
      obtain rfl : k = 64 := by omega
      have HM4' := Lib.hid (show BT wr M4 42 (filB 64) by rw [← ones_full]; exact HM4.out)
      clear HM4
      have HM4 := HM4'
      clear HM4'
      go_wp2_with fail
      go_loopw [7] (fun iv wr => ∃ (k m : Nat), iv = .int .i64 k ∧ k + m = 32 ∧ BT wr M1 39 (b32 1) ∧ BT wr M2 39 (b32 7237005577332262213973186563042994240857116359379907606001950938285454250988) ∧ BR wr G0 longB ∧ BT wr M5 39 (ones k m) ∧ BT wr M4 42 (filB 64) ∧ Below N w wr) (fun i _ => 32 - (intOf i).toNat)
      case atStart => exact ⟨0, 32, rfl, rfl, HM1.out, HM2.out, HG.out, by rw [ones_none]; exact HM5.out, HM4.out, HB.out⟩
      case round =>
        obtain ⟨k, m, rfl, hk, h1, h2, h3, h4, h5, hbel⟩ := hrel
        clear HM1 HM2 HG HM4 HM5 HB
        have HM1 := Lib.hid h1
        have HM2 := Lib.hid h2
        have HG := Lib.hid h3
        have HM5 := Lib.hid h4
        have HM4 := Lib.hid h5
        have HB := Lib.hid hbel
        clear h1 h2 h3 h4 h5 hbel
        cases m with
        | succ m =>
          have hlt' : (k : Int) < 32 := by omega
          have hk0 : (0 : Int) ≤ (k : Int) := by omega
          have c1 := HM5.out.cell (i := k) (by rw [ones_len]; omega)
          generalize (ones k (m + 1)).getD k 0 = oo at c1
          have f1 := HM5.out.frozen k
          have HO := Lib.hid (ones_set k m)
          go_wp2_with fail
          go_roundw
          case rel => exact ⟨k + 1, m, rfl, by omega, HM1.out.other (setCell_other _ (by have := HM14n.out; have := HM15n.out; omega)), HM2.out.other (setCell_other _ (by have := HM24n.out; have := HM25n.out; omega)), HG.out.other (setCell_other _ (by have := HG4n.out; have := HG5n.out; omega)), by rw [← HO.out]; exact HM5.out.set 255, HM4.out.other (setCell_other _ (by have := HM45n.out; omega)), HB.out.setCell (p := ⟨M5, k, none⟩) (by show N ≤ M5; have := HNM.out; have := HM45n.out; omega) _⟩
          case measure => simp [intOf]; omega
        | zero =>
          obtain rfl : k = 32 := by omega
          have HM5' := Lib.hid (show BT wr M5 39 (filB 32) by rw [← ones_full]; exact HM5.out)
          clear HM5
          have HM5 := HM5'
          clear HM5'
          go_upto_region 18 with fail
          refine wp_region_upT 73 _ (by kernel_rfl) (by kernel_rfl) rfl (by kernel_rfl) (fun _ _ dst _ _ h => by cases dst <;> exact h) ?_
          simp only [List.append, List.take_succ_cons, List.take_zero, List.drop_succ_cons, List.drop_zero]
          refine upW_val (by rfl) (by rfl) (by rfl) (fun K hK => quiet_load_row _ _ rfl M2 rfl 39 _ (0, 0) _ HM2.out Try.underlying39 rfl (sM (b32 7237005577332262213973186563042994240857116359379907606001950938285454250988) (b32_len 7237005577332262213973186563042994240857116359379907606001950938285454250988)) (hK _ ?_))
          simp only [Act.put, List.setIfInBounds_toArray, List.set]
          refine upW_call (by rfl) (by rfl) (.bool true) _ rfl (by simp) (fun p => ?_) ?_
          · go_big_quiet_op
            exact ⟨_, fun q => Calls.ext_of (HQH1.out q.x), rfl⟩
          simp only [Act.put, List.setIfInBounds_toArray, List.set]
          refine upW_val (by rfl) (by rfl) (by rfl) ?_
          intro K hK
          go_big_quiet_op
          refine hK _ ?_
          refine upW_val (by rfl) (by rfl) (by rfl) (fun K hK => quiet_load_row _ _ rfl M1 rfl 39 _ (0, 0) _ HM1.out Try.underlying39 rfl (sM (b32 1) (b32_len 1)) (hK _ ?_))
          simp only [Act.put, List.setIfInBounds_toArray, List.set]
          refine upW_call (by rfl) (by rfl) (.agg (byteVals rH2).toArray) _ rfl (by simp) (fun p => ?_) ?_
          · go_big_quiet_op
            exact ⟨_, fun q => Calls.ext_of (HQH2.out q.x), rfl⟩
          simp only [Act.put, List.setIfInBounds_toArray, List.set]
          refine upW_val (by rfl) (by rfl) (by rfl) (fun K hK => quiet_load_row _ _ rfl M2 rfl 39 _ (0, 0) _ HM2.out Try.underlying39 rfl (sM (b32 7237005577332262213973186563042994240857116359379907606001950938285454250988) (b32_len 7237005577332262213973186563042994240857116359379907606001950938285454250988)) (hK _ ?_))
          simp only [Act.put, List.setIfInBounds_toArray, List.set]
          refine upW_late (by rfl) (.bool true) (fun w => run_eqN rH2 (b32 7237005577332262213973186563042994240857116359379907606001950938285454250988) HLH2.out (b32_len 7237005577332262213973186563042994240857116359379907606001950938285454250988) _ _ _ _ 39 rfl Try.underlying39 (by kernel_rfl) rfl rfl true (decide_eq_true (eq_le32 HLH2.out (b32_len 7237005577332262213973186563042994240857116359379907606001950938285454250988) (by simp only [(le_b32 1 (by decide)), HVH2.out, (le_b32 7237005577332262213973186563042994240857116359379907606001950938285454250988 (by decide))] <;> exact (by decide +kernel)))) w) ?_
          simp only [Act.put, List.setIfInBounds_toArray, List.set]
          refine upW_val (by rfl) (by rfl) (by rfl) ?_
          intro K hK
          go_big_quiet_op
          refine hK _ ?_
          refine upW_val (by rfl) (by rfl) (by rfl) ?_
          intro K hK
          go_big_quiet_op
          refine hK _ ?_
          refine upW_late (by rfl) (.agg (byteVals (zerB 32)).toArray) (fun w => run_zeroM _ _ rfl w) ?_
          simp only [Act.put, List.setIfInBounds_toArray, List.set]
          refine upW_call (by rfl) (by rfl) (.agg (byteVals rH3).toArray) _ rfl (by simp) (fun p => ?_) ?_
          · go_big_quiet_op
            exact ⟨_, fun q => Calls.ext_of (HQH3.out q.x), rfl⟩
          simp only [Act.put, List.setIfInBounds_toArray, List.set]
          refine upW_late (by rfl) (.agg (byteVals (zerB 32)).toArray) (fun w => run_zeroM _ _ rfl w) ?_
          simp only [Act.put, List.setIfInBounds_toArray, List.set]
          refine upW_late (by rfl) (.bool true) (fun w => run_eqN rH3 (zerB 32) HLH3.out (zerB_len 32) _ _ _ _ 39 rfl Try.underlying39 (by kernel_rfl) rfl rfl true (decide_eq_true (eq_le32 HLH3.out (zerB_len 32) (by simp only [le_zer, HVH3.out] <;> exact (by decide +kernel)))) w) ?_
          simp only [Act.put, List.setIfInBounds_toArray, List.set]
          refine upW_val (by rfl) (by rfl) (by rfl) ?_
          intro K hK
          go_big_quiet_op
          refine hK _ ?_
          refine upW_val (by rfl) (by rfl) (by rfl) ?_
          intro K hK
          go_big_quiet_op
          refine hK _ ?_
          refine upW_val (by rfl) (by rfl) (by rfl) (fun K hK => quiet_load_row _ _ rfl M2 rfl 39 _ (0, 0) _ HM2.out Try.underlying39 rfl (sM (b32 7237005577332262213973186563042994240857116359379907606001950938285454250988) (b32_len 7237005577332262213973186563042994240857116359379907606001950938285454250988)) (hK _ ?_))
          simp only [Act.put, List.setIfInBounds_toArray, List.set]
          refine upW_val (by rfl) (by rfl) (by rfl) (fun K hK => quiet_load_row _ _ rfl M1 rfl 39 _ (0, 0) _ HM1.out Try.underlying39 rfl (sM (b32 1) (b32_len 1)) (hK _ ?_))
          simp only [Act.put, List.setIfInBounds_toArray, List.set]
          refine upW_call (by rfl) (by rfl) (.agg (byteVals rH4).toArray) _ rfl (by simp) (fun p => ?_) ?_
          · go_big_quiet_op
            exact ⟨_, fun q => Calls.ext_of (HQH4.out q.x), rfl⟩
          simp only [Act.put, List.setIfInBounds_toArray, List.set]
          refine upW_late (by rfl) (.agg (byteVals (zerB 32)).toArray) (fun w => run_zeroM _ _ rfl w) ?_
          simp only [Act.put, List.setIfInBounds_toArray, List.set]
          refine upW_late (by rfl) (.bool true) (fun w => run_eqN rH4 (zerB 32) HLH4.out (zerB_len 32) _ _ _ _ 39 rfl Try.underlying39 (by kernel_rfl) rfl rfl true (decide_eq_true (eq_le32 HLH4.out (zerB_len 32) (by simp only [(le_b32 7237005577332262213973186563042994240857116359379907606001950938285454250988 (by decide)), (le_b32 1 (by decide)), HVH4.out, le_zer] <;> exact (by decide +kernel)))) w) ?_
          simp only [Act.put, List.setIfInBounds_toArray, List.set]
          refine upW_val (by rfl) (by rfl) (by rfl) ?_
          intro K hK
          go_big_quiet_op
          refine hK _ ?_
          refine upW_val (by rfl) (by rfl) (by rfl) ?_
          intro K hK
          go_big_quiet_op
          refine hK _ ?_
          refine upW_val (by rfl) (by rfl) (by rfl) (fun K hK => quiet_load_row _ _ rfl M2 rfl 39 _ (0, 0) _ HM2.out Try.underlying39 rfl (sM (b32 7237005577332262213973186563042994240857116359379907606001950938285454250988) (b32_len 7237005577332262213973186563042994240857116359379907606001950938285454250988)) (hK _ ?_))
          simp only [Act.put, List.setIfInBounds_toArray, List.set]
          refine upW_val (by rfl) (by rfl) (by rfl) (fun K hK => quiet_load_row _ _ rfl M2 rfl 39 _ (0, 0) _ HM2.out Try.underlying39 rfl (sM (b32 7237005577332262213973186563042994240857116359379907606001950938285454250988) (b32_len 7237005577332262213973186563042994240857116359379907606001950938285454250988)) (hK _ ?_))
          simp only [Act.put, List.setIfInBounds_toArray, List.set]
          refine upW_late (by rfl) (.agg (byteVals (zerB 32)).toArray) (fun w => run_zeroM _ _ rfl w) ?_
          simp only [Act.put, List.setIfInBounds_toArray, List.set]
          refine upW_call (by rfl) (by rfl) (.agg (byteVals rH5).toArray) _ rfl (by simp) (fun p => ?_) ?_
          · go_big_quiet_op
            exact ⟨_, fun q => Calls.ext_of (HQH5.out q.x), rfl⟩
          simp only [Act.put, List.setIfInBounds_toArray, List.set]
          refine upW_val (by rfl) (by rfl) (by rfl) (fun K hK => quiet_load_row _ _ rfl M1 rfl 39 _ (0, 0) _ HM1.out Try.underlying39 rfl (sM (b32 1) (b32_len 1)) (hK _ ?_))
          simp only [Act.put, List.setIfInBounds_toArray, List.set]
          refine upW_late (by rfl) (.bool true) (fun w => run_eqN rH5 (b32 1) HLH5.out (b32_len 1) _ _ _ _ 39 rfl Try.underlying39 (by kernel_rfl) rfl rfl true (decide_eq_true (eq_le32 HLH5.out (b32_len 1) (by simp only [(le_b32 7237005577332262213973186563042994240857116359379907606001950938285454250988 (by decide)), le_zer, HVH5.out, (le_b32 1 (by decide))] <;> exact (by decide +kernel)))) w) ?_
          simp only [Act.put, List.setIfInBounds_toArray, List.set]
          refine upW_val (by rfl) (by rfl) (by rfl) ?_
          intro K hK
          go_big_quiet_op
          refine hK _ ?_
          refine upW_val (by rfl) (by rfl) (by rfl) ?_
          intro K hK
          go_big_quiet_op
          refine hK _ ?_
          refine upW_val (by rfl) (by rfl) (by rfl) ?_
          intro K hK
          go_big_quiet_op
          refine hK _ ?_
          refine upW_call (by rfl) (by rfl) (.agg (byteVals rH6).toArray) _ rfl (by simp) (fun p => ?_) ?_
          · go_big_quiet_op
            exact ⟨_, fun q => Calls.ext_of (HQH6.out _ q.x ((bys70 HG.out).below (p.h.trans (q.h.mono p.h.size)))), rfl⟩
          simp only [Act.put, List.setIfInBounds_toArray, List.set]
          refine upW_late (by rfl) (.agg (byteVals (b32 9)).toArray) (fun w => run_byteM9 _ _ rfl w) ?_
          simp only [Act.put, List.setIfInBounds_toArray, List.set]
          refine upW_late (by rfl) (.bool true) (fun w => run_eqN rH6 (b32 9) HLH6.out (b32_len 9) _ _ _ _ 39 rfl Try.underlying39 (by kernel_rfl) rfl rfl true (decide_eq_true (eq_le32 HLH6.out (b32_len 9) (by simp only [HVH6.out, (le_b32 9 (by decide))] <;> exact (by decide +kernel)))) w) ?_
          simp only [Act.put, List.setIfInBounds_toArray, List.set]
          refine upW_val (by rfl) (by rfl) (by rfl) ?_
          intro K hK
          go_big_quiet_op
          refine hK _ ?_
          refine upW_val (by rfl) (by rfl) (by rfl) ?_
          intro K hK
          go_big_quiet_op
          refine hK _ ?_
          refine upW_call (by rfl) (by rfl) (.agg (byteVals rH7).toArray) _ rfl (by simp) (fun p => ?_) ?_
          · go_big_quiet_op
            exact ⟨_, fun q => Calls.ext_of (HQH7.out _ q.x (bys_nil q.x)), rfl⟩
          simp only [Act.put, List.setIfInBounds_toArray, List.set]
          refine upW_late (by rfl) (.agg (byteVals (zerB 32)).toArray) (fun w => run_zeroM _ _ rfl w) ?_
          simp only [Act.put, List.setIfInBounds_toArray, List.set]
          refine upW_late (by rfl) (.bool true) (fun w => run_eqN rH7 (zerB 32) HLH7.out (zerB_len 32) _ _ _ _ 39 rfl Try.underlying39 (by kernel_rfl) rfl rfl true (decide_eq_true (eq_le32 HLH7.out (zerB_len 32) (by simp only [HVH7.out, le_zer] <;> exact (by decide +kernel)))) w) ?_
          simp only [Act.put, List.setIfInBounds_toArray, List.set]
          refine upW_val (by rfl) (by rfl) (by rfl) ?_
          intro K hK
          go_big_quiet_op
          refine hK _ ?_
          refine upW_val (by rfl) (by rfl) (by rfl) ?_
          intro K hK
          go_big_quiet_op
          refine hK _ ?_
          refine upW_late (by rfl) (.slice (some ⟨M4, 0, none⟩) 64 64) (fun _ => by kernel_rfl) ?_
          simp only [Act.put, List.setIfInBounds_toArray, List.set]
          refine upW_call (by rfl) (by rfl) (.agg (byteVals rH8).toArray) _ rfl (by simp) (fun p => ?_) ?_
          · go_big_quiet_op
            exact ⟨_, fun q => Calls.ext_of (HQH8.out _ q.x (bys64 (HM4.out.ext (p.h.trans (q.h.mono p.h.size))))), rfl⟩
          simp only [Act.put, List.setIfInBounds_toArray, List.set]
          refine upW_call (by rfl) (by rfl) (.bool true) _ rfl (by simp) (fun p => ?_) ?_
          · go_big_quiet_op
            exact ⟨_, fun q => Calls.ext_of (HQH9.out q.x), rfl⟩
          simp only [Act.put, List.setIfInBounds_toArray, List.set]
          refine upW_val (by rfl) (by rfl) (by rfl) ?_
          intro K hK
          go_big_quiet_op
          refine hK _ ?_
          refine upW_val (by rfl) (by rfl) (by rfl) ?_
          intro K hK
          go_big_quiet_op
          refine hK _ ?_
          refine upW_val (by rfl) (by rfl) (by rfl) (fun K hK => quiet_load_row _ _ rfl M5 rfl 39 _ (0, 0) _ HM5.out Try.underlying39 rfl (sM (filB 32) (filB_len 32)) (hK _ ?_))
          simp only [Act.put, List.setIfInBounds_toArray, List.set]
          refine upW_call (by rfl) (by rfl) (.bool true) _ rfl (by simp) (fun p => ?_) ?_
          · go_big_quiet_op
            exact ⟨_, fun q => Calls.ext_of (HQH10.out q.x), rfl⟩
          simp only [Act.put, List.setIfInBounds_toArray, List.set]
          refine upW_val (by rfl) (by rfl) (by rfl) ?_
          intro K hK
          go_big_quiet_op
          refine hK _ ?_
          refine upW_val (by rfl) (by rfl) (by rfl) ?_
          intro K hK
          go_big_quiet_op
          refine hK _ ?_
          refine upW_val (by rfl) (by rfl) (by rfl) (fun K hK => quiet_load_row _ _ rfl M5 rfl 39 _ (0, 0) _ HM5.out Try.underlying39 rfl (sM (filB 32) (filB_len 32)) (hK _ ?_))
          simp only [Act.put, List.setIfInBounds_toArray, List.set]
          refine upW_call (by rfl) (by rfl) (.bool false) _ rfl (by simp) (fun p => ?_) ?_
          · go_big_quiet_op
            exact ⟨_, fun q => Calls.ext_of (HQH11.out q.x), rfl⟩
          simp only [Act.put, List.setIfInBounds_toArray, List.set]
          refine upW_val (by rfl) (by rfl) (by rfl) ?_
          intro K hK
          go_big_quiet_op
          refine hK _ ?_
          refine upW_val (by rfl) (by rfl) (by rfl) ?_
          intro K hK
          go_big_quiet_op
          refine hK _ ?_
          refine upW_val (by rfl) (by rfl) (by rfl) ?_
          intro K hK
          go_big_quiet_op
          refine hK _ ?_
          refine upW_val (by rfl) (by rfl) (by rfl) (fun K hK => quiet_load_row _ _ rfl M5 rfl 39 _ (0, 0) _ HM5.out Try.underlying39 rfl (sM (filB 32) (filB_len 32)) (hK _ ?_))
          simp only [Act.put, List.setIfInBounds_toArray, List.set]
          refine upW_call (by rfl) (by rfl) (.bool false) _ rfl (by simp) (fun p => ?_) ?_
          · go_big_quiet_op
            exact ⟨_, fun q => Calls.ext_of (HQH12.out q.x), rfl⟩
          simp only [Act.put, List.setIfInBounds_toArray, List.set]
          refine upW_val (by rfl) (by rfl) (by rfl) ?_
          intro K hK
          go_big_quiet_op
          refine hK _ ?_
          refine upW_val (by rfl) (by rfl) (by rfl) ?_
          intro K hK
          go_big_quiet_op
          refine hK _ ?_
          refine upW_val (by rfl) (by rfl) (by rfl) ?_
          intro K hK
          go_big_quiet_op
          refine hK _ ?_
          refine upW_val (by rfl) (by rfl) (by rfl) (fun K hK => quiet_load_row _ _ rfl M1 rfl 39 _ (0, 0) _ HM1.out Try.underlying39 rfl (sM (b32 1) (b32_len 1)) (hK _ ?_))
          simp only [Act.put, List.setIfInBounds_toArray, List.set]
          refine upW_call (by rfl) (by rfl) (.bool true) _ rfl (by simp) (fun p => ?_) ?_
          · go_big_quiet_op
            exact ⟨_, fun q => Calls.ext_of (HQH13.out q.x), rfl⟩
          simp only [Act.put, List.setIfInBounds_toArray, List.set]
          refine upW_val (by rfl) (by rfl) (by rfl) ?_
          intro K hK
          go_big_quiet_op
          refine hK _ ?_
          refine upW_val (by rfl) (by rfl) (by rfl) ?_
          intro K hK
          go_big_quiet_op
          refine hK _ ?_
          refine upW_val (by rfl) (by rfl) (by rfl) (fun K hK => quiet_load_row _ _ rfl M1 rfl 39 _ (0, 0) _ HM1.out Try.underlying39 rfl (sM (b32 1) (b32_len 1)) (hK _ ?_))
          simp only [Act.put, List.setIfInBounds_toArray, List.set]
          refine upW_call (by rfl) (by rfl) (.bool false) _ rfl (by simp) (fun p => ?_) ?_
          · go_big_quiet_op
            exact ⟨_, fun q => Calls.ext_of (HQH14.out q.x), rfl⟩
          simp only [Act.put, List.setIfInBounds_toArray, List.set]
          refine upW_val (by rfl) (by rfl) (by rfl) ?_
          intro K hK
          go_big_quiet_op
          refine hK _ ?_
          refine upW_val (by rfl) (by rfl) (by rfl) ?_
          intro K hK
          go_big_quiet_op
          refine hK _ ?_
          refine upW_val (by rfl) (by rfl) (by rfl) ?_
          intro K hK
          go_big_quiet_op
          refine hK _ ?_
          refine upW_val (by rfl) (by rfl) (by rfl) (fun K hK => quiet_load_row _ _ rfl M5 rfl 39 _ (0, 0) _ HM5.out Try.underlying39 rfl (sM (filB 32) (filB_len 32)) (hK _ ?_))
          simp only [Act.put, List.setIfInBounds_toArray, List.set]
          refine upW_call (by rfl) (by rfl) (.agg (byteVals rH15).toArray) _ rfl (by simp) (fun p => ?_) ?_
          · go_big_quiet_op
            exact ⟨_, fun q => Calls.ext_of (HQH15.out q.x), rfl⟩
          simp only [Act.put, List.setIfInBounds_toArray, List.set]
          refine upW_call (by rfl) (by rfl) (.bool true) _ rfl (by simp) (fun p => ?_) ?_
          · go_big_quiet_op
            exact ⟨_, fun q => Calls.ext_of (HQH16.out q.x), rfl⟩
          simp only [Act.put, List.setIfInBounds_toArray, List.set]
          refine upW_val (by rfl) (by rfl) (by rfl) ?_
          intro K hK
          go_big_quiet_op
          refine hK _ ?_
          refine upW_nil (fun w18 hbs => ?_)
          have HF := Lib.hid (HB.out.trans (hbs.mono (show N ≤ _ by have := HB.out.size; have := HN.out; omega)))
          clear hbs
          go_wp2
          go_ret
          exact ⟨rfl, HN.out.symm ▸ HF.out⟩
theorem scalarKnown_own : ownKnob Try.prog.godebug = none := by kernel_rfl

set_option maxRecDepth 100000 in
theorem scalarKnown_lifted (os : Os) (started : os.Started) (H : Type) (enc : TypeId × Value → H) :
    ReturnsInHanded {} Try.checked os 4 .any (Rows.scalarKnownSpec.pre6 enc Try.prog Try.f4 Rows.scalarKnownRow.domain false) (Rows.scalarKnownSpec.post enc Try.prog Try.f4 false true false false) := by
  refine returnsInHanded_of_change (C := Try.checked) scalarKnown_own started (by kernel_rfl) Try.func4
    (ChangeSpec.witness6 (enc := enc) (C := Try.checked) false ⟨#[], #[], []⟩ 8 (by kernel_rfl) (by kernel_rfl) (by kernel_rfl) (by kernel_rfl)) ?_
  intro W base args ds gs before hval0 hW hcnd _
  have hW' := hW
  obtain ⟨p, q, hA0, hV, rfl, hfz, hnd⟩ := hW
  have hA : DataW.TrodAll enc Try.prog W 0 (fun _ => true) true Try.f4.params.toList args.toList ds p := hA0
  rw [Try.params4] at hA
  obtain ⟨rfl, rfl, rfl⟩ := trodAll_none hA
  obtain ⟨rfl, rfl⟩ := trodVars_none hV
  clear hA0 hval0
  simp only [List.append_nil] at hW'
  refine (scalarKnown_true  W).mono fun e W' ⟨he, bel⟩ => ?_
  subst he
  exact ⟨_, rfl, _, _, _, [], [], [], hW', trodAll_mk1 (shut_bool Try.underlying4 _), trodAll_mk0, rfl, bel.frame _, fun h => by cases h⟩

theorem scalarKnown_holds : Rows.ScalarKnownSaid :=
  OpenClaim.holds_of_wide 4 Try.f4 rfl rfl rfl rfl rfl rfl rfl ⟨rfl, rfl, rfl, rfl, rfl⟩ rfl rfl rfl rfl rfl (by kernel_rfl) Try.func4 (by kernel_rfl)
    (of_decide_eq_true (by kernel_rfl)) (by unfold Func.isWrapper; first | (rw [if_pos (by decide +kernel)]; kernel_rfl) | (rw [if_neg (by decide +kernel)]; exact ⟨rfl, rfl⟩))
    (fun os started H enc _ => scalarKnown_lifted os started H enc)
#print axioms scalarKnown_holds

end Go.Proofs.Ytgajheocobgecaa
