/-
  What the laws of package scalar lean on: numbers modulo the order; awake.
  Conditions: none.
-/
import Derived.Test.YtgajheocobgecaaScK
namespace Go.Proofs.Ytgajheocobgecaa
open Go.RowKit

theorem L_pos : 0 < 7237005577332262213973186563042994240857116359379907606001950938285454250989 := by decide
theorem lt4L {a : Nat} (h : a < 7237005577332262213973186563042994240857116359379907606001950938285454250989) : a < 115792089237316195423570985008687907853269984665640564039457584007913129639936 := by omega
theorem oAdd_lt (a b : Nat) : oAdd a b < 7237005577332262213973186563042994240857116359379907606001950938285454250989 := Nat.mod_lt _ L_pos
theorem oNeg_lt (a : Nat) : oNeg a < 7237005577332262213973186563042994240857116359379907606001950938285454250989 := Nat.mod_lt _ L_pos
theorem oMul_lt (a b c : Nat) : oMul a b c < 7237005577332262213973186563042994240857116359379907606001950938285454250989 := Nat.mod_lt _ L_pos
theorem oAdd_assoc (a b c : Nat) : oAdd a (oAdd b c) = oAdd (oAdd a b) c := by unfold oAdd; rw [Nat.add_mod_mod, Nat.mod_add_mod, Nat.add_assoc]
theorem oAdd_comm (a b : Nat) : oAdd a b = oAdd b a := by unfold oAdd; rw [Nat.add_comm]
theorem oAdd_neg (a : Nat) : oAdd a (oNeg a) = 0 := by
  unfold oAdd oNeg
  have h := Nat.mod_lt a L_pos
  rw [Nat.add_mod_mod, ← Nat.mod_add_mod, show a % 7237005577332262213973186563042994240857116359379907606001950938285454250989 + (7237005577332262213973186563042994240857116359379907606001950938285454250989 - a % 7237005577332262213973186563042994240857116359379907606001950938285454250989) = 7237005577332262213973186563042994240857116359379907606001950938285454250989 by omega, Nat.mod_self]
theorem oMul_comm (a b c : Nat) : oMul a b c = oMul b a c := by unfold oMul; rw [Nat.mul_comm]
theorem oMul_assoc (a b c : Nat) : oMul (oMul a b 0) c 0 = oMul a (oMul b c 0) 0 := by
  unfold oMul
  simp only [Nat.add_zero]
  rw [Nat.mod_mul_mod, Nat.mul_mod_mod, Nat.mul_assoc]
theorem oMul_add (a b c : Nat) : oMul a (oAdd b c) 0 = oMul a b (oMul a c 0) := by
  unfold oMul oAdd
  simp only [Nat.add_zero]
  rw [Nat.mul_mod_mod, Nat.add_mod_mod, Nat.mul_add]
theorem oMul_one (a : Nat) : oMul a 1 0 = a % 7237005577332262213973186563042994240857116359379907606001950938285454250989 := by unfold oMul; rw [Nat.mul_one, Nat.add_zero]
theorem oMul_plus (a b c : Nat) : oMul a b c = oAdd (oMul a b 0) c := by unfold oMul oAdd; rw [Nat.add_zero, Nat.mod_add_mod]
theorem of32 (l : List UInt8) (h : l.length = 32) : le l % 13407807929942597099574024998205846127479365820592393377723561443721764030073546976801874298166903427690031858186486050853753882811946569946433649006084096 % 7237005577332262213973186563042994240857116359379907606001950938285454250989 = le l % 7237005577332262213973186563042994240857116359379907606001950938285454250989 := by rw [mod8 _ (le_32 l h)]
theorem eq_le32 {l m : List UInt8} (hl : l.length = 32) (hm : m.length = 32) (h : le l = le m) : l = m := by rw [← b32_le l hl, ← b32_le m hm, h]
theorem le_zer : le (zerB 32) = 0 := by decide +kernel
theorem bys_nil (w : World) : Bys w (.slice none 0 0) [] := ⟨none, 0, rfl, ⟨by decide, by decide, fun _ => rfl⟩, .inl rfl⟩
theorem run_eqN (a b : List UInt8) (ha : a.length = 32) (hb : b.length = 32) (o : Oper) (ax : Act) (x y : Operand) (t : TypeId) (ho : o.op = .binOp .eql t x y t) (hu : Try.prog.underlying t = some (.array 32 5)) (hg : Try.prog.eqGuardType Try.prog.depth t = false) (hx : ax.eval x = .agg (byteVals a).toArray) (hy : ax.eval y = .agg (byteVals b).toArray) (c : Bool) (hc : decide (a = b) = c) (w : World) :
    (execOp ax.eval o).run Try.prog w = .ok (.value (.bool c)) w := by
  unfold execOp
  simp only [ho, hx, hy]
  have h : (Op.equal t (.agg (byteVals a).toArray) (.agg (byteVals b).toArray)).run Try.prog w = .ok (decide (a = b)) w := eqB t 32 hu a b ha hb w
  simp [go_sem, binOp, hg, h, hc]
theorem run_zeroM (o : Oper) (ax : Act) (ho : o.op = .build 39 #[]) (w : World) : (execOp ax.eval o).run Try.prog w = .ok (.value (.agg (byteVals (zerB 32)).toArray)) w := by
  unfold execOp
  simp only [ho]
  kernel_rfl
theorem run_allocM (a : Act) (o : Oper) (ho : o.op = .alloc 39) (w : World) : (execOp a.eval o).run Try.prog w = .ok (.value (.pointer (some ⟨w.heap.size, 0, none⟩))) (w.alloc (.cells (byteVals (zerB 32)).toArray 39)) := by
  have hz := zM
  unfold execOp
  simp only [ho]
  simp [go_sem, Instr.alloc, hz, Value.cells]
theorem run_byteM1 (o : Oper) (ax : Act) (ho : o.op = .build 39 #[(0, .const (.int .u8 1))]) (w : World) : (execOp ax.eval o).run Try.prog w = .ok (.value (.agg (byteVals (b32 1)).toArray)) w := by
  unfold execOp
  simp only [ho]
  kernel_rfl
theorem run_byteM5 (o : Oper) (ax : Act) (ho : o.op = .build 39 #[(0, .const (.int .u8 5))]) (w : World) : (execOp ax.eval o).run Try.prog w = .ok (.value (.agg (byteVals (b32 5)).toArray)) w := by
  unfold execOp
  simp only [ho]
  kernel_rfl
theorem run_byteM7 (o : Oper) (ax : Act) (ho : o.op = .build 39 #[(0, .const (.int .u8 7))]) (w : World) : (execOp ax.eval o).run Try.prog w = .ok (.value (.agg (byteVals (b32 7)).toArray)) w := by
  unfold execOp
  simp only [ho]
  kernel_rfl
theorem run_byteM9 (o : Oper) (ax : Act) (ho : o.op = .build 39 #[(0, .const (.int .u8 9))]) (w : World) : (execOp ax.eval o).run Try.prog w = .ok (.value (.agg (byteVals (b32 9)).toArray)) w := by
  unfold execOp
  simp only [ho]
  kernel_rfl
theorem wpList_valG {P : Program} {ops : Array Oper} {rest : List Oper} {o : Oper} {a : Act} {w w1 : World} {Q : Exit → Act → World → Prop} {v : Value} (hw : Region.wanted o (yielded ops a.tmps) = true) (hr : (execOp a.eval o).run P w = .ok (.value v) w1) (h : wpList P ops Q rest (a.put o.dst v) w1) : wpList P ops Q (o :: rest) a w := by
  show if Region.wanted o (yielded ops a.tmps) then o.wp P a w (wpList P ops Q rest) Q ∨ (o.asks P a w ∧ LetsOut Q) else wpList P ops Q rest (a.put o.dst undef) w
  rw [if_pos hw]
  left
  unfold Oper.wp
  rw [hr, Oper.upon_value]
  exact h
theorem wpList_seqG {P : Program} {ops : Array Oper} {l : List Oper} {a : Act} {w : World} {Q : Exit → Act → World → Prop} (n : Nat)
    (h : upW P ops w (fun a' => ∀ w', Below w.heap.size w w' → wpList P ops Q (l.drop n) a' w') (l.take n) a) : wpList P ops Q l a w := by
  have := wpList_of_up (rest := l.drop n) (l.take n) a w (Below.refl _ _) h
  rwa [List.take_append_drop] at this
set_option maxRecDepth 100000 in
set_option maxHeartbeats 1000000 in
theorem ell_any (w : World) : Calls Try.prog 29 #[] w fun e w' => e = .returned (.agg (byteVals (b32 7237005577332262213973186563042994240857116359379907606001950938285454250989)).toArray) ∧ Below w.heap.size w w' := by
  have hz := zM
  have HS := Lib.hid (sM (b32 7237005577332262213973186563042994240857116359379907606001950938285454250989) (b32_len _))
  have HO := Lib.hid (oN (zerB 32) (b32 7237005577332262213973186563042994240857116359379907606001950938285454250989) (zerB_len 32) (b32_len _))
  go_enter Try.func29, Try.ntmps29
  go_wp2_with (first
    | (refine wpList_build' rfl 39 _ rfl ((byteVals (b32 7237005577332262213973186563042994240857116359379907606001950938285454250989)).toArray) (by kernel_rfl) ?_)
    | (refine wpList_store_row rfl 39 _ _ rfl w.heap.size ((byteVals (b32 7237005577332262213973186563042994240857116359379907606001950938285454250989)).toArray) rfl rfl 39 _ (Go.heap_alloc_new _ _) HS.out HO.out (byteVals_one _) ?_))
  exact bodyPost_ret (results_cell_row (by rfl) _ _ w.heap.size 39 ((byteVals (b32 7237005577332262213973186563042994240857116359379907606001950938285454250989)).toArray) (0, 0) _ (by rfl) (setRow_heap _ _ _ _ _ _ (Go.heap_alloc_new _ _)) Try.underlying39 rfl HS.out) rfl ⟨rfl, below_set _ _ _ _⟩
set_option maxRecDepth 100000 in
set_option maxHeartbeats 1000000 in
theorem awake8_any (w : World) :
    Calls Try.prog 28 #[] w fun e w' => e = .returned (.bool true) ∧ Below w.heap.size w w' := by
  have hz := zM
  have HSE := Lib.hid (sM (b32 7237005577332262213973186563042994240857116359379907606001950938285454250989) (b32_len _))
  have HOE := Lib.hid (oN (zerB 32) (b32 7237005577332262213973186563042994240857116359379907606001950938285454250989) (zerB_len 32) (b32_len _))
  go_enter Try.func28, Try.ntmps28
  go_wp2_with fail
  refine (ell_any _).mono ?_
  rintro e w1 ⟨rfl, hb1⟩
  obtain ⟨N, hN⟩ : ∃ n, w.heap.size = n := ⟨_, rfl⟩
  rw [hN] at hb1
  have HN := Lib.hid hN
  have HB1 := Lib.hid hb1
  clear hN hb1
  go_wp2_with (refine wpList_store_row rfl 39 _ _ rfl w1.heap.size ((byteVals (b32 7237005577332262213973186563042994240857116359379907606001950938285454250989)).toArray) rfl rfl 39 _ (Go.heap_alloc_new _ _) HSE.out HOE.out (byteVals_one _) (Stop.out ?_))
  generalize hWS : World.setRow _ _ _ = ws
  obtain ⟨M, hM⟩ : ∃ n, w1.heap.size = n := ⟨_, rfl⟩
  have HM := Lib.hid (show BT ws M 39 (b32 7237005577332262213973186563042994240857116359379907606001950938285454250989) by subst hWS; rw [← hM]; exact setRow_heap _ _ _ _ _ _ (Go.heap_alloc_new _ _))
  have HB := Lib.hid (show Below N w ws by subst hWS; exact Below.setRow (HB1.out.alloc (by have := HB1.out.size; have := HN.out; omega) _) (by have := HB1.out.size; have := HN.out; omega) _)
  have HNM := Lib.hid (show N ≤ M by rw [← hM]; have := HB1.out.size; have := HN.out; omega)
  rw [hM]
  clear hWS hM HB1
  refine ⟨?_⟩
  obtain ⟨rH1, hrH1⟩ : ∃ r, b32 (le (b32 7237005577332262213973186563042994240857116359379907606001950938285454250989) % 13407807929942597099574024998205846127479365820592393377723561443721764030073546976801874298166903427690031858186486050853753882811946569946433649006084096 % 7237005577332262213973186563042994240857116359379907606001950938285454250989) = r := ⟨_, rfl⟩
  have HQH1 := Lib.hid (fun v w (h : Bys w v (b32 7237005577332262213973186563042994240857116359379907606001950938285454250989)) => Of_sc v (b32 7237005577332262213973186563042994240857116359379907606001950938285454250989) w h)
  rw [hrH1] at HQH1
  have HLH1 := Lib.hid (show rH1.length = 32 by rw [← hrH1]; exact b32_len _)
  have HVH1 := Lib.hid (show le rH1 = (le (b32 7237005577332262213973186563042994240857116359379907606001950938285454250989) % 13407807929942597099574024998205846127479365820592393377723561443721764030073546976801874298166903427690031858186486050853753882811946569946433649006084096 % 7237005577332262213973186563042994240857116359379907606001950938285454250989) by rw [← hrH1]; exact le_b32 _ (lt4L (Nat.mod_lt _ L_pos)))
  clear hrH1
  have HQH2 := Lib.hid (fun w => Good_sc (b32 7237005577332262213973186563042994240857116359379907606001950938285454250989) w (b32_len 7237005577332262213973186563042994240857116359379907606001950938285454250989))
  rw [show decide (le (b32 7237005577332262213973186563042994240857116359379907606001950938285454250989) < 7237005577332262213973186563042994240857116359379907606001950938285454250989) = false from (decide_eq_false (by rw [(le_b32 7237005577332262213973186563042994240857116359379907606001950938285454250989 (by decide))]; decide))] at HQH2
  have HQH3 := Lib.hid (fun w => Good_sc (b32 5) w (b32_len 5))
  rw [show decide (le (b32 5) < 7237005577332262213973186563042994240857116359379907606001950938285454250989) = true from (decide_eq_true (by rw [(le_b32 5 (by decide))]; decide))] at HQH3
  go_upto_region 2 with fail
  refine wp_region_seq 14 ?_
  simp only [List.take_succ_cons, List.take_zero, List.drop_succ_cons, List.drop_zero]
  refine upW_late (by rfl) (.slice (some ⟨M, 0, none⟩) 32 32) (fun _ => by kernel_rfl) ?_
  simp only [Act.put, List.setIfInBounds_toArray, List.set]
  refine upW_call (by rfl) (by rfl) (.agg (byteVals rH1).toArray) _ rfl (by simp) (fun p => ?_) ?_
  · go_big_quiet_op
    exact ⟨_, fun q => Calls.ext_of (HQH1.out _ q.x (sl32 (b32 7237005577332262213973186563042994240857116359379907606001950938285454250989) (b32_len 7237005577332262213973186563042994240857116359379907606001950938285454250989) (HM.out.ext (p.h.trans (q.h.mono p.h.size))))), rfl⟩
  simp only [Act.put, List.setIfInBounds_toArray, List.set]
  refine upW_late (by rfl) (.agg (byteVals (zerB 32)).toArray) (fun w => run_zeroM _ _ rfl w) ?_
  simp only [Act.put, List.setIfInBounds_toArray, List.set]
  refine upW_late (by rfl) (.bool true) (fun w => run_eqN rH1 (zerB 32) HLH1.out (zerB_len 32) _ _ _ _ 39 rfl Try.underlying39 (by kernel_rfl) rfl rfl true (decide_eq_true (eq_le32 HLH1.out (zerB_len 32) (by rw [HVH1.out, le_zer, le_b32 7237005577332262213973186563042994240857116359379907606001950938285454250989 (by decide)]))) w) ?_
  simp only [Act.put, List.setIfInBounds_toArray, List.set]
  refine upW_val (by rfl) (by rfl) (by rfl) ?_
  intro K hK
  go_big_quiet_op
  refine hK _ ?_
  refine upW_val (by rfl) (by rfl) (by rfl) (fun K hK => quiet_load_row _ _ rfl M rfl 39 _ (0, 0) _ HM.out Try.underlying39 rfl (sM (b32 7237005577332262213973186563042994240857116359379907606001950938285454250989) (b32_len 7237005577332262213973186563042994240857116359379907606001950938285454250989)) (hK _ ?_))
  simp only [Act.put, List.setIfInBounds_toArray, List.set]
  refine upW_call (by rfl) (by rfl) (.bool false) _ rfl (by simp) (fun p => ?_) ?_
  · go_big_quiet_op
    exact ⟨_, fun q => Calls.ext_of (HQH2.out q.x), rfl⟩
  simp only [Act.put, List.setIfInBounds_toArray, List.set]
  refine upW_val (by rfl) (by rfl) (by rfl) ?_
  intro K hK
  go_big_quiet_op
  refine hK _ ?_
  refine upW_val (by rfl) (by rfl) (by rfl) ?_
  intro K hK
  go_big_quiet_op
  refine hK _ ?_
  refine upW_val (by rfl) (by rfl) (by rfl) ?_
  intro K hK
  go_big_quiet_op
  refine hK _ ?_
  refine upW_late (by rfl) (.agg (byteVals (b32 5)).toArray) (fun w => run_byteM5 _ _ rfl w) ?_
  simp only [Act.put, List.setIfInBounds_toArray, List.set]
  refine upW_call (by rfl) (by rfl) (.bool true) _ rfl (by simp) (fun p => ?_) ?_
  · go_big_quiet_op
    exact ⟨_, fun q => Calls.ext_of (HQH3.out q.x), rfl⟩
  simp only [Act.put, List.setIfInBounds_toArray, List.set]
  refine upW_val (by rfl) (by rfl) (by rfl) ?_
  intro K hK
  go_big_quiet_op
  refine hK _ ?_
  refine upW_val (by rfl) (by rfl) (by rfl) ?_
  intro K hK
  go_big_quiet_op
  refine hK _ ?_
  refine upW_nil (fun wn hbn => ?_)
  have HB2 := Lib.hid (HB.out.trans (hbn.mono (show N ≤ _ by have := HB.out.size; have := HN.out; omega)))
  have HNN := Lib.hid (show N ≤ wn.heap.size by have := HB2.out.size; have := HN.out; omega)
  clear hbn HB HM
  go_wp2_with fail
  refine (Of_sc _ [7] _ (bys_new wn [7] (by decide))).mono ?_
  rintro e w8 ⟨rfl, hb8⟩
  have HB8 := Lib.hid ((HB2.out.alloc HNN.out _).trans (hb8.mono (by simp; have := HNN.out; omega)))
  obtain ⟨rZ7, hrZ7⟩ : ∃ r, b32 (le [7] % 13407807929942597099574024998205846127479365820592393377723561443721764030073546976801874298166903427690031858186486050853753882811946569946433649006084096 % 7237005577332262213973186563042994240857116359379907606001950938285454250989) = r := ⟨_, rfl⟩
  have HLZ7 := Lib.hid (show rZ7.length = 32 by rw [← hrZ7]; exact b32_len _)
  have HVZ7 := Lib.hid (show le rZ7 = (le [7] % 13407807929942597099574024998205846127479365820592393377723561443721764030073546976801874298166903427690031858186486050853753882811946569946433649006084096 % 7237005577332262213973186563042994240857116359379907606001950938285454250989) by rw [← hrZ7]; exact le_b32 _ (lt4L (Nat.mod_lt _ L_pos)))
  rw [hrZ7]
  clear hrZ7 hb8 HB2
  go_wp2_with (refine wpList_seqG 4 (Stop.out ?_))
  refine ⟨?_⟩
  simp only [List.take_succ_cons, List.take_zero, List.drop_succ_cons, List.drop_zero]
  refine upW_late (by rfl) (.agg (byteVals (b32 7)).toArray) (fun w => run_byteM7 _ _ rfl w) ?_
  simp only [Act.put, List.setIfInBounds_toArray, List.set]
  refine upW_late (by rfl) (.bool true) (fun w => run_eqN rZ7 (b32 7) HLZ7.out (b32_len 7) _ _ _ _ 39 rfl Try.underlying39 (by kernel_rfl) rfl rfl true (decide_eq_true (eq_le32 HLZ7.out (b32_len 7) (by rw [HVZ7.out, (le_b32 7 (by decide))]; decide +kernel))) w) ?_
  simp only [Act.put, List.setIfInBounds_toArray, List.set]
  refine upW_val (by rfl) (by rfl) (by rfl) ?_
  intro K hK
  go_big_quiet_op
  refine hK _ ?_
  refine upW_val (by rfl) (by rfl) (by rfl) ?_
  intro K hK
  go_big_quiet_op
  refine hK _ ?_
  refine upW_nil (fun w9 hb9 => ?_)
  have HB9 := Lib.hid (HB8.out.trans (hb9.mono (show N ≤ _ by have := HB8.out.size; have := HN.out; omega)))
  clear hb9 HB8
  go_wp2
  go_ret
  exact ⟨rfl, HN.out.symm ▸ HB9.out⟩
end Go.Proofs.Ytgajheocobgecaa
