/-
  Package scalar's functions: Of, Good, Add, MulAdd, Neg, Bit.
  Conditions: none.
-/
import Derived.Test.YtfmclkmmkceldaaScF
namespace Go.Proofs.Ytfmclkmmkceldaa
open Go.RowKit

theorem mod8 (n : Nat) (h : n < 115792089237316195423570985008687907853269984665640564039457584007913129639936) : n % 13407807929942597099574024998205846127479365820592393377723561443721764030073546976801874298166903427690031858186486050853753882811946569946433649006084096 = n := Nat.mod_eq_of_lt (by omega)
theorem lt8 (n : Nat) (h : n < 115792089237316195423570985008687907853269984665640564039457584007913129639936) : n < 13407807929942597099574024998205846127479365820592393377723561443721764030073546976801874298166903427690031858186486050853753882811946569946433649006084096 := by omega
theorem sl32 (l : List UInt8) (hl : l.length = 32) {w : World} {b : Nat} {t : TypeId} (h : BT w b t l) : Bys w (.slice (some ⟨b, 0, none⟩) 32 32) l := by
  have := bys_box h (by omega)
  rwa [hl] at this
/-- The numbers that package scalar tells. -/
def oAdd (a b : Nat) : Nat := (a + b) % 7237005577332262213973186563042994240857116359379907606001950938285454250989
def oNeg (a : Nat) : Nat := (7237005577332262213973186563042994240857116359379907606001950938285454250989 - a % 7237005577332262213973186563042994240857116359379907606001950938285454250989) % 7237005577332262213973186563042994240857116359379907606001950938285454250989
def oMul (a b c : Nat) : Nat := (a * b + c) % 7237005577332262213973186563042994240857116359379907606001950938285454250989
theorem mul_bound (a b c : Nat) (ha : a < 115792089237316195423570985008687907853269984665640564039457584007913129639936) (hb : b < 115792089237316195423570985008687907853269984665640564039457584007913129639936) (hc : c < 115792089237316195423570985008687907853269984665640564039457584007913129639936) : a * b + c < 13407807929942597099574024998205846127479365820592393377723561443721764030073546976801874298166903427690031858186486050853753882811946569946433649006084096 := by
  have h := Nat.mul_le_mul (show a ≤ 115792089237316195423570985008687907853269984665640564039457584007913129639936 - 1 by omega) (show b ≤ 115792089237316195423570985008687907853269984665640564039457584007913129639936 - 1 by omega)
  have e : (115792089237316195423570985008687907853269984665640564039457584007913129639936 - 1) * (115792089237316195423570985008687907853269984665640564039457584007913129639936 - 1) + 115792089237316195423570985008687907853269984665640564039457584007913129639936 ≤ 13407807929942597099574024998205846127479365820592393377723561443721764030073546976801874298166903427690031858186486050853753882811946569946433649006084096 := by decide
  omega
set_option maxRecDepth 100000 in
set_option maxHeartbeats 1000000 in
theorem Of_sc (v : Value) (l : List UInt8) (w : World) (hv : Bys w v l) :
    Calls Try.prog 53 #[v] w fun e w' => e = .returned (.agg (byteVals (b32 (le l % 13407807929942597099574024998205846127479365820592393377723561443721764030073546976801874298166903427690031858186486050853753882811946569946433649006084096 % 7237005577332262213973186563042994240857116359379907606001950938285454250989))).toArray) ∧ Below w.heap.size w w' := by
  have HBY := Lib.hid hv
  have HRD := Lib.hid (fun w (h : Bys w v l) => readS_any v l w h)
  have HRE := Lib.hid (fun w => restS_any (le l % 13407807929942597099574024998205846127479365820592393377723561443721764030073546976801874298166903427690031858186486050853753882811946569946433649006084096) w (Nat.mod_lt _ (by decide)))
  obtain ⟨n, hn⟩ : ∃ x, le l % 13407807929942597099574024998205846127479365820592393377723561443721764030073546976801874298166903427690031858186486050853753882811946569946433649006084096 = x := ⟨_, rfl⟩
  rw [hn] at HRD HRE
  rw [hn]
  obtain ⟨x, hx⟩ : ∃ x, n % 7237005577332262213973186563042994240857116359379907606001950938285454250989 = x := ⟨_, rfl⟩
  rw [hx] at HRE
  rw [hx]
  have HNM := Lib.hid (fun w => numS_any x w)
  have HSX := Lib.hid (sM (b32 x) (b32_len _))
  have HOX := Lib.hid (oN (zerB 32) (b32 x) (zerB_len 32) (b32_len _))
  clear hn hx hv
  have hz := zM
  have hzS := zS
  go_enter Try.func53, Try.ntmps53
  go_upto_region 1 with fail
  generalize hW1 : World.alloc _ _ = W1
  obtain ⟨N, hN⟩ : ∃ n, w.heap.size = n := ⟨_, rfl⟩
  have HRZ := Lib.hid (show BT W1 N 34 (zerB 32) by subst hW1; rw [← hN]; exact Go.heap_alloc_new _ _)
  have HB := Lib.hid (show Below N w W1 by subst hW1; rw [← hN]; exact (Below.refl _ w).alloc (Nat.le_refl _) _)
  have HN := Lib.hid hN
  rw [hN]
  clear hW1 hN
  have HBY1 := Lib.hid (HBY.out.below (by rw [HN.out]; exact HB.out))
  go_wp2_with fail
  refine (HRD.out _ HBY1.out).mono ?_
  rintro e wu1 ⟨rfl, hb1⟩
  have HRZx1 := Lib.hid (HRZ.out.ext hb1)
  have HBx1 := Lib.hid (HB.out.trans (hb1.mono (show N ≤ _ by have := HRZ.out.lt; omega)))
  clear hb1 HRZ HB
  have HRZ := HRZx1
  have HB := HBx1
  clear HRZx1 HBx1
  go_wp2_with fail
  refine (HRE.out _).mono ?_
  rintro e wu2 ⟨rfl, hb2⟩
  have HRZx2 := Lib.hid (HRZ.out.ext hb2)
  have HBx2 := Lib.hid (HB.out.trans (hb2.mono (show N ≤ _ by have := HRZ.out.lt; omega)))
  clear hb2 HRZ HB
  have HRZ := HRZx2
  have HB := HBx2
  clear HRZx2 HBx2
  go_wp2_with fail
  refine (HNM.out _).mono ?_
  rintro e wu3 ⟨rfl, hb3⟩
  have HRZx3 := Lib.hid (HRZ.out.ext hb3)
  have HBx3 := Lib.hid (HB.out.trans (hb3.mono (show N ≤ _ by have := HRZ.out.lt; omega)))
  clear hb3 HRZ HB
  have HRZ := HRZx3
  have HB := HBx3
  clear HRZx3 HBx3
  go_wp2_with (refine wpList_store_row rfl 34 _ _ rfl N ((byteVals (b32 x)).toArray) rfl rfl 34 _ HRZ.out HSX.out HOX.out (byteVals_one _) ?_)
  refine bodyPost_ret (results_cell_row (by rfl) _ _ N 34 ((byteVals (b32 x)).toArray) (0, 0) _ (by rfl) (setRow_heap _ _ _ _ _ _ HRZ.out) Try.underlying34 rfl HSX.out) rfl ⟨rfl, ?_⟩
  rw [HN.out]
  exact Below.setRow HB.out (by omega) _
theorem eqNum (a b : List UInt8) (ha : a.length = 32) (hb : b.length = 32) (o : Oper) (ax : Act) (x y : Operand) (ho : o.op = .binOp .eql 34 x y 34) (hx : ax.eval x = .agg (byteVals a).toArray) (hy : ax.eval y = .agg (byteVals b).toArray) (c : Bool) (hc : decide (a = b) = c) (w : World) :
    (execOp ax.eval o).run Try.prog w = .ok (.value (.bool c)) w := by
  unfold execOp
  simp only [ho, hx, hy]
  have h : (Op.equal 34 (.agg (byteVals a).toArray) (.agg (byteVals b).toArray)).run Try.prog w = .ok (decide (a = b)) w := eqB 34 32 Try.underlying34 a b ha hb w
  have hg : Try.prog.eqGuardType Try.prog.depth 34 = false := by kernel_rfl
  simp [go_sem, binOp, hg, h, hc]
theorem good_dec (l : List UInt8) (hl : l.length = 32) : decide (b32 (le l % 13407807929942597099574024998205846127479365820592393377723561443721764030073546976801874298166903427690031858186486050853753882811946569946433649006084096 % 7237005577332262213973186563042994240857116359379907606001950938285454250989) = l) = decide (le l < 7237005577332262213973186563042994240857116359379907606001950938285454250989) := by
  have h4 := le_32 l hl
  have hL : 0 < 7237005577332262213973186563042994240857116359379907606001950938285454250989 := by decide
  rw [Bool.eq_iff_iff, decide_eq_true_eq, decide_eq_true_eq, mod8 _ h4]
  constructor
  · intro h
    have h2 := congrArg le h
    rw [le_b32 _ (by have := Nat.mod_lt (le l) hL; omega)] at h2
    rw [← h2]; exact Nat.mod_lt _ hL
  · intro h
    rw [Nat.mod_eq_of_lt h, b32_le l hl]
set_option maxRecDepth 100000 in
set_option maxHeartbeats 1000000 in
theorem Good_sc (l : List UInt8) (w : World) (hl : l.length = 32) :
    Calls Try.prog 51 #[.agg (byteVals l).toArray] w fun e w' => e = .returned (.bool (decide (le l < 7237005577332262213973186563042994240857116359379907606001950938285454250989))) ∧ Below w.heap.size w w' := by
  have HSL := Lib.hid (sM l hl)
  have HL := Lib.hid hl
  have HGD := Lib.hid (good_dec l hl)
  have HOF := Lib.hid (fun w h => Of_sc (.slice (some ⟨w.heap.size, 0, none⟩) 32 32) l w h)
  clear HOF
  obtain ⟨b, hb⟩ : ∃ x, decide (le l < 7237005577332262213973186563042994240857116359379907606001950938285454250989) = x := ⟨_, rfl⟩
  rw [hb] at HGD
  rw [hb]
  clear hb hl
  have hz := zM
  have hzS := zS
  go_enter Try.func51, Try.ntmps51
  go_upto_region 1 with fail
  generalize hW1 : World.alloc _ _ = W1
  obtain ⟨N, hN⟩ : ∃ n, w.heap.size = n := ⟨_, rfl⟩
  have HR0 := Lib.hid (show BT W1 N 34 l by subst hW1; rw [← hN]; exact Go.heap_alloc_new _ _)
  have HB := Lib.hid (show Below N w W1 by subst hW1; rw [← hN]; exact (Below.refl _ w).alloc (Nat.le_refl _) _)
  have HN := Lib.hid hN
  rw [hN]
  clear hW1 hN
  have HOF := Lib.hid (fun w h => Of_sc (.slice (some ⟨N, 0, none⟩) 32 32) l w h)
  obtain ⟨r, hr⟩ : ∃ r, b32 (le l % 13407807929942597099574024998205846127479365820592393377723561443721764030073546976801874298166903427690031858186486050853753882811946569946433649006084096 % 7237005577332262213973186563042994240857116359379907606001950938285454250989) = r := ⟨_, rfl⟩
  have HRL := Lib.hid (show r.length = 32 by rw [← hr]; exact b32_len _)
  rw [hr] at HOF HGD
  clear hr
  go_wp2_with fail
  refine wp_region_whole [0, 1, 2, 3, 4] [] [] (by kernel_rfl) (by kernel_rfl) (List.forall_mem_nil _) rfl ?_
  simp only [List.foldl]
  refine upW_late (by rfl) (.slice (some ⟨N, 0, none⟩) 32 32) (fun _ => by kernel_rfl) ?_
  simp only [Act.put, List.setIfInBounds_toArray, List.set]
  refine upW_call (by rfl) (by rfl) (.agg (byteVals r).toArray) _ rfl (by simp) (fun p => ?_) ?_
  · go_big_quiet_op
    exact ⟨_, fun q => Calls.ext_of (HOF.out q.x (sl32 l HL.out (HR0.out.ext (p.h.trans (q.h.mono p.h.size))))), rfl⟩
  simp only [Act.put, List.setIfInBounds_toArray, List.set]
  refine upW_val (by rfl) (by rfl) (by rfl) (fun K hK => quiet_load_row _ _ rfl N rfl 34 _ (0, 0) _ HR0.out Try.underlying34 rfl HSL.out (hK _ ?_))
  simp only [Act.put, List.setIfInBounds_toArray, List.set]
  refine upW_late (by rfl) (.bool b) (fun w => eqNum r l HRL.out HL.out _ _ _ _ rfl rfl rfl b HGD.out w) ?_
  simp only [Act.put, List.setIfInBounds_toArray, List.set]
  refine upW_val (by rfl) (by rfl) (by rfl) ?_
  intro K hK
  go_big_quiet_op
  refine hK _ ?_
  refine upW_nil ⟨List.forall_mem_nil _, fun M2 wn hM2 hne hby => ?_⟩
  simp only [List.foldr]
  clear hM2 hne M2
  have HR0x990 := Lib.hid (HR0.out.ext hby)
  have HBx990 := Lib.hid (HB.out.trans (hby.mono (show N ≤ _ by have := HR0.out.lt; omega)))
  clear hby HR0 HB
  have HR0 := HR0x990
  have HB := HBx990
  clear HR0x990 HBx990
  go_wp2
  go_ret
  exact ⟨rfl, HN.out.symm ▸ HB.out⟩
set_option maxRecDepth 100000 in
set_option maxHeartbeats 1000000 in
theorem Add_sc (a b : List UInt8) (w : World) (ha : a.length = 32) (hb : b.length = 32) :
    Calls Try.prog 33 #[.agg (byteVals a).toArray, .agg (byteVals b).toArray] w fun e w' => e = .returned (.agg (byteVals (b32 (oAdd (le a) (le b)))).toArray) ∧ Below w.heap.size w w' := by
  have HL0 := Lib.hid ha
  have HRD0 := Lib.hid (fun v w (h : Bys w v a) => readS_any v a w h)
  rw [mod8 _ (le_32 a ha)] at HRD0
  have HNL0 := Lib.hid (le_32 a ha)
  have HL1 := Lib.hid hb
  have HRD1 := Lib.hid (fun v w (h : Bys w v b) => readS_any v b w h)
  rw [mod8 _ (le_32 b hb)] at HRD1
  have HNL1 := Lib.hid (le_32 b hb)
  have HPL := Lib.hid (fun w => plusS_any (le a) (le b) w (by have := le_32 a ha; have := le_32 b hb; omega))
  have HRE := Lib.hid (fun w => restS_any (le a + le b) w (by have := le_32 a ha; have := le_32 b hb; omega))
  rw [show (le a + le b) % 7237005577332262213973186563042994240857116359379907606001950938285454250989 = oAdd (le a) (le b) from rfl] at HRE
  obtain ⟨s, hs⟩ : ∃ s, le a + le b = s := ⟨_, rfl⟩
  rw [hs] at HPL HRE
  clear hs
  obtain ⟨x, hx⟩ : ∃ x, oAdd (le a) (le b) = x := ⟨_, rfl⟩
  rw [hx] at HRE
  rw [hx]
  have HNM := Lib.hid (fun w => numS_any x w)
  have HSX := Lib.hid (sM (b32 x) (b32_len _))
  have HOX := Lib.hid (oN (zerB 32) (b32 x) (zerB_len 32) (b32_len _))
  clear hx ha hb
  have hz := zM
  have hzS := zS
  go_enter Try.func33, Try.ntmps33
  go_upto_region 1 with fail
  generalize hW1 : World.alloc _ _ = W1
  obtain ⟨N, hN⟩ : ∃ n, w.heap.size = n := ⟨_, rfl⟩
  have HR0 := Lib.hid (show BT W1 N 34 a by subst hW1; rw [← hN]; exact (alloc3_at w _ _ _).1)
  have HR1 := Lib.hid (show BT W1 (N + 1) 34 b by subst hW1; rw [← hN]; exact (alloc3_at w _ _ _).2.1)
  have HRZ := Lib.hid (show BT W1 (N + 1 + 1) 34 (zerB 32) by subst hW1; rw [← hN]; exact (alloc3_at w _ _ _).2.2)
  have HB := Lib.hid (show Below N w W1 by subst hW1; rw [← hN]; exact Below.alloc3 w _ _ _)
  have HN := Lib.hid hN
  rw [hN]
  clear hW1 hN
  refine wp_region_up 7 7 (by kernel_rfl) (by kernel_rfl) (fun _ _ dst _ _ h => by cases dst <;> exact h) ?_
  simp only [List.take_succ_cons, List.take_zero, List.drop_succ_cons, List.drop_zero]
  refine upW_late (by rfl) (.slice (some ⟨N, 0, none⟩) 32 32) (fun _ => by kernel_rfl) ?_
  simp only [Act.put, List.setIfInBounds_toArray, List.set]
  refine upW_call (by rfl) (by rfl) (.agg (nums .u64 (w8 (le a)))) _ rfl (by simp) (fun p => ?_) ?_
  · go_big_quiet_op
    exact ⟨_, fun q => Calls.ext_of (HRD0.out _ q.x (sl32 a HL0.out (HR0.out.ext (p.h.trans (q.h.mono p.h.size))))), rfl⟩
  simp only [Act.put, List.setIfInBounds_toArray, List.set]
  refine upW_late (by rfl) (.slice (some ⟨(N + 1), 0, none⟩) 32 32) (fun _ => by kernel_rfl) ?_
  simp only [Act.put, List.setIfInBounds_toArray, List.set]
  refine upW_call (by rfl) (by rfl) (.agg (nums .u64 (w8 (le b)))) _ rfl (by simp) (fun p => ?_) ?_
  · go_big_quiet_op
    exact ⟨_, fun q => Calls.ext_of (HRD1.out _ q.x (sl32 b HL1.out (HR1.out.ext (p.h.trans (q.h.mono p.h.size))))), rfl⟩
  simp only [Act.put, List.setIfInBounds_toArray, List.set]
  refine upW_call (by rfl) (by rfl) (.agg (nums .u64 (w8 s))) _ rfl (by simp) (fun p => ?_) ?_
  · go_big_quiet_op
    exact ⟨_, fun q => Calls.ext_of (HPL.out q.x), rfl⟩
  simp only [Act.put, List.setIfInBounds_toArray, List.set]
  refine upW_call (by rfl) (by rfl) (.agg (nums .u64 (w4 x))) _ rfl (by simp) (fun p => ?_) ?_
  · go_big_quiet_op
    exact ⟨_, fun q => Calls.ext_of (HRE.out q.x), rfl⟩
  simp only [Act.put, List.setIfInBounds_toArray, List.set]
  refine upW_call (by rfl) (by rfl) (.agg (byteVals (b32 x)).toArray) _ rfl (by simp) (fun p => ?_) ?_
  · go_big_quiet_op
    exact ⟨_, fun q => Calls.ext_of (HNM.out q.x), rfl⟩
  simp only [Act.put, List.setIfInBounds_toArray, List.set]
  refine upW_nil (fun wy hby => ?_)
  have HR0x903 := Lib.hid (HR0.out.ext hby)
  have HR1x903 := Lib.hid (HR1.out.ext hby)
  have HRZx903 := Lib.hid (HRZ.out.ext hby)
  have HBx903 := Lib.hid (HB.out.trans (hby.mono (show N ≤ _ by have := HRZ.out.lt; omega)))
  clear hby HR0 HR1 HRZ HB
  have HR0 := HR0x903
  have HR1 := HR1x903
  have HRZ := HRZx903
  have HB := HBx903
  clear HR0x903 HR1x903 HRZx903 HBx903
  go_wp2_with (refine wpList_store_row rfl 34 _ _ rfl (N + 1 + 1) ((byteVals (b32 x)).toArray) rfl rfl 34 _ HRZ.out HSX.out HOX.out (byteVals_one _) ?_)
  refine bodyPost_ret (results_cell_row (by rfl) _ _ (N + 1 + 1) 34 ((byteVals (b32 x)).toArray) (0, 0) _ (by rfl) (setRow_heap _ _ _ _ _ _ HRZ.out) Try.underlying34 rfl HSX.out) rfl ⟨rfl, ?_⟩
  rw [HN.out]
  exact Below.setRow HB.out (by omega) _
set_option maxRecDepth 100000 in
set_option maxHeartbeats 1000000 in
theorem MulAdd_sc (a b d : List UInt8) (w : World) (ha : a.length = 32) (hb : b.length = 32) (hd : d.length = 32) :
    Calls Try.prog 34 #[.agg (byteVals a).toArray, .agg (byteVals b).toArray, .agg (byteVals d).toArray] w fun e w' => e = .returned (.agg (byteVals (b32 (oMul (le a) (le b) (le d)))).toArray) ∧ Below w.heap.size w w' := by
  have HL0 := Lib.hid ha
  have HRD0 := Lib.hid (fun v w (h : Bys w v a) => readS_any v a w h)
  rw [mod8 _ (le_32 a ha)] at HRD0
  have HNL0 := Lib.hid (le_32 a ha)
  have HL1 := Lib.hid hb
  have HRD1 := Lib.hid (fun v w (h : Bys w v b) => readS_any v b w h)
  rw [mod8 _ (le_32 b hb)] at HRD1
  have HNL1 := Lib.hid (le_32 b hb)
  have HL2 := Lib.hid hd
  have HRD2 := Lib.hid (fun v w (h : Bys w v d) => readS_any v d w h)
  rw [mod8 _ (le_32 d hd)] at HRD2
  have HNL2 := Lib.hid (le_32 d hd)
  have HPL := Lib.hid (fun w => mulAddS_any (le a) (le b) (le d) w (le_32 a ha) (le_32 b hb) (le_32 d hd))
  have HRE := Lib.hid (fun w => restS_any (le a * le b + le d) w (mul_bound _ _ _ (le_32 a ha) (le_32 b hb) (le_32 d hd)))
  rw [show (le a * le b + le d) % 7237005577332262213973186563042994240857116359379907606001950938285454250989 = oMul (le a) (le b) (le d) from rfl] at HRE
  obtain ⟨s, hs⟩ : ∃ s, le a * le b + le d = s := ⟨_, rfl⟩
  rw [hs] at HPL HRE
  clear hs
  obtain ⟨x, hx⟩ : ∃ x, oMul (le a) (le b) (le d) = x := ⟨_, rfl⟩
  rw [hx] at HRE
  rw [hx]
  have HNM := Lib.hid (fun w => numS_any x w)
  have HSX := Lib.hid (sM (b32 x) (b32_len _))
  have HOX := Lib.hid (oN (zerB 32) (b32 x) (zerB_len 32) (b32_len _))
  clear hx ha hb hd
  have hz := zM
  have hzS := zS
  go_enter Try.func34, Try.ntmps34
  go_upto_region 1 with fail
  generalize hW1 : World.alloc _ _ = W1
  obtain ⟨N, hN⟩ : ∃ n, w.heap.size = n := ⟨_, rfl⟩
  have HR := Lib.hid (show BT W1 N 34 a ∧ BT W1 (N + 1) 34 b ∧ BT W1 (N + 1 + 1) 34 d ∧ BT W1 (N + 1 + 1 + 1) 34 (zerB 32) ∧ Below N w W1 by
    subst hW1; rw [← hN]
    have h3 := alloc3_at w (.cells (byteVals a).toArray 34) (.cells (byteVals b).toArray 34) (.cells (byteVals d).toArray 34)
    have hsz : (((w.alloc (.cells (byteVals a).toArray 34)).alloc (.cells (byteVals b).toArray 34)).alloc (.cells (byteVals d).toArray 34)).heap.size = w.heap.size + 1 + 1 + 1 := by simp
    refine ⟨(Go.heap_alloc_old _ _ (by rw [hsz]; omega)).trans h3.1, (Go.heap_alloc_old _ _ (by rw [hsz]; omega)).trans h3.2.1, (Go.heap_alloc_old _ _ (by rw [hsz]; omega)).trans h3.2.2, ?_, (Below.alloc3 w _ _ _).alloc (by rw [hsz]; omega) _⟩
    rw [← hsz]; exact Go.heap_alloc_new _ _)
  have HR0 := Lib.hid HR.out.1
  have HR1 := Lib.hid HR.out.2.1
  have HR2 := Lib.hid HR.out.2.2.1
  have HRZ := Lib.hid HR.out.2.2.2.1
  have HB := Lib.hid HR.out.2.2.2.2
  clear HR
  have HN := Lib.hid hN
  rw [hN]
  clear hW1 hN
  refine wp_region_up 9 9 (by kernel_rfl) (by kernel_rfl) (fun _ _ dst _ _ h => by cases dst <;> exact h) ?_
  simp only [List.take_succ_cons, List.take_zero, List.drop_succ_cons, List.drop_zero]
  refine upW_late (by rfl) (.slice (some ⟨N, 0, none⟩) 32 32) (fun _ => by kernel_rfl) ?_
  simp only [Act.put, List.setIfInBounds_toArray, List.set]
  refine upW_call (by rfl) (by rfl) (.agg (nums .u64 (w8 (le a)))) _ rfl (by simp) (fun p => ?_) ?_
  · go_big_quiet_op
    exact ⟨_, fun q => Calls.ext_of (HRD0.out _ q.x (sl32 a HL0.out (HR0.out.ext (p.h.trans (q.h.mono p.h.size))))), rfl⟩
  simp only [Act.put, List.setIfInBounds_toArray, List.set]
  refine upW_late (by rfl) (.slice (some ⟨(N + 1), 0, none⟩) 32 32) (fun _ => by kernel_rfl) ?_
  simp only [Act.put, List.setIfInBounds_toArray, List.set]
  refine upW_call (by rfl) (by rfl) (.agg (nums .u64 (w8 (le b)))) _ rfl (by simp) (fun p => ?_) ?_
  · go_big_quiet_op
    exact ⟨_, fun q => Calls.ext_of (HRD1.out _ q.x (sl32 b HL1.out (HR1.out.ext (p.h.trans (q.h.mono p.h.size))))), rfl⟩
  simp only [Act.put, List.setIfInBounds_toArray, List.set]
  refine upW_late (by rfl) (.slice (some ⟨(N + 1 + 1), 0, none⟩) 32 32) (fun _ => by kernel_rfl) ?_
  simp only [Act.put, List.setIfInBounds_toArray, List.set]
  refine upW_call (by rfl) (by rfl) (.agg (nums .u64 (w8 (le d)))) _ rfl (by simp) (fun p => ?_) ?_
  · go_big_quiet_op
    exact ⟨_, fun q => Calls.ext_of (HRD2.out _ q.x (sl32 d HL2.out (HR2.out.ext (p.h.trans (q.h.mono p.h.size))))), rfl⟩
  simp only [Act.put, List.setIfInBounds_toArray, List.set]
  refine upW_call (by rfl) (by rfl) (.agg (nums .u64 (w8 s))) _ rfl (by simp) (fun p => ?_) ?_
  · go_big_quiet_op
    exact ⟨_, fun q => Calls.ext_of (HPL.out q.x), rfl⟩
  simp only [Act.put, List.setIfInBounds_toArray, List.set]
  refine upW_call (by rfl) (by rfl) (.agg (nums .u64 (w4 x))) _ rfl (by simp) (fun p => ?_) ?_
  · go_big_quiet_op
    exact ⟨_, fun q => Calls.ext_of (HRE.out q.x), rfl⟩
  simp only [Act.put, List.setIfInBounds_toArray, List.set]
  refine upW_call (by rfl) (by rfl) (.agg (byteVals (b32 x)).toArray) _ rfl (by simp) (fun p => ?_) ?_
  · go_big_quiet_op
    exact ⟨_, fun q => Calls.ext_of (HNM.out q.x), rfl⟩
  simp only [Act.put, List.setIfInBounds_toArray, List.set]
  refine upW_nil (fun wy hby => ?_)
  have HR0x906 := Lib.hid (HR0.out.ext hby)
  have HR1x906 := Lib.hid (HR1.out.ext hby)
  have HR2x906 := Lib.hid (HR2.out.ext hby)
  have HRZx906 := Lib.hid (HRZ.out.ext hby)
  have HBx906 := Lib.hid (HB.out.trans (hby.mono (show N ≤ _ by have := HRZ.out.lt; omega)))
  clear hby HR0 HR1 HR2 HRZ HB
  have HR0 := HR0x906
  have HR1 := HR1x906
  have HR2 := HR2x906
  have HRZ := HRZx906
  have HB := HBx906
  clear HR0x906 HR1x906 HR2x906 HRZx906 HBx906
  go_wp2_with (refine wpList_store_row rfl 34 _ _ rfl (N + 1 + 1 + 1) ((byteVals (b32 x)).toArray) rfl rfl 34 _ HRZ.out HSX.out HOX.out (byteVals_one _) ?_)
  refine bodyPost_ret (results_cell_row (by rfl) _ _ (N + 1 + 1 + 1) 34 ((byteVals (b32 x)).toArray) (0, 0) _ (by rfl) (setRow_heap _ _ _ _ _ _ HRZ.out) Try.underlying34 rfl HSX.out) rfl ⟨rfl, ?_⟩
  rw [HN.out]
  exact Below.setRow HB.out (by omega) _
theorem wpList_valS {P : Program} {ops : Array Oper} {rest : List Oper} {o : Oper} {a : Act} {w : World} {Q : Exit → Act → World → Prop} {v : Value} (hg : o.guard = none) (hr : (execOp a.eval o).run P w = .ok (.value v) w) (h : wpList P ops Q rest (a.put o.dst v) w) : wpList P ops Q (o :: rest) a w :=
  wpList_plain hg fun _ hK => by unfold Oper.wp; rw [hr, Oper.upon_value]; exact hK _ _ h
theorem run_eqS (o : Oper) (ax : Act) (x y : Operand) (ho : o.op = .binOp .eql 103 x y 103) (a b : Nat) (hx : ax.eval x = .agg (nums .u64 (w4 a))) (hy : ax.eval y = .agg (nums .u64 (w4 b))) (ha : a < 115792089237316195423570985008687907853269984665640564039457584007913129639936) (hb : b < 115792089237316195423570985008687907853269984665640564039457584007913129639936) (c : Bool) (hc : decide (a = b) = c) (w : World) :
    (execOp ax.eval o).run Try.prog w = .ok (.value (.bool c)) w := by
  unfold execOp
  simp only [ho, hx, hy]
  have hm : Try.prog.eqGuardType Try.prog.depth 103 = false := by kernel_rfl
  have h : (Op.equal 103 (.agg (nums .u64 (w4 a))) (.agg (nums .u64 (w4 b)))).run Try.prog w = .ok (decide (a = b)) w := eqW 103 Try.underlying103 a b ha hb w
  simp [go_sem, binOp, hm, h, hc]
set_option maxRecDepth 100000 in
set_option maxHeartbeats 1000000 in
theorem Neg_sc (l : List UInt8) (w : World) (hl : l.length = 32) :
    Calls Try.prog 35 #[.agg (byteVals l).toArray] w fun e w' => e = .returned (.agg (byteVals (b32 (oNeg (le l)))).toArray) ∧ Below w.heap.size w w' := by
  have HL := Lib.hid hl
  have HRD := Lib.hid (fun v w (h : Bys w v l) => readS_any v l w h)
  rw [mod8 _ (le_32 l hl)] at HRD
  have HRE := Lib.hid (fun w => restS_any (le l) w (lt8 _ (le_32 l hl)))
  have hrl : le l % 7237005577332262213973186563042994240857116359379907606001950938285454250989 < 7237005577332262213973186563042994240857116359379907606001950938285454250989 := Nat.mod_lt _ (by decide)
  have HON := Lib.hid (show oNeg (le l) = (7237005577332262213973186563042994240857116359379907606001950938285454250989 - le l % 7237005577332262213973186563042994240857116359379907606001950938285454250989) % 7237005577332262213973186563042994240857116359379907606001950938285454250989 from rfl)
  obtain ⟨r, hr⟩ : ∃ r, le l % 7237005577332262213973186563042994240857116359379907606001950938285454250989 = r := ⟨_, rfl⟩
  rw [hr] at HRE hrl HON
  have HRL := Lib.hid hrl
  obtain ⟨y, hy⟩ : ∃ y, oNeg (le l) = y := ⟨_, rfl⟩
  rw [hy] at HON
  rw [hy]
  have HSR := Lib.hid (sS r)
  have HOR := Lib.hid (fun w => orderS_any w)
  clear hl hr hrl hy
  have hz := zM
  have hzS := zS
  go_enter Try.func35, Try.ntmps35
  go_upto_region 1 with fail
  generalize hW1 : World.alloc _ _ = W1
  obtain ⟨N, hN⟩ : ∃ n, w.heap.size = n := ⟨_, rfl⟩
  have HR0 := Lib.hid (show BT W1 N 34 l by subst hW1; rw [← hN]; exact (alloc2_at w _ _).1)
  have HRZ := Lib.hid (show BT W1 (N + 1) 34 (zerB 32) by subst hW1; rw [← hN]; exact (alloc2_at w _ _).2)
  have HB := Lib.hid (show Below N w W1 by subst hW1; rw [← hN]; exact ((Below.refl _ w).alloc (Nat.le_refl _) _).alloc (by simp) _)
  have HN := Lib.hid hN
  rw [hN]
  clear hW1 hN
  have HRD2 := Lib.hid (fun w h => HRD.out (.slice (some ⟨N, 0, none⟩) 32 32) w h)
  go_wp2_with fail
  refine (HRD2.out _ (sl32 l HL.out HR0.out)).mono ?_
  rintro e wu4 ⟨rfl, hb4⟩
  have HR0x4 := Lib.hid (HR0.out.ext hb4)
  have HRZx4 := Lib.hid (HRZ.out.ext hb4)
  have HBx4 := Lib.hid (HB.out.trans (hb4.mono (show N ≤ _ by have := HRZ.out.lt; omega)))
  clear hb4 HR0 HRZ HB
  have HR0 := HR0x4
  have HRZ := HRZx4
  have HB := HBx4
  clear HR0x4 HRZx4 HBx4
  go_wp2_with fail
  refine (HRE.out _).mono ?_
  rintro e wu5 ⟨rfl, hb5⟩
  have HR0x5 := Lib.hid (HR0.out.ext hb5)
  have HRZx5 := Lib.hid (HRZ.out.ext hb5)
  have HBx5 := Lib.hid (HB.out.trans (hb5.mono (show N ≤ _ by have := HRZ.out.lt; omega)))
  clear hb5 HR0 HRZ HB
  have HR0 := HR0x5
  have HRZ := HRZx5
  have HB := HBx5
  clear HR0x5 HRZx5 HBx5
  go_wp2_with (refine wpList_store_row rfl 103 _ _ rfl wu5.heap.size (nums .u64 (w4 r)) rfl rfl 103 _ (Go.heap_alloc_new _ _) HSR.out ?hold (nums_one _ _) (Stop.out ?_))
  case hold => rw [size_nums, size_nums, zer_len, w4_len]
  generalize hWS : World.setRow _ _ _ = ws
  obtain ⟨M, hM⟩ : ∃ n, wu5.heap.size = n := ⟨_, rfl⟩
  have hMN : N + 1 < M := by rw [← hM]; exact HRZ.out.lt
  have HD := Lib.hid (show RW ws M .u64 103 (w4 r) by subst hWS; rw [← hM]; exact setRow_heap _ _ _ _ _ _ (Go.heap_alloc_new _ _))
  have HAZ := Lib.hid (show BT ws (N + 1) 34 (zerB 32) by subst hWS; exact HRZ.out.other ((setRow_other _ _ _ _ (by omega)).trans (Go.heap_alloc_old _ _ HRZ.out.lt)))
  have HE := Lib.hid (show Below N w ws by subst hWS; exact Below.setRow (HB.out.alloc (by omega) _) (by omega) _)
  rw [hM]
  clear hWS hM HR0 HRZ HB
  have HRZ := HAZ
  have HB := HE
  clear HAZ HE
  refine ⟨?_⟩
  by_cases h0 : r = 0
  · obtain rfl : y = 0 := by rw [HON.out, h0]
    have HEQ := Lib.hid (show decide (r = 0) = true from decide_eq_true h0)
    have HR4 := Lib.hid (show r < 115792089237316195423570985008687907853269984665640564039457584007913129639936 by have := HRL.out; omega)
    clear h0
    have HSX := Lib.hid (sM (b32 0) (b32_len _))
    have HOX := Lib.hid (oN (zerB 32) (b32 0) (zerB_len 32) (b32_len _))
    go_wp2_with (first
      | (refine wpList_valS rfl (run_eqS _ _ _ _ rfl r 0 rfl rfl HR4.out (by decide) true HEQ.out _) ?_)
      | (refine wpList_build' rfl 103 _ rfl (nums .u64 (w4 0)) (by kernel_rfl) ?_)
      | (refine wpList_build' rfl 34 _ rfl ((byteVals (b32 0)).toArray) (by kernel_rfl) ?_)
      | (refine wpList_load_row rfl 103 _ rfl M rfl 103 (nums .u64 (w4 r)) (0, 0) _ HD.out Try.underlying103 rfl HSR.out ?_)
      | (refine wpList_store_row rfl 34 _ _ rfl (N + 1) ((byteVals (b32 0)).toArray) rfl rfl 34 _ HRZ.out HSX.out HOX.out (byteVals_one _) ?_)
      )
    refine bodyPost_ret (results_cell_row (by rfl) _ _ (N + 1) 34 ((byteVals (b32 0)).toArray) (0, 0) _ (by rfl) (setRow_heap _ _ _ _ _ _ HRZ.out) Try.underlying34 rfl HSX.out) rfl ⟨rfl, ?_⟩
    rw [HN.out]
    exact Below.setRow HB.out (by omega) _
  · have hx : 7237005577332262213973186563042994240857116359379907606001950938285454250989 - r < 7237005577332262213973186563042994240857116359379907606001950938285454250989 := by omega
    have HMI := Lib.hid (fun w => minusS_any 7237005577332262213973186563042994240857116359379907606001950938285454250989 r (7237005577332262213973186563042994240857116359379907606001950938285454250989 - r) 0 w (by decide) (by have := HRL.out; omega) (by omega) (by have := HRL.out; omega) (by decide))
    have HV := Lib.hid (show y = 7237005577332262213973186563042994240857116359379907606001950938285454250989 - r by rw [HON.out]; exact Nat.mod_eq_of_lt hx)
    have HEQ := Lib.hid (show decide (r = 0) = false from decide_eq_false h0)
    have HR4 := Lib.hid (show r < 115792089237316195423570985008687907853269984665640564039457584007913129639936 by have := HRL.out; omega)
    obtain ⟨x, hxx⟩ : ∃ x, 7237005577332262213973186563042994240857116359379907606001950938285454250989 - r = x := ⟨_, rfl⟩
    rw [hxx] at HMI HV
    obtain rfl : y = x := HV.out
    have HNM := Lib.hid (fun w => numS_any y w)
    have HSXW := Lib.hid (sS y)
    have HOW := Lib.hid (show (nums .u64 (w4 r)).size = (nums .u64 (w4 y)).size by rw [size_nums, size_nums, w4_len, w4_len])
    have HSX := Lib.hid (sM (b32 y) (b32_len _))
    have HOX := Lib.hid (oN (zerB 32) (b32 y) (zerB_len 32) (b32_len _))
    clear h0 hx hxx HV
    go_wp2_with (first
      | (refine wpList_valS rfl (run_eqS _ _ _ _ rfl r 0 rfl rfl HR4.out (by decide) false HEQ.out _) ?_)
      | (refine wpList_build' rfl 103 _ rfl (nums .u64 (w4 0)) (by kernel_rfl) ?_)
      | (refine wpList_load_row rfl 103 _ rfl M rfl 103 (nums .u64 (w4 r)) (0, 0) _ HD.out Try.underlying103 rfl HSR.out ?_)
      )
    simp only [Act.put, List.setIfInBounds_toArray, List.set]
    refine wp_region_up 6 5 (by kernel_rfl) (by kernel_rfl) (fun _ _ dst _ _ h => by cases dst <;> exact h) ?_
    simp only [List.take_succ_cons, List.take_zero, List.drop_succ_cons, List.drop_zero]
    refine upW_call (by rfl) (by rfl) (.agg (nums .u64 (w4 7237005577332262213973186563042994240857116359379907606001950938285454250989))) _ rfl (by simp) (fun p => ?_) ?_
    · go_big_quiet_op
      exact ⟨_, fun q => Calls.ext_of (HOR.out q.x), rfl⟩
    simp only [Act.put, List.setIfInBounds_toArray, List.set]
    refine upW_val (by rfl) (by rfl) (by rfl) (fun K hK => quiet_load_row _ _ rfl M rfl 103 _ (0, 0) _ HD.out Try.underlying103 rfl HSR.out (hK _ ?_))
    simp only [Act.put, List.setIfInBounds_toArray, List.set]
    refine upW_call (by rfl) (by rfl) (.tuple #[.agg (nums .u64 (w4 y)), .int .u64 0]) _ rfl (by simp) (fun p => ?_) ?_
    · go_big_quiet_op
      exact ⟨_, fun q => Calls.ext_of (HMI.out q.x), rfl⟩
    simp only [Act.put, List.setIfInBounds_toArray, List.set]
    refine upW_val (by rfl) (by rfl) (by rfl) ?_
    intro K hK
    go_big_quiet_op
    refine hK _ ?_
    refine upW_late (by rfl) (.agg (nums .u64 (w4 y))) (fun _ => rfl) ?_
    simp only [Act.put, List.setIfInBounds_toArray, List.set]
    refine upW_late (by rfl) (.int .u64 0) (fun _ => rfl) ?_
    simp only [Act.put, List.setIfInBounds_toArray, List.set]
    refine upW_nil (fun wy hby => ?_)
    have HRZx977 := Lib.hid (HRZ.out.ext hby)
    have HDx977 := Lib.hid (HD.out.ext hby)
    have HBx977 := Lib.hid (HB.out.trans (hby.mono (show N ≤ _ by have := HRZ.out.lt; omega)))
    clear hby HRZ HD HB
    have HRZ := HRZx977
    have HD := HDx977
    have HB := HBx977
    clear HRZx977 HDx977 HBx977
    go_wp2_with (refine wpList_store_row rfl 103 _ _ rfl M (nums .u64 (w4 y)) rfl rfl 103 _ HD.out HSXW.out HOW.out (nums_one _ _) (Stop.out ?_))
    generalize hWS : World.setRow _ _ _ = wz
    have HD2 := Lib.hid (show RW wz M .u64 103 (w4 y) by subst hWS; exact setRow_heap _ _ _ _ _ _ HD.out)
    have HAZ := Lib.hid (show BT wz (N + 1) 34 (zerB 32) by subst hWS; exact HRZ.out.other (setRow_other _ _ _ _ (by omega)))
    have HE := Lib.hid (show Below N w wz by subst hWS; exact Below.setRow HB.out (by omega) _)
    clear hWS HD HRZ HB
    have HRZ := HAZ
    have HB := HE
    clear HAZ HE
    refine ⟨?_⟩
    go_wp2_with (refine wpList_load_row rfl 103 _ rfl M rfl 103 (nums .u64 (w4 y)) (0, 0) _ HD2.out Try.underlying103 rfl HSXW.out ?_)
    refine (HNM.out _).mono ?_
    rintro e wu6 ⟨rfl, hb6⟩
    have HRZx6 := Lib.hid (HRZ.out.ext hb6)
    have HBx6 := Lib.hid (HB.out.trans (hb6.mono (show N ≤ _ by have := HRZ.out.lt; omega)))
    clear hb6 HRZ HB
    have HRZ := HRZx6
    have HB := HBx6
    clear HRZx6 HBx6
    go_wp2_with (refine wpList_store_row rfl 34 _ _ rfl (N + 1) ((byteVals (b32 y)).toArray) rfl rfl 34 _ HRZ.out HSX.out HOX.out (byteVals_one _) ?_)
    refine bodyPost_ret (results_cell_row (by rfl) _ _ (N + 1) 34 ((byteVals (b32 y)).toArray) (0, 0) _ (by rfl) (setRow_heap _ _ _ _ _ _ HRZ.out) Try.underlying34 rfl HSX.out) rfl ⟨rfl, ?_⟩
    rw [HN.out]
    exact Below.setRow HB.out (by omega) _
end Go.Proofs.Ytfmclkmmkceldaa
