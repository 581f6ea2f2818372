/-
  The document's words: root.
  Conditions: none.
-/
import Derived.Test.YtfmclkmmkceldaaFdRg
import Derived.Test.YtfmclkmmkceldaaUpT
namespace Go.Proofs.Ytfmclkmmkceldaa
open Go.RowKit

def G8 : Nat := 7237005577332262213973186563042994240829374041602535252466099000494570602494
def G4 : Nat := 14474011154664524427946373126085988481658748083205070504932198000989141204987
def r8 (a : Nat) : Nat := a ^ G8 % 57896044618658097711785492504343953926634992332820282019728792003956564819949
def evn (r : Nat) : Nat := if r % 2 = 1 then (0 + 57896044618658097711785492504343953926634992332820282019728792003956564819949 - r) % 57896044618658097711785492504343953926634992332820282019728792003956564819949 else r
def rrt (a b : Nat) : Nat × Bool :=
  if r8 a * r8 a % 57896044618658097711785492504343953926634992332820282019728792003956564819949 = a then (evn (r8 a), true)
  else if r8 a * (b ^ G4 % 57896044618658097711785492504343953926634992332820282019728792003956564819949) % 57896044618658097711785492504343953926634992332820282019728792003956564819949 * (r8 a * (b ^ G4 % 57896044618658097711785492504343953926634992332820282019728792003956564819949) % 57896044618658097711785492504343953926634992332820282019728792003956564819949) % 57896044618658097711785492504343953926634992332820282019728792003956564819949 = a then (evn (r8 a * (b ^ G4 % 57896044618658097711785492504343953926634992332820282019728792003956564819949) % 57896044618658097711785492504343953926634992332820282019728792003956564819949), true)
  else (0, false)
theorem run_neW (o : Oper) (ax : Act) (x y : Operand) (t : TypeId) (ho : o.op = .binOp .neq t x y t) (hu : Try.prog.underlying t = some (.array 4 29)) (a b : Nat) (hx : ax.eval x = .agg (nums .u64 (w4 a))) (hy : ax.eval y = .agg (nums .u64 (w4 b))) (ha : a < 115792089237316195423570985008687907853269984665640564039457584007913129639936) (hb : b < 115792089237316195423570985008687907853269984665640564039457584007913129639936) (hm : Try.prog.eqGuardType Try.prog.depth t = false) (c : Bool) (hc : (!decide (a = b)) = c) (w : World) :
    (execOp ax.eval o).run Try.prog w = .ok (.value (.bool c)) w := by
  unfold execOp
  simp only [ho, hx, hy]
  have h : (Op.equal t (.agg (nums .u64 (w4 a))) (.agg (nums .u64 (w4 b)))).run Try.prog w = .ok (decide (a = b)) w := eqW t hu a b ha hb w
  simp [go_sem, binOp, hm, h, ← hc]
theorem run_build2 (o : Oper) (ax : Act) (ho : o.op = .build 86 #[(0, .const (.int .u64 2))]) (w : World) : (execOp ax.eval o).run Try.prog w = .ok (.value (.agg (nums .u64 (w4 2)))) w := by
  unfold execOp
  simp only [ho]
  kernel_rfl
theorem run_buildG (o : Oper) (ax : Act) (ho : o.op = .build 86 #[(0, .const (.int .u64 18446744073709551611)), (1, .const (.int .u64 18446744073709551615)), (2, .const (.int .u64 18446744073709551615)), (3, .const (.int .u64 2305843009213693951))]) (w : World) : (execOp ax.eval o).run Try.prog w = .ok (.value (.agg (nums .u64 (w4 G4)))) w := by
  unfold execOp
  simp only [ho]
  kernel_rfl
theorem wpList_val {P : Program} {ops : Array Oper} {rest : List Oper} {o : Oper} {a : Act} {w : World} {Q : Exit → Act → World → Prop} {v : Value} (hg : o.guard = none) (hr : (execOp a.eval o).run P w = .ok (.value v) w) (h : wpList P ops Q rest (a.put o.dst v) w) : wpList P ops Q (o :: rest) a w :=
  wpList_plain hg fun _ hK => by unfold Oper.wp; rw [hr, Oper.upon_value]; exact hK _ _ h
theorem wd0 (r : Nat) : wd r 0 % 2 = r % 2 := by unfold wd; rw [Nat.pow_zero, Nat.div_one]; omega
set_option maxRecDepth 100000 in
set_option maxHeartbeats 1000000 in
theorem rootR_any (a : Nat) (w : World) (ha : a < 57896044618658097711785492504343953926634992332820282019728792003956564819949) :
    Calls Try.prog 97 #[.agg (nums .u64 (w4 a))] w fun r w' => r = .returned (.tuple #[.agg (nums .u64 (w4 (rrt a 2).1)), .bool (rrt a 2).2]) ∧ Below w.heap.size w w' := by
  have HAL := Lib.hid (show a < 115792089237316195423570985008687907853269984665640564039457584007913129639936 by omega)
  have HP1 := Lib.hid (fun w => powerR_any a G8 w ha (by decide))
  have HP2 := Lib.hid (fun w => powerR_any 2 G4 w (by decide) (by decide))
  have HRT := Lib.hid (show rrt a 2 = if r8 a * r8 a % 57896044618658097711785492504343953926634992332820282019728792003956564819949 = a then (evn (r8 a), true)
    else if r8 a * (2 ^ G4 % 57896044618658097711785492504343953926634992332820282019728792003956564819949) % 57896044618658097711785492504343953926634992332820282019728792003956564819949 * (r8 a * (2 ^ G4 % 57896044618658097711785492504343953926634992332820282019728792003956564819949) % 57896044618658097711785492504343953926634992332820282019728792003956564819949) % 57896044618658097711785492504343953926634992332820282019728792003956564819949 = a then (evn (r8 a * (2 ^ G4 % 57896044618658097711785492504343953926634992332820282019728792003956564819949) % 57896044618658097711785492504343953926634992332820282019728792003956564819949), true)
    else (0, false) from rfl)
  have HLg := Lib.hid (show a ^ G8 % 57896044618658097711785492504343953926634992332820282019728792003956564819949 < 57896044618658097711785492504343953926634992332820282019728792003956564819949 from Nat.mod_lt _ P_0)
  have HLi := Lib.hid (show 2 ^ G4 % 57896044618658097711785492504343953926634992332820282019728792003956564819949 < 57896044618658097711785492504343953926634992332820282019728792003956564819949 from Nat.mod_lt _ P_0)
  rw [show r8 a = a ^ G8 % 57896044618658097711785492504343953926634992332820282019728792003956564819949 from rfl] at HRT
  obtain ⟨g, hg⟩ : ∃ g, a ^ G8 % 57896044618658097711785492504343953926634992332820282019728792003956564819949 = g := ⟨_, rfl⟩
  obtain ⟨i, hi⟩ : ∃ g, 2 ^ G4 % 57896044618658097711785492504343953926634992332820282019728792003956564819949 = g := ⟨_, rfl⟩
  rw [hg] at HP1 HRT HLg
  rw [hi] at HP2 HRT HLi
  have HMI := Lib.hid (fun w => mulR_any g i w (by have := HLg.out; omega) (by have := HLi.out; omega))
  have HLh := Lib.hid (show g * i % 57896044618658097711785492504343953926634992332820282019728792003956564819949 < 57896044618658097711785492504343953926634992332820282019728792003956564819949 from Nat.mod_lt _ P_0)
  obtain ⟨h, hh⟩ : ∃ h, g * i % 57896044618658097711785492504343953926634992332820282019728792003956564819949 = h := ⟨_, rfl⟩
  rw [hh] at HMI HRT HLh
  have HQ1 := Lib.hid (fun w => mulR_any g g w (by have := HLg.out; omega) (by have := HLg.out; omega))
  have HQ2 := Lib.hid (fun w => mulR_any h h w (by have := HLh.out; omega) (by have := HLh.out; omega))
  have HQL1 := Lib.hid (show g * g % 57896044618658097711785492504343953926634992332820282019728792003956564819949 < 115792089237316195423570985008687907853269984665640564039457584007913129639936 by have := Nat.mod_lt (g * g) P_0; omega)
  have HQL2 := Lib.hid (show h * h % 57896044618658097711785492504343953926634992332820282019728792003956564819949 < 115792089237316195423570985008687907853269984665640564039457584007913129639936 by have := Nat.mod_lt (h * h) P_0; omega)
  obtain ⟨q1, hq1⟩ : ∃ z, g * g % 57896044618658097711785492504343953926634992332820282019728792003956564819949 = z := ⟨_, rfl⟩
  obtain ⟨q2, hq2⟩ : ∃ z, h * h % 57896044618658097711785492504343953926634992332820282019728792003956564819949 = z := ⟨_, rfl⟩
  rw [hq1] at HQ1 HRT HQL1
  rw [hq2] at HQ2 HRT HQL2
  have HSA := Lib.hid (sR a)
  have HSG := Lib.hid (sR g)
  have HSH := Lib.hid (sR h)
  have HS0 := Lib.hid (sR 0)
  have hz := zR
  clear ha hg hi hh hq1 hq2
  go_enter Try.func97, Try.ntmps97
  go_upto_region 1 with fail
  generalize hW1 : World.alloc _ _ = W1
  obtain ⟨N, hN⟩ : ∃ n, w.heap.size = n := ⟨_, rfl⟩
  have HR1 := Lib.hid (show RW W1 N .u64 86 (w4 a) by subst hW1; rw [← hN]; exact (alloc2_at w _ _).1)
  have HR2 := Lib.hid (show RW W1 (N + 1) .u64 86 (zer 4) by subst hW1; rw [← hN]; exact (alloc2_at w _ _).2)
  have HB1 := Lib.hid (show Below N w W1 by subst hW1; rw [← hN]; exact ((Below.refl _ w).alloc (Nat.le_refl _) _).alloc (by simp) _)
  have HN := Lib.hid hN
  rw [hN]
  clear hW1 hN
  go_wp2_with (first
    | (refine wpList_load_row rfl 86 _ rfl N rfl 86 (nums .u64 (w4 a)) (0, 0) _ HR1.out Try.underlying86 rfl HSA.out ?_)
    | (refine wpList_build' rfl 86 _ rfl (nums .u64 (w4 G8)) (by kernel_rfl) ?_)
    )
  refine (HP1.out _).mono ?_
  rintro e2 w2 ⟨rfl, hb2⟩
  have HC1 := Lib.hid (HR1.out.ext hb2)
  have HC2 := Lib.hid (HR2.out.ext hb2)
  have HCB := Lib.hid (HB1.out.trans (hb2.mono (show N ≤ _ by have := HR2.out.lt; omega)))
  clear hb2 HR1 HR2 HB1
  go_wp2_with (refine wpList_store_row rfl 86 _ _ rfl w2.heap.size (nums .u64 (w4 g)) rfl rfl 86 _ (Go.heap_alloc_new _ _) HSG.out ?hold (nums_one _ _) (Stop.out ?_))
  case hold => rw [size_nums, size_nums, zer_len, w4_len]
  generalize hWS : World.setRow _ _ _ = ws
  obtain ⟨M, hM⟩ : ∃ n, w2.heap.size = n := ⟨_, rfl⟩
  have hMN : N + 1 < M := by rw [← hM]; exact HC2.out.lt
  have HD3 := Lib.hid (show RW ws M .u64 86 (w4 g) by subst hWS; rw [← hM]; exact setRow_heap _ _ _ _ _ _ (Go.heap_alloc_new _ _))
  have HD1 := Lib.hid (show RW ws N .u64 86 (w4 a) by subst hWS; exact HC1.out.other ((setRow_other _ _ _ _ (by omega)).trans (Go.heap_alloc_old _ _ HC1.out.lt)))
  have HD2 := Lib.hid (show RW ws (N + 1) .u64 86 (zer 4) by subst hWS; exact HC2.out.other ((setRow_other _ _ _ _ (by omega)).trans (Go.heap_alloc_old _ _ HC2.out.lt)))
  have HDB := Lib.hid (show Below N w ws by subst hWS; exact Below.setRow (HCB.out.alloc (by omega) _) (by omega) _)
  rw [hM]
  clear hWS hM HC1 HC2 HCB hz
  refine ⟨?_⟩
  by_cases h1 : q1 = a
  · rw [if_pos h1] at HRT
    have HH1 := Lib.hid h1
    clear h1
    go_wp2_with fail
    refine wp_region_whole [0, 1, 2, 3, 4] [] [] (by kernel_rfl) (by kernel_rfl) (List.forall_mem_nil _) rfl ?_
    simp only [List.foldl]
    refine upW_val (by rfl) (by rfl) (by rfl) (fun K hK => quiet_load_row _ _ rfl M rfl 86 _ (0, 0) _ HD3.out Try.underlying86 rfl HSG.out (hK _ ?_))
    simp only [Act.put, List.setIfInBounds_toArray, List.set]
    refine upW_val (by rfl) (by rfl) (by rfl) (fun K hK => quiet_load_row _ _ rfl M rfl 86 _ (0, 0) _ HD3.out Try.underlying86 rfl HSG.out (hK _ ?_))
    simp only [Act.put, List.setIfInBounds_toArray, List.set]
    refine upW_call (by rfl) (by rfl) (.agg (nums .u64 (w4 q1))) _ rfl (by simp) (fun p => ?_) ?_
    · go_big_quiet_op
      exact ⟨_, fun q => Calls.ext_of (HQ1.out q.x), rfl⟩
    simp only [Act.put, List.setIfInBounds_toArray, List.set]
    refine upW_val (by rfl) (by rfl) (by rfl) (fun K hK => quiet_load_row _ _ rfl N rfl 86 _ (0, 0) _ HD1.out Try.underlying86 rfl HSA.out (hK _ ?_))
    simp only [Act.put, List.setIfInBounds_toArray, List.set]
    refine upW_late (by rfl) (.bool false) (fun w => run_neW _ _ _ _ 86 rfl Try.underlying86 q1 a rfl rfl HQL1.out HAL.out (by kernel_rfl) false (by rw [HH1.out]; simp) w) ?_
    simp only [Act.put, List.setIfInBounds_toArray, List.set]
    refine upW_nil ⟨List.forall_mem_nil _, fun M2 wy hM2 hne hby => ?_⟩
    simp only [List.foldr]
    clear hM2 hne M2
    have HE1 := Lib.hid (HD1.out.ext hby)
    have HE2 := Lib.hid (HD2.out.ext hby)
    have HE3 := Lib.hid (HD3.out.ext hby)
    have HEB := Lib.hid (HDB.out.trans (hby.mono (show N ≤ _ by have := HD2.out.lt; omega)))
    clear hby HD1 HD2 HD3 HDB
    go_wp2_with fail
    refine wp_region_whole [0, 1, 2, 3, 4] [] [] (by kernel_rfl) (by kernel_rfl) (List.forall_mem_nil _) rfl ?_
    simp only [List.foldl]
    refine upW_val (by rfl) (by rfl) (by rfl) (fun K hK => quiet_load_row _ _ rfl M rfl 86 _ (0, 0) _ HE3.out Try.underlying86 rfl HSG.out (hK _ ?_))
    simp only [Act.put, List.setIfInBounds_toArray, List.set]
    refine upW_val (by rfl) (by rfl) (by rfl) (fun K hK => quiet_load_row _ _ rfl M rfl 86 _ (0, 0) _ HE3.out Try.underlying86 rfl HSG.out (hK _ ?_))
    simp only [Act.put, List.setIfInBounds_toArray, List.set]
    refine upW_call (by rfl) (by rfl) (.agg (nums .u64 (w4 q1))) _ rfl (by simp) (fun p => ?_) ?_
    · go_big_quiet_op
      exact ⟨_, fun q => Calls.ext_of (HQ1.out q.x), rfl⟩
    simp only [Act.put, List.setIfInBounds_toArray, List.set]
    refine upW_val (by rfl) (by rfl) (by rfl) (fun K hK => quiet_load_row _ _ rfl N rfl 86 _ (0, 0) _ HE1.out Try.underlying86 rfl HSA.out (hK _ ?_))
    simp only [Act.put, List.setIfInBounds_toArray, List.set]
    refine upW_late (by rfl) (.bool false) (fun w => run_neW _ _ _ _ 86 rfl Try.underlying86 q1 a rfl rfl HQL1.out HAL.out (by kernel_rfl) false (by rw [HH1.out]; simp) w) ?_
    simp only [Act.put, List.setIfInBounds_toArray, List.set]
    refine upW_nil ⟨List.forall_mem_nil _, fun M2 wz hM2 hne hby => ?_⟩
    simp only [List.foldr]
    clear hM2 hne M2
    have HF1 := Lib.hid (HE1.out.ext hby)
    have HF2 := Lib.hid (HE2.out.ext hby)
    have HF3 := Lib.hid (HE3.out.ext hby)
    have HFB := Lib.hid (HEB.out.trans (hby.mono (show N ≤ _ by have := HE2.out.lt; omega)))
    clear hby HE1 HE2 HE3 HEB
    have HOF := Lib.hid (show (nums .u64 (zer 4)).size = (nums .u64 (w4 (evn g))).size by rw [size_nums, size_nums, zer_len, w4_len])
    have HSF := Lib.hid (sR (evn g))
    have c0 := HF3.out.cell (i := 0) (by rw [w4_len]; decide)
    rw [w4_get _ 0 (by decide)] at c0
    have hbits : bits .and .u64 ((wd g 0 : Nat) : Int) 1 = ((g % 2 : Nat) : Int) := by rw [and1N (wd g 0) (show wd g 0 < 18446744073709551616 from Nat.mod_lt _ (by decide)), wd0]
    by_cases hodd : g % 2 = 1
    · have hbits1 : bits .and .u64 ((wd g 0 : Nat) : Int) 1 = 1 := by rw [hbits, hodd]; rfl
      have HEV := Lib.hid (show (0 + 57896044618658097711785492504343953926634992332820282019728792003956564819949 - g) % 57896044618658097711785492504343953926634992332820282019728792003956564819949 = evn g by unfold evn; rw [if_pos hodd])
      have HSB := Lib.hid (fun w => subR_any 0 g w (by decide) HLg.out)
      rw [HEV.out] at HSB
      have HOE := Lib.hid (show (nums .u64 (w4 g)).size = (nums .u64 (w4 (evn g))).size by rw [size_nums, size_nums, w4_len, w4_len])
      generalize wd g 0 = x0 at c0 hbits1
      obtain ⟨v, hv⟩ : ∃ v, evn g = v := ⟨_, rfl⟩
      rw [hv] at HSB HSF HOF HOE HRT
      clear hbits hodd HEV hv
      go_wp2_with (first
        | (refine wpList_build' rfl 86 _ rfl (nums .u64 (w4 0)) (by kernel_rfl) ?_)
        | (refine wpList_load_row rfl 86 _ rfl M rfl 86 (nums .u64 (w4 g)) (0, 0) _ HF3.out Try.underlying86 rfl HSG.out ?_)
        )
      refine (HSB.out _).mono ?_
      rintro e8 w8 ⟨rfl, hb8⟩
      have HX1 := Lib.hid (HF1.out.ext hb8)
      have HX2 := Lib.hid (HF2.out.ext hb8)
      have HX3 := Lib.hid (HF3.out.ext hb8)
      have HXB := Lib.hid (HFB.out.trans (hb8.mono (show N ≤ _ by have := HF2.out.lt; omega)))
      clear hb8 HF1 HF2 HF3 HFB c0
      go_wp2_with (refine wpList_store_row rfl 86 _ _ rfl M (nums .u64 (w4 v)) rfl rfl 86 _ HX3.out HSF.out HOE.out (nums_one _ _) (Stop.out ?_))
      generalize hWT : World.setRow _ _ _ = wt
      have HY2 := Lib.hid (show RW wt (N + 1) .u64 86 (zer 4) by subst hWT; exact HX2.out.other (setRow_other _ _ _ _ (by omega)))
      have HY3 := Lib.hid (show RW wt M .u64 86 (w4 v) by subst hWT; exact setRow_heap _ _ _ _ _ _ HX3.out)
      have HYB := Lib.hid (show Below N w wt by subst hWT; exact Below.setRow HXB.out (by omega) _)
      clear hWT HX1 HX2 HX3 HXB
      refine ⟨?_⟩
      go_wp2_with (first
        | (refine wpList_load_row rfl 86 _ rfl M rfl 86 (nums .u64 (w4 v)) (0, 0) _ HY3.out Try.underlying86 rfl HSF.out ?_)
        | (refine wpList_store_row rfl 86 _ _ rfl (N + 1) (nums .u64 (w4 v)) rfl rfl 86 _ HY2.out HSF.out HOF.out (nums_one _ _) ?_)
        )
      refine bodyPost_ret (results_cell_slot (p := 2) (q := 3) (by rfl) _ _ (N + 1) 86 (nums .u64 (w4 v)) (0, 0) _ (.bool true) (by rfl) (setRow_heap _ _ _ _ _ _ HY2.out) Try.underlying86 rfl HSF.out rfl) rfl ⟨by rw [HRT.out], ?_⟩
      rw [HN.out]
      exact Below.setRow HYB.out (by omega) _
    · have hbits1 : bits .and .u64 ((wd g 0 : Nat) : Int) 1 = 0 := by rw [hbits, show g % 2 = 0 by omega]; rfl
      have HEV := Lib.hid (show evn g = g by unfold evn; rw [if_neg hodd])
      rw [HEV.out] at HSF HOF HRT
      generalize wd g 0 = x0 at c0 hbits1
      clear hbits hodd HEV
      go_wp2_with (first
        | (refine wpList_load_row rfl 86 _ rfl M rfl 86 (nums .u64 (w4 g)) (0, 0) _ HF3.out Try.underlying86 rfl HSF.out ?_)
        | (refine wpList_store_row rfl 86 _ _ rfl (N + 1) (nums .u64 (w4 g)) rfl rfl 86 _ HF2.out HSF.out HOF.out (nums_one _ _) ?_)
        )
      refine bodyPost_ret (results_cell_slot (p := 2) (q := 3) (by rfl) _ _ (N + 1) 86 (nums .u64 (w4 g)) (0, 0) _ (.bool true) (by rfl) (setRow_heap _ _ _ _ _ _ HF2.out) Try.underlying86 rfl HSF.out rfl) rfl ⟨by rw [HRT.out], ?_⟩
      rw [HN.out]
      exact Below.setRow HFB.out (by omega) _
  · rw [if_neg h1] at HRT
    have HH1 := Lib.hid h1
    clear h1
    go_wp2_with fail
    refine wp_region_whole [0, 1, 2, 3, 4] [] [] (by kernel_rfl) (by kernel_rfl) (List.forall_mem_nil _) rfl ?_
    simp only [List.foldl]
    refine upW_val (by rfl) (by rfl) (by rfl) (fun K hK => quiet_load_row _ _ rfl M rfl 86 _ (0, 0) _ HD3.out Try.underlying86 rfl HSG.out (hK _ ?_))
    simp only [Act.put, List.setIfInBounds_toArray, List.set]
    refine upW_val (by rfl) (by rfl) (by rfl) (fun K hK => quiet_load_row _ _ rfl M rfl 86 _ (0, 0) _ HD3.out Try.underlying86 rfl HSG.out (hK _ ?_))
    simp only [Act.put, List.setIfInBounds_toArray, List.set]
    refine upW_call (by rfl) (by rfl) (.agg (nums .u64 (w4 q1))) _ rfl (by simp) (fun p => ?_) ?_
    · go_big_quiet_op
      exact ⟨_, fun q => Calls.ext_of (HQ1.out q.x), rfl⟩
    simp only [Act.put, List.setIfInBounds_toArray, List.set]
    refine upW_val (by rfl) (by rfl) (by rfl) (fun K hK => quiet_load_row _ _ rfl N rfl 86 _ (0, 0) _ HD1.out Try.underlying86 rfl HSA.out (hK _ ?_))
    simp only [Act.put, List.setIfInBounds_toArray, List.set]
    refine upW_late (by rfl) (.bool true) (fun w => run_neW _ _ _ _ 86 rfl Try.underlying86 q1 a rfl rfl HQL1.out HAL.out (by kernel_rfl) true (by simp [HH1.out]) w) ?_
    simp only [Act.put, List.setIfInBounds_toArray, List.set]
    refine upW_nil ⟨List.forall_mem_nil _, fun M2 wy hM2 hne hby => ?_⟩
    simp only [List.foldr]
    clear hM2 hne M2
    have HE1 := Lib.hid (HD1.out.ext hby)
    have HE2 := Lib.hid (HD2.out.ext hby)
    have HE3 := Lib.hid (HD3.out.ext hby)
    have HEB := Lib.hid (HDB.out.trans (hby.mono (show N ≤ _ by have := HD2.out.lt; omega)))
    clear hby HD1 HD2 HD3 HDB
    go_wp2_with fail
    refine wp_region_up 5 5 (by kernel_rfl) (by kernel_rfl) (fun _ _ dst _ _ h => by cases dst <;> exact h) ?_
    simp only [List.take_succ_cons, List.take_zero, List.drop_succ_cons, List.drop_zero]
    refine upW_val (by rfl) (by rfl) (by rfl) (fun K hK => quiet_load_row _ _ rfl M rfl 86 _ (0, 0) _ HE3.out Try.underlying86 rfl HSG.out (hK _ ?_))
    simp only [Act.put, List.setIfInBounds_toArray, List.set]
    refine upW_late (by rfl) (.agg (nums .u64 (w4 2))) (fun w => run_build2 _ _ rfl w) ?_
    simp only [Act.put, List.setIfInBounds_toArray, List.set]
    refine upW_late (by rfl) (.agg (nums .u64 (w4 G4))) (fun w => run_buildG _ _ rfl w) ?_
    simp only [Act.put, List.setIfInBounds_toArray, List.set]
    refine upW_call (by rfl) (by rfl) (.agg (nums .u64 (w4 i))) _ rfl (by simp) (fun p => ?_) ?_
    · go_big_quiet_op
      exact ⟨_, fun q => Calls.ext_of (HP2.out q.x), rfl⟩
    simp only [Act.put, List.setIfInBounds_toArray, List.set]
    refine upW_call (by rfl) (by rfl) (.agg (nums .u64 (w4 h))) _ rfl (by simp) (fun p => ?_) ?_
    · go_big_quiet_op
      exact ⟨_, fun q => Calls.ext_of (HMI.out q.x), rfl⟩
    simp only [Act.put, List.setIfInBounds_toArray, List.set]
    refine upW_nil (fun wu hbu => ?_)
    have HF1 := Lib.hid (HE1.out.ext hbu)
    have HF2 := Lib.hid (HE2.out.ext hbu)
    have HF3 := Lib.hid (HE3.out.ext hbu)
    have HFB := Lib.hid (HEB.out.trans (hbu.mono (show N ≤ _ by have := HE2.out.lt; omega)))
    have HOH := Lib.hid (show (nums .u64 (w4 g)).size = (nums .u64 (w4 h)).size by rw [size_nums, size_nums, w4_len, w4_len])
    clear hbu HE1 HE2 HE3 HEB
    go_wp2_with (refine wpList_store_row rfl 86 _ _ rfl M (nums .u64 (w4 h)) rfl rfl 86 _ HF3.out HSH.out HOH.out (nums_one _ _) (Stop.out ?_))
    generalize hWV : World.setRow _ _ _ = wv
    have HG1 := Lib.hid (show RW wv N .u64 86 (w4 a) by subst hWV; exact HF1.out.other (setRow_other _ _ _ _ (by omega)))
    have HG2 := Lib.hid (show RW wv (N + 1) .u64 86 (zer 4) by subst hWV; exact HF2.out.other (setRow_other _ _ _ _ (by omega)))
    have HG3 := Lib.hid (show RW wv M .u64 86 (w4 h) by subst hWV; exact setRow_heap _ _ _ _ _ _ HF3.out)
    have HGB := Lib.hid (show Below N w wv by subst hWV; exact Below.setRow HFB.out (by omega) _)
    clear hWV HF1 HF2 HF3 HFB
    refine ⟨?_⟩
    by_cases h2 : q2 = a
    · rw [if_pos h2] at HRT
      have HH2 := Lib.hid h2
      clear h2
      go_wp2_with fail
      refine wp_region_whole [0, 1, 2, 3, 4] [] [] (by kernel_rfl) (by kernel_rfl) (List.forall_mem_nil _) rfl ?_
      simp only [List.foldl]
      refine upW_val (by rfl) (by rfl) (by rfl) (fun K hK => quiet_load_row _ _ rfl M rfl 86 _ (0, 0) _ HG3.out Try.underlying86 rfl HSH.out (hK _ ?_))
      simp only [Act.put, List.setIfInBounds_toArray, List.set]
      refine upW_val (by rfl) (by rfl) (by rfl) (fun K hK => quiet_load_row _ _ rfl M rfl 86 _ (0, 0) _ HG3.out Try.underlying86 rfl HSH.out (hK _ ?_))
      simp only [Act.put, List.setIfInBounds_toArray, List.set]
      refine upW_call (by rfl) (by rfl) (.agg (nums .u64 (w4 q2))) _ rfl (by simp) (fun p => ?_) ?_
      · go_big_quiet_op
        exact ⟨_, fun q => Calls.ext_of (HQ2.out q.x), rfl⟩
      simp only [Act.put, List.setIfInBounds_toArray, List.set]
      refine upW_val (by rfl) (by rfl) (by rfl) (fun K hK => quiet_load_row _ _ rfl N rfl 86 _ (0, 0) _ HG1.out Try.underlying86 rfl HSA.out (hK _ ?_))
      simp only [Act.put, List.setIfInBounds_toArray, List.set]
      refine upW_late (by rfl) (.bool false) (fun w => run_neW _ _ _ _ 86 rfl Try.underlying86 q2 a rfl rfl HQL2.out HAL.out (by kernel_rfl) false (by rw [HH2.out]; simp) w) ?_
      simp only [Act.put, List.setIfInBounds_toArray, List.set]
      refine upW_nil ⟨List.forall_mem_nil _, fun M2 wi hM2 hne hby => ?_⟩
      simp only [List.foldr]
      clear hM2 hne M2
      have HI1 := Lib.hid (HG1.out.ext hby)
      have HI2 := Lib.hid (HG2.out.ext hby)
      have HI3 := Lib.hid (HG3.out.ext hby)
      have HIB := Lib.hid (HGB.out.trans (hby.mono (show N ≤ _ by have := HG2.out.lt; omega)))
      clear hby HG1 HG2 HG3 HGB
      have HOF := Lib.hid (show (nums .u64 (zer 4)).size = (nums .u64 (w4 (evn h))).size by rw [size_nums, size_nums, zer_len, w4_len])
      have HSF := Lib.hid (sR (evn h))
      have c0 := HI3.out.cell (i := 0) (by rw [w4_len]; decide)
      rw [w4_get _ 0 (by decide)] at c0
      have hbits : bits .and .u64 ((wd h 0 : Nat) : Int) 1 = ((h % 2 : Nat) : Int) := by rw [and1N (wd h 0) (show wd h 0 < 18446744073709551616 from Nat.mod_lt _ (by decide)), wd0]
      by_cases hodd : h % 2 = 1
      · have hbits1 : bits .and .u64 ((wd h 0 : Nat) : Int) 1 = 1 := by rw [hbits, hodd]; rfl
        have HEV := Lib.hid (show (0 + 57896044618658097711785492504343953926634992332820282019728792003956564819949 - h) % 57896044618658097711785492504343953926634992332820282019728792003956564819949 = evn h by unfold evn; rw [if_pos hodd])
        have HSB := Lib.hid (fun w => subR_any 0 h w (by decide) HLh.out)
        rw [HEV.out] at HSB
        have HOE := Lib.hid (show (nums .u64 (w4 h)).size = (nums .u64 (w4 (evn h))).size by rw [size_nums, size_nums, w4_len, w4_len])
        generalize wd h 0 = x0 at c0 hbits1
        obtain ⟨v, hv⟩ : ∃ v, evn h = v := ⟨_, rfl⟩
        rw [hv] at HSB HSF HOF HOE HRT
        clear hbits hodd HEV hv
        go_wp2_with (first
          | (refine wpList_build' rfl 86 _ rfl (nums .u64 (w4 0)) (by kernel_rfl) ?_)
          | (refine wpList_load_row rfl 86 _ rfl M rfl 86 (nums .u64 (w4 h)) (0, 0) _ HI3.out Try.underlying86 rfl HSH.out ?_)
          )
        refine (HSB.out _).mono ?_
        rintro e8 w8 ⟨rfl, hb8⟩
        have HX1 := Lib.hid (HI1.out.ext hb8)
        have HX2 := Lib.hid (HI2.out.ext hb8)
        have HX3 := Lib.hid (HI3.out.ext hb8)
        have HXB := Lib.hid (HIB.out.trans (hb8.mono (show N ≤ _ by have := HI2.out.lt; omega)))
        clear hb8 HI1 HI2 HI3 HIB c0
        go_wp2_with (refine wpList_store_row rfl 86 _ _ rfl M (nums .u64 (w4 v)) rfl rfl 86 _ HX3.out HSF.out HOE.out (nums_one _ _) (Stop.out ?_))
        generalize hWT : World.setRow _ _ _ = wt
        have HY2 := Lib.hid (show RW wt (N + 1) .u64 86 (zer 4) by subst hWT; exact HX2.out.other (setRow_other _ _ _ _ (by omega)))
        have HY3 := Lib.hid (show RW wt M .u64 86 (w4 v) by subst hWT; exact setRow_heap _ _ _ _ _ _ HX3.out)
        have HYB := Lib.hid (show Below N w wt by subst hWT; exact Below.setRow HXB.out (by omega) _)
        clear hWT HX1 HX2 HX3 HXB
        refine ⟨?_⟩
        go_wp2_with (first
          | (refine wpList_load_row rfl 86 _ rfl M rfl 86 (nums .u64 (w4 v)) (0, 0) _ HY3.out Try.underlying86 rfl HSF.out ?_)
          | (refine wpList_store_row rfl 86 _ _ rfl (N + 1) (nums .u64 (w4 v)) rfl rfl 86 _ HY2.out HSF.out HOF.out (nums_one _ _) ?_)
          )
        refine bodyPost_ret (results_cell_slot (p := 2) (q := 3) (by rfl) _ _ (N + 1) 86 (nums .u64 (w4 v)) (0, 0) _ (.bool true) (by rfl) (setRow_heap _ _ _ _ _ _ HY2.out) Try.underlying86 rfl HSF.out rfl) rfl ⟨by rw [HRT.out], ?_⟩
        rw [HN.out]
        exact Below.setRow HYB.out (by omega) _
      · have hbits1 : bits .and .u64 ((wd h 0 : Nat) : Int) 1 = 0 := by rw [hbits, show h % 2 = 0 by omega]; rfl
        have HEV := Lib.hid (show evn h = h by unfold evn; rw [if_neg hodd])
        rw [HEV.out] at HSF HOF HRT
        generalize wd h 0 = x0 at c0 hbits1
        clear hbits hodd HEV
        go_wp2_with (first
          | (refine wpList_load_row rfl 86 _ rfl M rfl 86 (nums .u64 (w4 h)) (0, 0) _ HI3.out Try.underlying86 rfl HSF.out ?_)
          | (refine wpList_store_row rfl 86 _ _ rfl (N + 1) (nums .u64 (w4 h)) rfl rfl 86 _ HI2.out HSF.out HOF.out (nums_one _ _) ?_)
          )
        refine bodyPost_ret (results_cell_slot (p := 2) (q := 3) (by rfl) _ _ (N + 1) 86 (nums .u64 (w4 h)) (0, 0) _ (.bool true) (by rfl) (setRow_heap _ _ _ _ _ _ HI2.out) Try.underlying86 rfl HSF.out rfl) rfl ⟨by rw [HRT.out], ?_⟩
        rw [HN.out]
        exact Below.setRow HIB.out (by omega) _
    · rw [if_neg h2] at HRT
      have HH2 := Lib.hid h2
      clear h2
      go_wp2_with fail
      refine wp_region_whole [0, 1, 2, 3, 4] [] [] (by kernel_rfl) (by kernel_rfl) (List.forall_mem_nil _) rfl ?_
      simp only [List.foldl]
      refine upW_val (by rfl) (by rfl) (by rfl) (fun K hK => quiet_load_row _ _ rfl M rfl 86 _ (0, 0) _ HG3.out Try.underlying86 rfl HSH.out (hK _ ?_))
      simp only [Act.put, List.setIfInBounds_toArray, List.set]
      refine upW_val (by rfl) (by rfl) (by rfl) (fun K hK => quiet_load_row _ _ rfl M rfl 86 _ (0, 0) _ HG3.out Try.underlying86 rfl HSH.out (hK _ ?_))
      simp only [Act.put, List.setIfInBounds_toArray, List.set]
      refine upW_call (by rfl) (by rfl) (.agg (nums .u64 (w4 q2))) _ rfl (by simp) (fun p => ?_) ?_
      · go_big_quiet_op
        exact ⟨_, fun q => Calls.ext_of (HQ2.out q.x), rfl⟩
      simp only [Act.put, List.setIfInBounds_toArray, List.set]
      refine upW_val (by rfl) (by rfl) (by rfl) (fun K hK => quiet_load_row _ _ rfl N rfl 86 _ (0, 0) _ HG1.out Try.underlying86 rfl HSA.out (hK _ ?_))
      simp only [Act.put, List.setIfInBounds_toArray, List.set]
      refine upW_late (by rfl) (.bool true) (fun w => run_neW _ _ _ _ 86 rfl Try.underlying86 q2 a rfl rfl HQL2.out HAL.out (by kernel_rfl) true (by simp [HH2.out]) w) ?_
      simp only [Act.put, List.setIfInBounds_toArray, List.set]
      refine upW_nil ⟨List.forall_mem_nil _, fun M2 wi hM2 hne hby => ?_⟩
      simp only [List.foldr]
      clear hM2 hne M2
      have HI1 := Lib.hid (HG1.out.ext hby)
      have HI2 := Lib.hid (HG2.out.ext hby)
      have HI3 := Lib.hid (HG3.out.ext hby)
      have HIB := Lib.hid (HGB.out.trans (hby.mono (show N ≤ _ by have := HG2.out.lt; omega)))
      clear hby HG1 HG2 HG3 HGB
      have HO := Lib.hid (show (nums .u64 (zer 4)).size = (nums .u64 (w4 0)).size by rw [size_nums, size_nums, zer_len, w4_len])
      go_wp2_with (first
        | (refine wpList_build' rfl 86 _ rfl (nums .u64 (w4 0)) (by kernel_rfl) ?_)
        | (refine wpList_store_row rfl 86 _ _ rfl (N + 1) (nums .u64 (w4 0)) rfl rfl 86 _ HI2.out HS0.out HO.out (nums_one _ _) ?_)
        )
      refine bodyPost_ret (results_cell_slot (p := 2) (q := 3) (by rfl) _ _ (N + 1) 86 (nums .u64 (w4 0)) (0, 0) _ (.bool false) (by rfl) (setRow_heap _ _ _ _ _ _ HI2.out) Try.underlying86 rfl HS0.out rfl) rfl ⟨by rw [HRT.out], ?_⟩
      rw [HN.out]
      exact Below.setRow HIB.out (by omega) _
end Go.Proofs.Ytfmclkmmkceldaa
