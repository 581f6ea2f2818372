/-
  Package sign: clamp, timesBase, digest.
  Package sign: keyOf, signer, Public.
  The library's slices.Grow on a nil slice of bytes, slices.Concat of slices of bytes; the statements' seed of 32 bytes.
  Conditions: none.
-/
import Derived.Test.YtlpchgoaoglhcaaDoorMb12
import Derived.Test.YtlpchgoaoglhcaaDoorMb14
import Derived.Lib.AppendZerosOnto
import Derived.Lib.Walk
import Derived.Laws.AppendOwnNone
import Derived.Deep.RegionHeld3
namespace Go.Proofs.YtlpchgoaoglhcaaDoor
open Go.RowKit
set_option linter.unusedSimpArgs false
set_option linter.unusedVariables false
/-- What scalar.Of says of bytes. -/
def oOf (l : List UInt8) : Nat := le l % 13407807929942597099574024998205846127479365820592393377723561443721764030073546976801874298166903427690031858186486050853753882811946569946433649006084096 % 7237005577332262213973186563042994240857116359379907606001950938285454250989
theorem oOf_lt (l : List UInt8) : oOf l < 115792089237316195423570985008687907853269984665640564039457584007913129639936 := Nat.lt_trans (Nat.mod_lt _ (by decide)) (by decide)
theorem oMul_lt' (a b c : Nat) : oMul a b c < 115792089237316195423570985008687907853269984665640564039457584007913129639936 := Nat.lt_trans (Nat.mod_lt _ (by decide)) (by decide)
theorem le_lt32 {l : List UInt8} (h : l.length = 32) : le l < 115792089237316195423570985008687907853269984665640564039457584007913129639936 := by
  have := le_lt l
  rw [h] at this
  exact Nat.lt_of_lt_of_le this (by decide)
theorem bys_of64 {w : World} {b : Nat} {t : TypeId} {l : List UInt8} (h : CT w b t (RB l)) (hl : l.length = 64) : Bys w (.slice (some ⟨b, 0, none⟩) 64 64) l := by
  have := bys_box (show BT w b t l from h) (by omega)
  rwa [hl] at this
/-- What digest says of bytes. -/
def dgL (m : List UInt8) : List UInt8 := b32 (oOf (sum512 m))
theorem dgL_len (m : List UInt8) : (dgL m).length = 32 := b32_len _
theorem le_dgL (m : List UInt8) : le (dgL m) = oOf (sum512 m) := le_b32 _ (oOf_lt _)
def clampL (l : List UInt8) : List UInt8 := (l.set 0 (l.getD 0 0 &&& 248)).set 31 ((l.getD 31 0 &&& 127) ||| 64)
theorem clampL_len {l : List UInt8} (h : l.length = 32) : (clampL l).length = 32 := by simp [clampL, h]
theorem sum512_len' (l : List UInt8) : (sum512 l).length = 64 := by show (dig512 _).length = _; rw [dig512_eq]; simp
theorem Times_rb (l : List UInt8) (hl : l.length = 32) (p : Pt) (w : World) : Calls Tryd.prog 44 #[.agg (RB l), .agg (PB (pN p))] w fun e w' => e = .returned (.tuple #[.agg (PB (pN (ptimes (le l) p))), .bool true]) ∧ Below w.heap.size w w' := by
  have := Times_ok (le l) (le_lt32 hl) p w
  rwa [PB_le hl] at this
theorem bits8 {f : UInt8 → UInt8} {g : Int → Int} (h : ∀ a : Fin 256, g (a.val : Int) = ((f (UInt8.ofNat a.val)).toNat : Int)) (x : UInt8) : g (x.toNat : Int) = ((f x).toNat : Int) := by
  have := h ⟨x.toNat, x.toNat_lt⟩
  simpa using this
theorem and248 (x : UInt8) : bits .and .u8 (x.toNat : Int) 248 = ((x &&& 248).toNat : Int) := bits8 (f := fun x => x &&& 248) (g := fun n => bits .and .u8 n 248) (by decide +kernel) x
theorem and127' (x : UInt8) : bits .and .u8 (x.toNat : Int) 127 = ((x &&& 127).toNat : Int) := bits8 (f := fun x => x &&& 127) (g := fun n => bits .and .u8 n 127) (by decide +kernel) x
theorem or64 (x : UInt8) : bits .or .u8 (x.toNat : Int) 64 = ((x ||| 64).toNat : Int) := bits8 (f := fun x => x ||| 64) (g := fun n => bits .or .u8 n 64) (by decide +kernel) x
theorem Bss.mono {B B' : Nat} {w : World} {v : Value} {ll : List (List UInt8)} (h : Bss B w v ll) (hB : B ≤ B') : Bss B' w v ll := by
  obtain ⟨ao, cap, rfl, h | ⟨g, off, rfl, hg, h⟩⟩ := h
  · exact ⟨ao, cap, rfl, .inl h⟩
  · refine ⟨_, cap, rfl, .inr ⟨g, off, rfl, by omega, fun i hi => ?_⟩⟩
    obtain ⟨u, h1, h2⟩ := h i hi
    exact ⟨u, h1, h2.mono hB⟩
theorem RB_get {l : List UInt8} {i : Nat} (h : i < l.length) : (RB l)[i]? = some (.int .u8 ((l.getD i 0).toNat : Int)) := by
  simp [RB, byteVals, List.getD_eq_getElem?_getD, List.getElem?_eq_getElem h]
theorem RB_set (l : List UInt8) (i : Nat) (x : UInt8) : (RB l).setIfInBounds i (.int .u8 (x.toNat : Int)) = RB (l.set i x) := by
  apply Array.ext'
  simp [RB, byteVals, List.map_set]
set_option maxRecDepth 100000 in
set_option maxHeartbeats 1000000 in
theorem clamp_any (l : List UInt8) (hl : l.length = 32) (w : World) :
    Calls Tryd.prog 39 #[.agg (RB l)] w fun e w' => e = .returned (.agg (RB (clampL l))) ∧ Below w.heap.size w w' := by
  have HL := Lib.hid hl
  have HL1 := Lib.hid (show (l.set 0 (l.getD 0 0 &&& 248)).length = 32 by rw [List.length_set]; exact hl)
  have HL2 := Lib.hid (clampL_len hl)
  have H0 := Lib.hid (RB_get (l := l) (i := 0) (by omega))
  have H31 := Lib.hid (show (RB (l.set 0 (l.getD 0 0 &&& 248)))[31]? = some (.int .u8 ((l.getD 31 0).toNat : Int)) by
    rw [RB_get (by rw [List.length_set]; omega)]
    simp [List.getD_eq_getElem?_getD])
  clear hl
  have hz0 := zSc
  go_enter Tryd.func39, Tryd.ntmps39
  go_upto_region 1 with fail
  generalize hW1 : World.alloc _ _ = W1
  obtain ⟨N, hN⟩ : ∃ n, w.heap.size = n := ⟨_, rfl⟩
  have HX0 := Lib.hid (show CT W1 N 67 (RB l) by subst hW1; rw [← hN]; exact (allocs2_at w _ _).1)
  have HX1 := Lib.hid (show CT W1 (N + 1) 67 (PB 0) by subst hW1; rw [← hN]; exact (allocs2_at w _ _).2)
  have HB := Lib.hid (show Below N w W1 by subst hW1; rw [← hN]; exact allocs2_below w _ _)
  have HN := Lib.hid hN
  rw [hN]
  clear hW1 hN
  refine wp_region_seq 4 ?_
  simp only [List.take_succ_cons, List.take_zero, List.drop_succ_cons, List.drop_zero]
  refine upW_late (by rfl) (.pointer (some ⟨N, 0, none⟩)) (fun _ => by kernel_rfl) ?_
  simp only [Act.put, List.setIfInBounds_toArray, List.set]
  refine upW_val (by rfl) (by rfl) (by rfl) (fun K hK => quiet_load_byte _ rfl N 0 rfl 67 (RB l) HX0.out (.int .u8 ((l.getD 0 0).toNat : Int)) H0.out (hK _ ?_))
  simp only [Act.put, List.setIfInBounds_toArray, List.set]
  refine upW_late (by rfl) (.int .u8 ((l.getD 0 0 &&& 248).toNat : Int)) (fun w => run_and8 _ _ _ _ _ rfl ((l.getD 0 0).toNat : Int) 248 rfl rfl ((l.getD 0 0 &&& 248).toNat : Int) (and248 (l.getD 0 0)) w) ?_
  simp only [Act.put, List.setIfInBounds_toArray, List.set]
  refine upW_late (by rfl) (.pointer (some ⟨N, 0, none⟩)) (fun _ => by kernel_rfl) ?_
  simp only [Act.put, List.setIfInBounds_toArray, List.set]
  refine upW_nil (fun wr1 hbr1 => ?_)
  replace HX0 := Lib.hid (HX0.out.ext hbr1)
  replace HX1 := Lib.hid (HX1.out.ext hbr1)
  replace HB := Lib.hid (HB.out.trans (hbr1.mono (show N ≤ _ by have := HB.out.size; have := HN.out; omega)))
  clear hbr1
  refine wpList_store_byte rfl _ _ rfl N 0 rfl ((l.getD 0 0 &&& 248).toNat : Int) rfl 67 (RB l) (RB (l.set 0 (l.getD 0 0 &&& 248))) HX0.out (by rw [(RB_rw HL.out).size]; decide) (RB_set l 0 _) rfl (fun wr2 hSwr2 hOwr2 hWwr2 => ?_)
  replace HX0 := Lib.hid hSwr2
  replace HB := Lib.hid (hWwr2 _ _ HB.out (by omega))
  replace HX1 := Lib.hid (HX1.out.other (hOwr2 _ (by omega)))
  clear hSwr2 hOwr2 hWwr2
  go_upto_region 2 with fail
  refine wp_region_seq 5 ?_
  simp only [List.take_succ_cons, List.take_zero, List.drop_succ_cons, List.drop_zero]
  refine upW_late (by rfl) (.pointer (some ⟨N, 31, none⟩)) (fun _ => by kernel_rfl) ?_
  simp only [Act.put, List.setIfInBounds_toArray, List.set]
  refine upW_val (by rfl) (by rfl) (by rfl) (fun K hK => quiet_load_byte _ rfl N 31 rfl 67 (RB (l.set 0 (l.getD 0 0 &&& 248))) HX0.out (.int .u8 ((l.getD 31 0).toNat : Int)) H31.out (hK _ ?_))
  simp only [Act.put, List.setIfInBounds_toArray, List.set]
  refine upW_late (by rfl) (.int .u8 ((l.getD 31 0 &&& 127).toNat : Int)) (fun w => run_and8 _ _ _ _ _ rfl ((l.getD 31 0).toNat : Int) 127 rfl rfl ((l.getD 31 0 &&& 127).toNat : Int) (and127' (l.getD 31 0)) w) ?_
  simp only [Act.put, List.setIfInBounds_toArray, List.set]
  refine upW_late (by rfl) (.int .u8 (((l.getD 31 0 &&& 127) ||| 64).toNat : Int)) (fun w => run_or8 _ _ _ _ _ rfl ((l.getD 31 0 &&& 127).toNat : Int) 64 rfl rfl (((l.getD 31 0 &&& 127) ||| 64).toNat : Int) (or64 (l.getD 31 0 &&& 127)) w) ?_
  simp only [Act.put, List.setIfInBounds_toArray, List.set]
  refine upW_late (by rfl) (.pointer (some ⟨N, 31, none⟩)) (fun _ => by kernel_rfl) ?_
  simp only [Act.put, List.setIfInBounds_toArray, List.set]
  refine upW_nil (fun wr3 hbr3 => ?_)
  replace HX0 := Lib.hid (HX0.out.ext hbr3)
  replace HX1 := Lib.hid (HX1.out.ext hbr3)
  replace HB := Lib.hid (HB.out.trans (hbr3.mono (show N ≤ _ by have := HB.out.size; have := HN.out; omega)))
  clear hbr3
  refine wpList_store_byte rfl _ _ rfl N 31 rfl (((l.getD 31 0 &&& 127) ||| 64).toNat : Int) rfl 67 (RB (l.set 0 (l.getD 0 0 &&& 248))) (RB (clampL l)) HX0.out (by rw [(RB_rw HL1.out).size]; decide) (RB_set (l.set 0 (l.getD 0 0 &&& 248)) 31 _) rfl (fun wr4 hSwr4 hOwr4 hWwr4 => ?_)
  replace HX0 := Lib.hid hSwr4
  replace HB := Lib.hid (hWwr4 _ _ HB.out (by omega))
  replace HX1 := Lib.hid (HX1.out.other (hOwr4 _ (by omega)))
  clear hSwr4 hOwr4 hWwr4
  go_upto_region 3 with fail
  refine wp_region_seq 1 ?_
  simp only [List.take_succ_cons, List.take_zero, List.drop_succ_cons, List.drop_zero]
  refine upW_val (by rfl) (by rfl) (by rfl) (fun K hK => quiet_load_ct _ _ rfl N rfl 67 (RB (clampL l)) 32 (RB_rw HL2.out) _ HX0.out Tryd.underlying67 rfl (by kernel_rfl) (hK _ ?_))
  simp only [Act.put, List.setIfInBounds_toArray, List.set]
  refine upW_nil (fun wr5 hbr5 => ?_)
  replace HX0 := Lib.hid (HX0.out.ext hbr5)
  replace HX1 := Lib.hid (HX1.out.ext hbr5)
  replace HB := Lib.hid (HB.out.trans (hbr5.mono (show N ≤ _ by have := HB.out.size; have := HN.out; omega)))
  clear hbr5
  refine wpList_store_ct rfl 67 _ _ rfl (N + 1) (RB (clampL l)) rfl rfl 67 (PB 0) 32 HX1.out (by kernel_rfl) (PB_rw 0) (RB_rw HL2.out) rfl (fun wr6 hSwr6 hOwr6 hWwr6 => ?_)
  replace HX1 := Lib.hid hSwr6
  replace HB := Lib.hid (hWwr6 _ _ HB.out (by omega))
  replace HX0 := Lib.hid (HX0.out.other (hOwr6 _ (by omega)))
  clear hSwr6 hOwr6 hWwr6
  go_wp2
  refine bodyPost_ret (results_ct (by rfl) _ _ (N + 1) 67 (RB (clampL l)) 32 _ (by rfl) HX1.out (RB_rw HL2.out) Tryd.underlying67 rfl (by kernel_rfl)) rfl ⟨by first | rfl | (rfl), by rw [HN.out]; exact HB.out⟩
set_option maxRecDepth 100000 in
set_option maxHeartbeats 1000000 in
theorem timesBase_any (l : List UInt8) (hl : l.length = 32) (w : World) :
    Calls Tryd.prog 40 #[.agg (RB l)] w fun e w' => e = .returned (.agg (PB (pN (ptimes (le l) cB)))) ∧ Below w.heap.size w w' := by
  have HL := Lib.hid hl
  clear hl
  have hz0 := zSc
  have hz1 := zPt
  go_enter Tryd.func40, Tryd.ntmps40
  go_upto_region 1 with fail
  generalize hW1 : World.alloc _ _ = W1
  obtain ⟨N, hN⟩ : ∃ n, w.heap.size = n := ⟨_, rfl⟩
  have HX0 := Lib.hid (show CT W1 N 67 (RB l) by subst hW1; rw [← hN]; exact (allocs2_at w _ _).1)
  have HX1 := Lib.hid (show CT W1 (N + 1) 68 (PB 0) by subst hW1; rw [← hN]; exact (allocs2_at w _ _).2)
  have HB := Lib.hid (show Below N w W1 by subst hW1; rw [← hN]; exact allocs2_below w _ _)
  have HN := Lib.hid hN
  rw [hN]
  clear hW1 hN
  refine wp_region_whole [0, 1, 2, 3, 4, 5, 8] [⟨6, _, 68, (PB 0), 3, 7, _, 68, 9, (PB (pN (ptimes (le l) cB)))⟩] [7, 6] (by kernel_rfl) (by kernel_rfl) (List.forall_mem_cons.2 ⟨⟨⟨rfl, rfl, rfl, fun a w => alloc_run _ _ zPt a _ rfl w⟩, rfl, rfl, rfl, rfl, (PB_rw (pN (ptimes (le l) cB))).info (by kernel_rfl), (PB_rw 0).same (PB_rw (pN (ptimes (le l) cB))), (PB_rw (pN (ptimes (le l) cB))).one⟩, (List.forall_mem_nil _)⟩) rfl ?_
  simp only [List.foldl, List.eraseIdx_cons_succ, List.eraseIdx_cons_zero]
  refine upW_val (by rfl) (by rfl) (by rfl) (fun K hK => quiet_load_ct _ _ rfl N rfl 67 (RB l) 32 (RB_rw HL.out) _ HX0.out Tryd.underlying67 rfl (by kernel_rfl) (hK _ ?_))
  simp only [Act.put, List.setIfInBounds_toArray, List.set]
  refine upW_call (by rfl) (by rfl) (.agg (PB (pN cB))) _ rfl (by simp) (fun p => ?_) ?_
  · go_big_quiet_op
    exact ⟨_, fun q => Calls.ext_of (Base_pt q.x), rfl⟩
  simp only [Act.put, List.setIfInBounds_toArray, List.set]
  refine upW_call (by rfl) (by rfl) (.tuple #[.agg (PB (pN (ptimes (le l) cB))), .bool true]) _ rfl (by simp) (fun p => ?_) ?_
  · go_big_quiet_op
    exact ⟨_, fun q => Calls.ext_of ((fun w => Times_rb l HL.out cB w) q.x), rfl⟩
  simp only [Act.put, List.setIfInBounds_toArray, List.set]
  refine upW_val (by rfl) (by rfl) (by rfl) ?_
  intro K hK
  go_big_quiet_op
  refine hK _ ?_
  refine upW_late (by rfl) (.agg (PB (pN (ptimes (le l) cB)))) (fun _ => rfl) ?_
  simp only [Act.put, List.setIfInBounds_toArray, List.set]
  refine upW_late (by rfl) (.bool true) (fun _ => rfl) ?_
  simp only [Act.put, List.setIfInBounds_toArray, List.set]
  refine upW_val (by rfl) (by rfl) (by rfl) ?_
  intro K hK
  go_big_quiet_op
  refine hK _ ?_
  refine upW_nil ⟨(List.forall_mem_cons.2 ⟨rfl, (List.forall_mem_nil _)⟩), fun M wr1 hM hne hbr1 => ?_⟩
  have hm0 := hM _ (List.mem_cons_self ..)
  clear hM hne
  simp only [List.foldr, pS, Act.put, List.setIfInBounds_toArray, List.set]
  obtain ⟨B1x0, hB1x0⟩ : ∃ m, M 6 = m := ⟨_, rfl⟩
  have HB1x0 := Lib.hid (show CT wr1 B1x0 68 (PB (pN (ptimes (le l) cB))) by rw [← hB1x0]; exact hm0.2)
  have hlB1x0X0 : N < B1x0 := by rw [← hB1x0]; exact Nat.lt_of_lt_of_le HX0.out.lt hm0.1
  have hlB1x0X1 : (N + 1) < B1x0 := by rw [← hB1x0]; exact Nat.lt_of_lt_of_le HX1.out.lt hm0.1
  have hNB1x0 : N ≤ B1x0 := by rw [← hB1x0]; exact Nat.le_trans (by have := HB.out.size; have := HN.out; omega) hm0.1
  rw [hB1x0]
  clear hm0 hB1x0
  replace HX0 := Lib.hid (HX0.out.ext hbr1)
  replace HX1 := Lib.hid (HX1.out.ext hbr1)
  replace HB := Lib.hid (HB.out.trans (hbr1.mono (show N ≤ _ by have := HB.out.size; have := HN.out; omega)))
  clear hbr1
  go_upto_region 2 with fail
  refine wp_region_seq 1 ?_
  simp only [List.take_succ_cons, List.take_zero, List.drop_succ_cons, List.drop_zero]
  refine upW_val (by rfl) (by rfl) (by rfl) (fun K hK => quiet_load_ct _ _ rfl B1x0 rfl 68 (PB (pN (ptimes (le l) cB))) 32 (PB_rw (pN (ptimes (le l) cB))) _ HB1x0.out Tryd.underlying68 rfl (by kernel_rfl) (hK _ ?_))
  simp only [Act.put, List.setIfInBounds_toArray, List.set]
  refine upW_nil (fun wr2 hbr2 => ?_)
  replace HX0 := Lib.hid (HX0.out.ext hbr2)
  replace HX1 := Lib.hid (HX1.out.ext hbr2)
  replace HB1x0 := Lib.hid (HB1x0.out.ext hbr2)
  replace HB := Lib.hid (HB.out.trans (hbr2.mono (show N ≤ _ by have := HB.out.size; have := HN.out; omega)))
  clear hbr2
  refine wpList_store_ct rfl 68 _ _ rfl (N + 1) (PB (pN (ptimes (le l) cB))) rfl rfl 68 (PB 0) 32 HX1.out (by kernel_rfl) (PB_rw 0) (PB_rw (pN (ptimes (le l) cB))) rfl (fun wr3 hSwr3 hOwr3 hWwr3 => ?_)
  replace HX1 := Lib.hid hSwr3
  replace HB := Lib.hid (hWwr3 _ _ HB.out (by omega))
  replace HX0 := Lib.hid (HX0.out.other (hOwr3 _ (by omega)))
  replace HB1x0 := Lib.hid (HB1x0.out.other (hOwr3 _ (by omega)))
  clear hSwr3 hOwr3 hWwr3
  go_wp2
  refine bodyPost_ret (results_ct (by rfl) _ _ (N + 1) 68 (PB (pN (ptimes (le l) cB))) 32 _ (by rfl) HX1.out (PB_rw (pN (ptimes (le l) cB))) Tryd.underlying68 rfl (by kernel_rfl)) rfl ⟨by first | rfl | (rfl), by rw [HN.out]; exact HB.out⟩
set_option maxRecDepth 100000 in
set_option maxHeartbeats 1000000 in
theorem digest_any (v : Value) (ll : List (List UInt8)) (w : World) (hv : Bss w.heap.size w v ll) (hn : (flat ll).length ≤ 1000000) (hn2 : ll.length ≤ 1000000) (hG : Gl w) :
    Calls Tryd.prog 35 #[v] w fun e w' => e = .returned (.agg (RB (dgL (flat ll)))) ∧ Below w.heap.size w w' := by
  have HV := Lib.hid hv
  have HG := Lib.hid hG
  clear hv hG
  have hz0 := zSc
  have hz1 := zd512
  go_enter Tryd.func35, Tryd.ntmps35
  go_upto_region 1 with fail
  generalize hW1 : World.alloc _ _ = W1
  obtain ⟨N, hN⟩ : ∃ n, w.heap.size = n := ⟨_, rfl⟩
  have HX0 := Lib.hid (show CT W1 N 67 (PB 0) by subst hW1; rw [← hN]; exact (allocs1_at w _))
  have HB := Lib.hid (show Below N w W1 by subst hW1; rw [← hN]; exact allocs1_below w _)
  have HN := Lib.hid hN
  rw [hN]
  clear hW1 hN
  have HV1 := Lib.hid (show Bss W1.heap.size W1 v ll from (HV.out.keep (fun k hk => HB.out.block k (by rw [← HN.out]; exact hk))).mono (by have := HB.out.size; have := HN.out; omega))
  have HG1 := Lib.hid (HG.out.below (by rw [HN.out]; exact HB.out))
  go_wp2_with fail
  refine (sum512_any v ll W1 HV1.out hn hn2 HG1.out).mono ?_
  rintro e w2 ⟨rfl, hb2⟩
  have HD := Lib.hid (show b32 (oOf (sum512 (flat ll))) = dgL (flat ll) from rfl)
  have HSL := Lib.hid (sum512_len' (flat ll))
  generalize hS : sum512 (flat ll) = S at HD HSL ⊢
  clear hS
  replace HX0 := Lib.hid (HX0.out.ext hb2)
  replace HB := Lib.hid (HB.out.trans (hb2.mono (show N ≤ _ by have := HB.out.size; have := HN.out; omega)))
  clear hb2
  go_upto_region 2 with (refine wpList_new1 rfl 26 rfl (RB (zerB 64)) zd512 rfl _ _ rfl rfl (RB S) 64 (rw_bytes HSL.out) (rw_bytes (zerB_len 64)).size (by kernel_rfl) rfl rfl (fun B1 w3 hB1 hb3 hC1 => ?_))
  have HB1 := Lib.hid hC1
  have hlB1X0 : N < B1 := by rw [← hB1]; exact HX0.out.lt
  have hNB1 : N ≤ B1 := by omega
  clear hB1 hC1
  replace HX0 := Lib.hid (HX0.out.ext hb3)
  replace HB := Lib.hid (HB.out.trans (hb3.mono (show N ≤ _ by have := HB.out.size; have := HN.out; omega)))
  clear hb3
  refine wp_region_seq 2 ?_
  simp only [List.take_succ_cons, List.take_zero, List.drop_succ_cons, List.drop_zero]
  refine upW_late (by rfl) (.slice (some ⟨B1, 0, none⟩) 64 64) (fun _ => by kernel_rfl) ?_
  simp only [Act.put, List.setIfInBounds_toArray, List.set]
  refine upW_call (by rfl) (by rfl) (.agg (RB (dgL (flat ll)))) _ rfl (by simp) (fun p => ?_) ?_
  · go_big_quiet_op
    exact ⟨_, fun q => Calls.ext_of (HD.out ▸ Of_sc _ S q.x (bys_of64 (HB1.out.ext (p.h.trans (q.h.mono p.h.size))) HSL.out)), rfl⟩
  simp only [Act.put, List.setIfInBounds_toArray, List.set]
  refine upW_nil (fun wr1 hbr1 => ?_)
  replace HX0 := Lib.hid (HX0.out.ext hbr1)
  replace HB1 := Lib.hid (HB1.out.ext hbr1)
  replace HB := Lib.hid (HB.out.trans (hbr1.mono (show N ≤ _ by have := HB.out.size; have := HN.out; omega)))
  clear hbr1
  refine wpList_store_ct rfl 67 _ _ rfl N (RB (dgL (flat ll))) rfl rfl 67 (PB 0) 32 HX0.out (by kernel_rfl) (PB_rw 0) (RB_rw (dgL_len _)) rfl (fun wr2 hSwr2 hOwr2 hWwr2 => ?_)
  replace HX0 := Lib.hid hSwr2
  replace HB := Lib.hid (hWwr2 _ _ HB.out (by omega))
  replace HB1 := Lib.hid (HB1.out.other (hOwr2 _ (by omega)))
  clear hSwr2 hOwr2 hWwr2
  go_wp2
  refine bodyPost_ret (results_ct (by rfl) _ _ N 67 (RB (dgL (flat ll))) 32 _ (by rfl) HX0.out (RB_rw (dgL_len _)) Tryd.underlying67 rfl (by kernel_rfl)) rfl ⟨by first | rfl | (rfl), by rw [HN.out]; exact HB.out⟩
end Go.Proofs.YtlpchgoaoglhcaaDoor
namespace Go.Proofs.YtlpchgoaoglhcaaDoor
open Go.RowKit
set_option linter.unusedSimpArgs false
set_option linter.unusedVariables false
/-- What a seed makes: the number, the bytes for r, the public key. -/
def seedS (s : List UInt8) : List UInt8 := clampL ((sum512 s).take 32)
def seedX (s : List UInt8) : List UInt8 := (sum512 s).drop 32
theorem seedS_len (s : List UInt8) : (seedS s).length = 32 := clampL_len (by rw [List.length_take, sum512_len']; rfl)
theorem seedX_len (s : List UInt8) : (seedX s).length = 32 := by show ((sum512 s).drop 32).length = 32; rw [List.length_drop, sum512_len']
noncomputable def pubP (s : List UInt8) : Pt := ptimes (le (seedS s)) cB
noncomputable def pubL (s : List UInt8) : List UInt8 := b32 (pN (pubP s))
theorem pubL_len (s : List UInt8) : (pubL s).length = 32 := b32_len _
noncomputable def keyL (s : List UInt8) : List UInt8 := seedS s ++ (seedX s ++ pubL s)
theorem keyL_len (s : List UInt8) : (keyL s).length = 96 := by simp [keyL, seedS_len, seedX_len, pubL_len]
theorem zKey (w : World) : (zeroValue 70).run Tryd.prog w = .ok (.agg (RB (zerB 96))) w :=
  (zero_of_info (P := Tryd.prog) (t := 70) (v := .agg (RB (zerB 96))) (n := 96) (by kernel_rfl)).1 w
theorem key_rw {s p a : List UInt8} (hs : s.length = 32) (hp : p.length = 32) (ha : a.length = 32) : Rw (RB (s ++ (p ++ a))) 96 := rw_bytes (by simp [hs, hp, ha])
theorem dig_rw {a b : List UInt8} (ha : a.length = 32) (hb : b.length = 32) : Rw (RB (a ++ b)) 64 := rw_bytes (by simp [ha, hb])
theorem key_0 (s p a : List UInt8) : ∀ (j : Nat) (v : Value), (RB s)[j]? = some v → (RB (s ++ (p ++ a)))[0 + j]? = some v := bytes_part [] _ _ 0 rfl
theorem dig_0 (a b : List UInt8) : ∀ (j : Nat) (v : Value), (RB a)[j]? = some v → (RB (a ++ b))[0 + j]? = some v := bytes_part [] _ _ 0 rfl
theorem dig_1 (a b : List UInt8) (ha : a.length = 32) : ∀ (j : Nat) (v : Value), (RB b)[j]? = some v → (RB (a ++ b))[32 + j]? = some v := by
  have := bytes_part a b [] 32 ha
  rwa [List.append_nil] at this
theorem built_K (parts : List (Nat × Value)) : Tryd.prog.built 70 parts = Instr.fill (fun i => #[(0, 32), (32, 32), (64, 32)][i]?) (RB (zerB 96)) parts := by kernel_rfl
theorem flat3 (x y z : List UInt8) : ([Value.agg (byteVals x).toArray, .agg (byteVals y).toArray, .agg (byteVals z).toArray].flatMap fun v => v.cells.toList).toArray = (byteVals (x ++ (y ++ z))).toArray := by
  simp [Value.cells, byteVals]
theorem made_K (s : List UInt8) (hs : s.length = 32) (p : List UInt8) (hp : p.length = 32) (a : List UInt8) (ha : a.length = 32) : Tryd.prog.built 70 [(0, .agg (RB s)), (1, .agg (RB p)), (2, .agg (RB a))] = some (RB (s ++ (p ++ a))) := by
  rw [built_K, fill_congr _ (fun i => some (i * 32, 32)) _ _ (by
    intro x hx
    simp only [List.mem_cons, List.not_mem_nil, or_false] at hx
    rcases hx with rfl | rfl | rfl <;> rfl)]
  have h := Go.Great.fill_whole (s := 32) (by decide) [.agg (RB s), .agg (RB p), .agg (RB a)] (RB (zerB 96)) (by
    intro v hv
    simp only [List.mem_cons, List.not_mem_nil, or_false] at hv
    rcases hv with rfl | rfl | rfl
    · exact (RB_rw hs).size
    · exact (RB_rw hp).size
    · exact (RB_rw ha).size) (rw_bytes (zerB_len 96)).size.symm
  exact h.trans (congrArg some (flat3 _ _ _))
theorem run_made_K (o : Oper) (ax : Act) (x0 x1 x2 : Operand) (ho : o.op = .build 70 #[(0, x0), (1, x1), (2, x2)]) (s : List UInt8) (hs : s.length = 32) (p : List UInt8) (hp : p.length = 32) (a : List UInt8) (ha : a.length = 32) (h0 : ax.eval x0 = .agg (RB s)) (h1 : ax.eval x1 = .agg (RB p)) (h2 : ax.eval x2 = .agg (RB a)) (w : World) :
    (execOp ax.eval o).run Tryd.prog w = .ok (.value (.agg (RB (s ++ (p ++ a))))) w :=
  run_built o ax _ _ ho _ (by
    simp only [List.map_toArray, List.map_cons, List.map_nil, h0, h1, h2]
    exact made_K s hs p hp a ha) w
/-- A row of slices of bytes, made anew. -/
theorem bss_new {w : World} (us : Array Value) (ll : List (List UInt8)) (h : ∀ i (h : i < ll.length), ∃ u, us[i]? = some u ∧ Bys w u ll[i]) (n : Nat) (hn : n = ll.length) : Bss (w.alloc (.cells us 22)).heap.size (w.alloc (.cells us 22)) (.slice (some ⟨w.heap.size, 0, none⟩) n n) ll := by
  subst hn
  refine ⟨_, _, rfl, .inr ⟨w.heap.size, 0, rfl, by simp, fun i hi => ?_⟩⟩
  obtain ⟨u, h1, h2⟩ := h i hi
  refine ⟨u, ?_, (h2.b (B := w.heap.size) (Nat.le_refl _) |>.keep (fun k hk => Go.heap_alloc_old _ _ hk)).mono (by simp)⟩
  rw [cell_of_row _ _ _ _ _ _ (Go.heap_alloc_new _ _), Nat.zero_add]
  exact h1
theorem bss1 {w : World} {u : Value} {l : List UInt8} (h : Bys w u l) : Bss (w.alloc (.cells #[u] 22)).heap.size (w.alloc (.cells #[u] 22)) (.slice (some ⟨w.heap.size, 0, none⟩) 1 1) [l] :=
  bss_new _ _ (fun i hi => by
    have h0 : i = 0 := by simp at hi; omega
    subst h0
    exact ⟨u, rfl, h⟩) 1 rfl
theorem bss2 {w : World} {u u' : Value} {l l' : List UInt8} (h : Bys w u l) (h' : Bys w u' l') : Bss (w.alloc (.cells #[u, u'] 22)).heap.size (w.alloc (.cells #[u, u'] 22)) (.slice (some ⟨w.heap.size, 0, none⟩) 2 2) [l, l'] :=
  bss_new _ _ (fun i hi => by
    have h0 : i = 0 ∨ i = 1 := by simp at hi; omega
    rcases h0 with rfl | rfl
    · exact ⟨u, rfl, h⟩
    · exact ⟨u', rfl, h'⟩) 2 rfl
theorem Bys.slice {w : World} {v : Value} {l : List UInt8} (h : Bys w v l) : ∃ ao cap, v = .slice ao l.length cap := by
  obtain ⟨ao, cap, rfl, _⟩ := h
  exact ⟨ao, cap, rfl⟩
set_option maxRecDepth 100000 in
set_option maxHeartbeats 1000000 in
theorem keyOf_ok (v : Value) (s : List UInt8) (w : World) (hv : Bys w v s) (hl : s.length = 32) (hG : Gl w) :
    Calls Tryd.prog 31 #[v] w fun e w' => e = .returned (.tuple #[.agg (RB (keyL s)), .bool true]) ∧ Below w.heap.size w w' := by
  obtain ⟨ao, cap, rfl⟩ := hv.slice
  rw [hl] at hv ⊢
  have HV := Lib.hid hv
  have HG := Lib.hid hG
  clear hv hG
  have hz0 := zKey
  have hz1 := zd512
  go_enter Tryd.func31, Tryd.ntmps31
  go_upto_region 1 with fail
  generalize hW1 : World.alloc _ _ = W1
  obtain ⟨N, hN⟩ : ∃ n, w.heap.size = n := ⟨_, rfl⟩
  have HX0 := Lib.hid (show CT W1 N 70 (RB (zerB 96)) by subst hW1; rw [← hN]; exact (allocs1_at w _))
  have HB := Lib.hid (show Below N w W1 by subst hW1; rw [← hN]; exact allocs1_below w _)
  have HN := Lib.hid hN
  rw [hN]
  clear hW1 hN
  have HV1 := Lib.hid (HV.out.below (by rw [HN.out]; exact HB.out))
  have HG1 := Lib.hid (HG.out.below (by rw [HN.out]; exact HB.out))
  go_wp2_with fail
  generalize hW2 : World.alloc _ _ = W2
  obtain ⟨hbs, hb2⟩ : Bss W2.heap.size W2 (.slice (some ⟨W1.heap.size, 0, none⟩) 1 1) [s] ∧ Below W1.heap.size W1 W2 := by subst hW2; exact ⟨bss1 HV1.out, (Below.refl _ _).alloc (Nat.le_refl _) _⟩
  clear hW2
  have HG2 := Lib.hid (HG1.out.below hb2)
  replace HX0 := Lib.hid (HX0.out.ext hb2)
  replace HB := Lib.hid (HB.out.trans (hb2.mono (show N ≤ _ by have := HB.out.size; have := HN.out; omega)))
  clear hb2
  refine (sum512_any _ _ W2 hbs (by simp [flat, hl]) (by simp) HG2.out).mono ?_
  rintro e w3 ⟨rfl, hb3⟩
  clear hbs HG1 HG2 HV1
  rw [show flat [s] = s by simp [flat]]
  have HK0 := Lib.hid (show keyL s = clampL ((sum512 s).take 32) ++ ((sum512 s).drop 32 ++ b32 (pN (ptimes (le (clampL ((sum512 s).take 32))) cB))) from rfl)
  obtain ⟨h1, hh1⟩ : ∃ a, (sum512 s).take 32 = a := ⟨_, rfl⟩
  obtain ⟨h2, hh2⟩ : ∃ a, (sum512 s).drop 32 = a := ⟨_, rfl⟩
  have HS := Lib.hid (show sum512 s = h1 ++ h2 by rw [← hh1, ← hh2, List.take_append_drop])
  have HL1 := Lib.hid (show h1.length = 32 by rw [← hh1, List.length_take, sum512_len']; rfl)
  have HL2 := Lib.hid (show h2.length = 32 by rw [← hh2, List.length_drop, sum512_len'])
  rw [hh1, hh2] at HK0
  rw [HS.out]
  clear hh1 hh2 HS
  replace HX0 := Lib.hid (HX0.out.ext hb3)
  replace HB := Lib.hid (HB.out.trans (hb3.mono (show N ≤ _ by have := HB.out.size; have := HN.out; omega)))
  clear hb3
  go_upto_region 4 with (refine wpList_new1 rfl 26 rfl (RB (zerB 64)) zd512 rfl _ _ rfl rfl (RB (h1 ++ h2)) 64 (dig_rw HL1.out HL2.out) (rw_bytes (zerB_len 64)).size (by kernel_rfl) rfl rfl (fun B1 w4 hB1 hb4 hCB1 => ?_))
  have HB1 := Lib.hid hCB1
  have hlB1X0 : N < B1 := by rw [← hB1]; exact HX0.out.lt
  have hNB1 : N ≤ B1 := by rw [← hB1]; have := HB.out.size; have := HN.out; omega
  clear hB1 hCB1
  replace HX0 := Lib.hid (HX0.out.ext hb4)
  replace HB := Lib.hid (HB.out.trans (hb4.mono (show N ≤ _ by have := HB.out.size; have := HN.out; omega)))
  clear hb4
  refine wp_region_seq 4 ?_
  simp only [List.take_succ_cons, List.take_zero, List.drop_succ_cons, List.drop_zero]
  refine upW_late (by rfl) (.slice (some ⟨B1, 0, none⟩) 32 64) (fun _ => by kernel_rfl) ?_
  simp only [Act.put, List.setIfInBounds_toArray, List.set]
  refine upW_late (by rfl) (.pointer (some ⟨B1, 0, none⟩)) (fun _ => by kernel_rfl) ?_
  simp only [Act.put, List.setIfInBounds_toArray, List.set]
  refine upW_val (by rfl) (by rfl) (by rfl) (fun K hK => quiet_load_part _ _ rfl B1 0 rfl 26 (RB (h1 ++ h2)) (RB h1) 32 (RB_rw HL1.out) _ HB1.out (dig_0 h1 h2) Tryd.underlying67 rfl (by kernel_rfl) (hK _ ?_))
  simp only [Act.put, List.setIfInBounds_toArray, List.set]
  refine upW_call (by rfl) (by rfl) (.agg (RB (clampL h1))) _ rfl (by simp) (fun p => ?_) ?_
  · go_big_quiet_op
    exact ⟨_, fun q => Calls.ext_of ((fun w => clamp_any h1 HL1.out w) q.x), rfl⟩
  simp only [Act.put, List.setIfInBounds_toArray, List.set]
  refine upW_nil (fun wr1 hbr1 => ?_)
  replace HX0 := Lib.hid (HX0.out.ext hbr1)
  replace HB1 := Lib.hid (HB1.out.ext hbr1)
  replace HB := Lib.hid (HB.out.trans (hbr1.mono (show N ≤ _ by have := HB.out.size; have := HN.out; omega)))
  clear hbr1
  refine wpList_new1 rfl 67 rfl (PB 0) zSc rfl _ _ rfl rfl (RB (clampL h1)) 32 (RB_rw (clampL_len HL1.out)) (PB_rw 0).size (by kernel_rfl) rfl rfl (fun B2 wr2 hB2 hbr2 hCB2 => ?_)
  have HB2 := Lib.hid hCB2
  have hlB2X0 : N < B2 := by rw [← hB2]; exact HX0.out.lt
  have hlB2B1 : B1 < B2 := by rw [← hB2]; exact HB1.out.lt
  have hNB2 : N ≤ B2 := by rw [← hB2]; have := HB.out.size; have := HN.out; omega
  clear hB2 hCB2
  simp only [Act.put, List.setIfInBounds_toArray, List.set]
  replace HX0 := Lib.hid (HX0.out.ext hbr2)
  replace HB1 := Lib.hid (HB1.out.ext hbr2)
  replace HB := Lib.hid (HB.out.trans (hbr2.mono (show N ≤ _ by have := HB.out.size; have := HN.out; omega)))
  clear hbr2
  go_upto_region 5 with fail
  refine wp_region_upT 7 _ (by kernel_rfl) (by kernel_rfl) rfl (by kernel_rfl) (fun _ _ dst _ _ h => by cases dst <;> exact h) ?_
  simp only [List.take_succ_cons, List.take_zero, List.drop_succ_cons, List.drop_zero]
  refine upW_val (by rfl) (by rfl) (by rfl) (fun K hK => quiet_load_ct _ _ rfl B2 rfl 67 (RB (clampL h1)) 32 (RB_rw (clampL_len HL1.out)) _ HB2.out Tryd.underlying67 rfl (by kernel_rfl) (hK _ ?_))
  simp only [Act.put, List.setIfInBounds_toArray, List.set]
  refine upW_late (by rfl) (.slice (some ⟨B1, 32, none⟩) 32 32) (fun _ => by kernel_rfl) ?_
  simp only [Act.put, List.setIfInBounds_toArray, List.set]
  refine upW_late (by rfl) (.pointer (some ⟨B1, 32, none⟩)) (fun _ => by kernel_rfl) ?_
  simp only [Act.put, List.setIfInBounds_toArray, List.set]
  refine upW_val (by rfl) (by rfl) (by rfl) (fun K hK => quiet_load_part _ _ rfl B1 32 rfl 26 (RB (h1 ++ h2)) (RB h2) 32 (RB_rw HL2.out) _ HB1.out (dig_1 h1 h2 HL1.out) Tryd.underlying24 rfl (by kernel_rfl) (hK _ ?_))
  simp only [Act.put, List.setIfInBounds_toArray, List.set]
  refine upW_val (by rfl) (by rfl) (by rfl) (fun K hK => quiet_load_ct _ _ rfl B2 rfl 67 (RB (clampL h1)) 32 (RB_rw (clampL_len HL1.out)) _ HB2.out Tryd.underlying67 rfl (by kernel_rfl) (hK _ ?_))
  simp only [Act.put, List.setIfInBounds_toArray, List.set]
  refine upW_call (by rfl) (by rfl) (.agg (PB (pN (ptimes (le (clampL h1)) cB)))) _ rfl (by simp) (fun p => ?_) ?_
  · go_big_quiet_op
    exact ⟨_, fun q => Calls.ext_of ((fun w => timesBase_any (clampL h1) (clampL_len HL1.out) w) q.x), rfl⟩
  simp only [Act.put, List.setIfInBounds_toArray, List.set]
  refine upW_late (by rfl) (.agg (RB ((clampL h1) ++ (h2 ++ (b32 (pN (ptimes (le (clampL h1)) cB))))))) (fun w => run_made_K _ _ _ _ _ rfl (clampL h1) (clampL_len HL1.out) h2 HL2.out (b32 (pN (ptimes (le (clampL h1)) cB))) (b32_len (pN (ptimes (le (clampL h1)) cB))) rfl rfl rfl w) ?_
  simp only [Act.put, List.setIfInBounds_toArray, List.set]
  refine upW_nil (fun wr3 hbr3 => ?_)
  replace HX0 := Lib.hid (HX0.out.ext hbr3)
  replace HB1 := Lib.hid (HB1.out.ext hbr3)
  replace HB2 := Lib.hid (HB2.out.ext hbr3)
  replace HB := Lib.hid (HB.out.trans (hbr3.mono (show N ≤ _ by have := HB.out.size; have := HN.out; omega)))
  clear hbr3
  refine wpList_store_ct rfl 70 _ _ rfl N (RB ((clampL h1) ++ (h2 ++ (b32 (pN (ptimes (le (clampL h1)) cB)))))) rfl rfl 70 (RB (zerB 96)) 96 HX0.out (by kernel_rfl) (rw_bytes (zerB_len 96)) (key_rw (clampL_len HL1.out) HL2.out (b32_len (pN (ptimes (le (clampL h1)) cB)))) rfl (fun wr4 hSwr4 hOwr4 hWwr4 => ?_)
  replace HX0 := Lib.hid hSwr4
  replace HB := Lib.hid (hWwr4 _ _ HB.out (by omega))
  replace HB1 := Lib.hid (HB1.out.other (hOwr4 _ (by omega)))
  replace HB2 := Lib.hid (HB2.out.other (hOwr4 _ (by omega)))
  clear hSwr4 hOwr4 hWwr4
  go_wp2
  refine bodyPost_ret (results_ct_slot (p := 2) (q := 3) (by rfl) _ _ N 70 (RB ((clampL h1) ++ (h2 ++ (b32 (pN (ptimes (le (clampL h1)) cB)))))) 96 _ (.bool true) (by rfl) HX0.out (key_rw (clampL_len HL1.out) HL2.out (b32_len (pN (ptimes (le (clampL h1)) cB)))) Tryd.underlying70 rfl (by kernel_rfl) rfl) rfl ⟨by rw [HK0.out], by rw [HN.out]; exact HB.out⟩
set_option maxRecDepth 100000 in
set_option maxHeartbeats 1000000 in
theorem signer_ok (v : Value) (s : List UInt8) (w : World) (hv : Bys w v s) (hl : s.length = 32) (hG : Gl w) :
    Calls Tryd.prog 32 #[v] w fun e w' => e = .returned (.tuple #[.func (.func 41) #[.agg (RB (keyL s))] #[], .bool true]) ∧ Below w.heap.size w w' := by
  obtain ⟨ao, cap, rfl⟩ := hv.slice
  rw [hl] at hv ⊢
  have HV := Lib.hid hv
  have HG := Lib.hid hG
  clear hv hG
  have hz0 := zKey
  go_enter Tryd.func32, Tryd.ntmps32
  go_upto_region 1 with fail
  have HB := Lib.hid (Below.refl w.heap.size w)
  obtain ⟨N, hN⟩ : ∃ n, w.heap.size = n := ⟨_, rfl⟩
  rw [hN] at HB
  have HN := Lib.hid hN
  clear hN
  refine wp_region_seq 5 ?_
  simp only [List.take_succ_cons, List.take_zero, List.drop_succ_cons, List.drop_zero]
  refine upW_val (by rfl) (by rfl) (by rfl) ?_
  intro K hK
  go_big_quiet_op
  refine hK _ ?_
  refine upW_call (by rfl) (by rfl) (.tuple #[.agg (RB (keyL s)), .bool true]) _ rfl (by simp) (fun p => ?_) ?_
  · go_big_quiet_op
    exact ⟨_, fun q => Calls.ext_of (keyOf_ok (.slice ao 32 cap) s q.x (HV.out.below (by rw [HN.out]; exact HB.out.trans ((p.h.trans (q.h.mono p.h.size)).mono (by have := HB.out.size; have := HN.out; omega)))) hl (HG.out.below (by rw [HN.out]; exact HB.out.trans ((p.h.trans (q.h.mono p.h.size)).mono (by have := HB.out.size; have := HN.out; omega))))), rfl⟩
  simp only [Act.put, List.setIfInBounds_toArray, List.set]
  refine upW_val (by rfl) (by rfl) (by rfl) ?_
  intro K hK
  go_big_quiet_op
  refine hK _ ?_
  refine upW_late (by rfl) (.agg (RB (keyL s))) (fun _ => rfl) ?_
  simp only [Act.put, List.setIfInBounds_toArray, List.set]
  refine upW_late (by rfl) (.bool true) (fun _ => rfl) ?_
  simp only [Act.put, List.setIfInBounds_toArray, List.set]
  refine upW_nil (fun wr1 hbr1 => ?_)
  replace HB := Lib.hid (HB.out.trans (hbr1.mono (show N ≤ _ by have := HB.out.size; have := HN.out; omega)))
  clear hbr1
  refine wpList_new1 rfl 70 rfl (RB (zerB 96)) zKey rfl _ _ rfl rfl (RB (keyL s)) 96 (rw_bytes (keyL_len s)) (rw_bytes (zerB_len 96)).size (by kernel_rfl) rfl rfl (fun B2 wr2 hB2 hbr2 hCB2 => ?_)
  have HB2 := Lib.hid hCB2
  have hNB2 : N ≤ B2 := by rw [← hB2]; have := HB.out.size; have := HN.out; omega
  clear hB2 hCB2
  simp only [Act.put, List.setIfInBounds_toArray, List.set]
  replace HB := Lib.hid (HB.out.trans (hbr2.mono (show N ≤ _ by have := HB.out.size; have := HN.out; omega)))
  clear hbr2
  go_upto_region 4 with fail
  refine wp_region_seq 3 ?_
  simp only [List.take_succ_cons, List.take_zero, List.drop_succ_cons, List.drop_zero]
  refine upW_val (by rfl) (by rfl) (by rfl) (fun K hK => quiet_load_ct _ _ rfl B2 rfl 70 (RB (keyL s)) 96 (rw_bytes (keyL_len s)) _ HB2.out Tryd.underlying70 rfl (by kernel_rfl) (hK _ ?_))
  simp only [Act.put, List.setIfInBounds_toArray, List.set]
  refine upW_late (by rfl) (.func (.func 41) #[.agg (RB (keyL s))] #[]) (fun _ => by kernel_rfl) ?_
  simp only [Act.put, List.setIfInBounds_toArray, List.set]
  refine upW_val (by rfl) (by rfl) (by rfl) ?_
  intro K hK
  go_big_quiet_op
  refine hK _ ?_
  refine upW_nil (fun wr3 hbr3 => ?_)
  replace HB2 := Lib.hid (HB2.out.ext hbr3)
  replace HB := Lib.hid (HB.out.trans (hbr3.mono (show N ≤ _ by have := HB.out.size; have := HN.out; omega)))
  clear hbr3
  go_wp2
  refine bodyPost_ret (v := .tuple #[.func (.func 41) #[.agg (RB (keyL s))] #[], .bool true]) (by simp [results, Tryd.results32, go_sem]) rfl ?_
  exact ⟨rfl, by rw [HN.out]; exact HB.out⟩
set_option maxRecDepth 100000 in
set_option maxHeartbeats 1000000 in
theorem Public_ok (v : Value) (s : List UInt8) (w : World) (hv : Bys w v s) (hl : s.length = 32) (hG : Gl w) :
    Calls Tryd.prog 14 #[v] w fun e w' => ∃ B, w.heap.size ≤ B ∧ e = .returned (.tuple #[.slice (some ⟨B, 64, none⟩) 32 32, .int .i64 0]) ∧ CT w' B 70 (RB (keyL s)) ∧ Below w.heap.size w w' := by
  obtain ⟨ao, cap, rfl⟩ := hv.slice
  rw [hl] at hv ⊢
  have HV := Lib.hid hv
  have HG := Lib.hid hG
  clear hv hG
  have hz0 := zKey
  go_enter Tryd.func14, Tryd.ntmps14
  go_upto_region 1 with fail
  have HB := Lib.hid (Below.refl w.heap.size w)
  obtain ⟨N, hN⟩ : ∃ n, w.heap.size = n := ⟨_, rfl⟩
  rw [hN] at HB
  have HN := Lib.hid hN
  clear hN
  refine wp_region_seq 5 ?_
  simp only [List.take_succ_cons, List.take_zero, List.drop_succ_cons, List.drop_zero]
  refine upW_val (by rfl) (by rfl) (by rfl) ?_
  intro K hK
  go_big_quiet_op
  refine hK _ ?_
  refine upW_call (by rfl) (by rfl) (.tuple #[.agg (RB (keyL s)), .bool true]) _ rfl (by simp) (fun p => ?_) ?_
  · go_big_quiet_op
    exact ⟨_, fun q => Calls.ext_of (keyOf_ok (.slice ao 32 cap) s q.x (HV.out.below (by rw [HN.out]; exact HB.out.trans ((p.h.trans (q.h.mono p.h.size)).mono (by have := HB.out.size; have := HN.out; omega)))) hl (HG.out.below (by rw [HN.out]; exact HB.out.trans ((p.h.trans (q.h.mono p.h.size)).mono (by have := HB.out.size; have := HN.out; omega))))), rfl⟩
  simp only [Act.put, List.setIfInBounds_toArray, List.set]
  refine upW_val (by rfl) (by rfl) (by rfl) ?_
  intro K hK
  go_big_quiet_op
  refine hK _ ?_
  refine upW_late (by rfl) (.agg (RB (keyL s))) (fun _ => rfl) ?_
  simp only [Act.put, List.setIfInBounds_toArray, List.set]
  refine upW_late (by rfl) (.bool true) (fun _ => rfl) ?_
  simp only [Act.put, List.setIfInBounds_toArray, List.set]
  refine upW_nil (fun wr1 hbr1 => ?_)
  replace HB := Lib.hid (HB.out.trans (hbr1.mono (show N ≤ _ by have := HB.out.size; have := HN.out; omega)))
  clear hbr1
  refine wpList_new1 rfl 70 rfl (RB (zerB 96)) zKey rfl _ _ rfl rfl (RB (keyL s)) 96 (rw_bytes (keyL_len s)) (rw_bytes (zerB_len 96)).size (by kernel_rfl) rfl rfl (fun B2 wr2 hB2 hbr2 hCB2 => ?_)
  have HB2 := Lib.hid hCB2
  have hNB2 : N ≤ B2 := by rw [← hB2]; have := HB.out.size; have := HN.out; omega
  clear hB2 hCB2
  simp only [Act.put, List.setIfInBounds_toArray, List.set]
  replace HB := Lib.hid (HB.out.trans (hbr2.mono (show N ≤ _ by have := HB.out.size; have := HN.out; omega)))
  clear hbr2
  go_upto_region 4 with fail
  refine wp_region_seq 3 ?_
  simp only [List.take_succ_cons, List.take_zero, List.drop_succ_cons, List.drop_zero]
  refine upW_late (by rfl) (.pointer (some ⟨B2, 64, none⟩)) (fun _ => by kernel_rfl) ?_
  simp only [Act.put, List.setIfInBounds_toArray, List.set]
  refine upW_late (by rfl) (.slice (some ⟨B2, 64, none⟩) 32 32) (fun _ => by kernel_rfl) ?_
  simp only [Act.put, List.setIfInBounds_toArray, List.set]
  refine upW_val (by rfl) (by rfl) (by rfl) ?_
  intro K hK
  go_big_quiet_op
  refine hK _ ?_
  refine upW_nil (fun wr3 hbr3 => ?_)
  replace HB2 := Lib.hid (HB2.out.ext hbr3)
  replace HB := Lib.hid (HB.out.trans (hbr3.mono (show N ≤ _ by have := HB.out.size; have := HN.out; omega)))
  clear hbr3
  go_wp2
  refine bodyPost_ret (v := .tuple #[.slice (some ⟨B2, 64, none⟩) 32 32, .int .i64 0]) (by simp [results, Tryd.results14, go_sem]) rfl ?_
  exact ⟨B2, by rw [HN.out]; exact hNB2, rfl, HB2.out, by rw [HN.out]; exact HB.out⟩
end Go.Proofs.YtlpchgoaoglhcaaDoor
namespace Go.Proofs.YtlpchgoaoglhcaaDoor
open Go.RowKit
set_option linter.unusedSimpArgs false
set_option linter.unusedVariables false
theorem wpList_append_bys {ops : Array Oper} {rest : List Oper} {o : Oper} {a : Act} {Q : Exit → Act → World → Prop} {w : World} (hgd : o.guard = none) (s x : Operand)
    (ho : o.op = .call { callee := .builtin .append, args := #[s, x], argTypes := #[22, 22] }) (base : Nat) (v : Value) (xs : List UInt8) (hs : a.eval s = v) (hown : Owns w base v xs)
    (sv : Value) (l : List UInt8) (hx : a.eval x = sv) (hsrc : Bys w sv l) (hnm : xs.length + l.length ≤ 1000000) (hbase : base ≤ w.heap.size)
    (h : ∀ v' w', Owns w' base v' (xs ++ l) → w.grownBy w' v.ownBlock → wpList Tryd.prog ops Q rest (a.put o.dst v') w') : wpList Tryd.prog ops Q (o :: rest) a w := by
  obtain ⟨i0, hi0, hz0, hz1, hz2⟩ := info_parts info_u8
  obtain ⟨ao, cap, rfl, hc, hor⟩ := hsrc
  cases ao with
  | none =>
    have h0 : cap = 0 := hc.2.2 rfl
    subst h0
    have hl : l = [] := List.eq_nil_of_length_eq_zero (by have := hc.1; omega)
    subst hl
    refine wpList_append_own_none hgd s x _ ho base _ i0 1 Tryd.underlying22 hi0 v xs.length (byteVals xs) hs hown hx ?_
    exact h v w (by simpa using hown) (World.grownBy.refl w _)
  | some ad =>
    refine wpList_append_own w hgd s x _ ho base _ i0 _ 1 1 Tryd.underlying22 hi0 hz0 hz1 hz2 rfl (by decide) v xs.length (byteVals xs) hs hown ad l.length cap (byteVals l) hx (by simp [byteVals]) ?_ (news_one l) (by unfold maxLen; omega) (by omega) hbase (fun v' w' h2 h3 _ => h v' w' (Owns.of_append h2 rfl rfl) h3)
    intro j u hu
    rcases hor with rfl | ⟨g, off, e, hg, hcell⟩
    · simp [byteVals] at hu
    · cases e
      have hj : j < l.length := by
        obtain ⟨h, _⟩ := List.getElem?_eq_some_iff.1 hu
        simpa [byteVals] using h
      rw [Addr.add_lit, hcell j hj, ← hu]
      simp [byteVals, List.getElem?_eq_getElem hj]
theorem Below.of_grown {u w w' : World} {B : Nat} {v : Value} {xs : List UInt8} (hb : Below B u w) (hB : B ≤ w.heap.size) (hown : Owns w B v xs) (hg : w.grownBy w' v.ownBlock) : Below B u w' := by
  refine hb.grown hg hB (fun k hk => ?_)
  rcases hown.2 with ⟨rfl, _⟩ | ⟨g, cap, cur, rfl, hg, _⟩
  · simp [Value.ownBlock] at hk
  · simp [Value.ownBlock] at hk; omega
set_option maxRecDepth 100000 in
set_option maxHeartbeats 1000000 in
theorem growB_nil (n : Nat) (w : World) (hn : n ≤ 1000000) :
    Calls Tryd.prog 66 #[.slice none 0 0, .int .i64 n] w fun e w' => ∃ v, e = .returned v ∧ Owns w' w.heap.size v [] ∧ Below w.heap.size w w' := by
  obtain ⟨i0, hi0, hz0, hz1, hz2⟩ := info_parts info_u8
  rcases Nat.eq_zero_or_pos n with rfl | hp
  · go_enter Tryd.func66, Tryd.ntmps66
    go_wp2
    go_ret
    exact ⟨_, rfl, World.ownsRow_nil _ _ _ _, Below.refl _ _⟩
  · have hrz : ∀ ty, (Builtin.append_ #[22, 3] ty #[.slice none 0 0, .int .i64 (n : Int)]).run Tryd.prog w =
        .ok (.slice (some ⟨w.heap.size, 0, none⟩) n (grownCap w n 0 5)) (w.drew.alloc (.cells (([] : List Value).toArray ++ Builtin.zeroCells (Value.int .u8 0).cells n ++ Builtin.zeroCells (Value.int .u8 0).cells (grownCap w n 0 5 - n)) 5)) := by
      intro ty
      have h := Lib.run_append_grow_zeros (P := Tryd.prog) w 22 3 ty 5 i0 _ .i64 .i64 Tryd.underlying22 Tryd.underlying3 hi0 hz0 none 0 0 [] (run_firstCells_none w.drew i0.size 0 0 0) n hp (by omega) (by omega) (by omega) (by rw [hz2]; omega) (growslice_fits (by omega) (by rw [hz2]; omega))
      simpa only [Nat.zero_add] using h
    have hge : n ≤ grownCap w n 0 5 := grownCap_ge w _ _ _
    have hle : grownCap w n 0 5 ≤ maxLen := grownCap_le_maxLen w n 0 _ (by unfold maxLen; omega)
    obtain ⟨G, hG⟩ : ∃ G, G = grownCap w n 0 5 := ⟨_, rfl⟩
    rw [← hG] at hrz hge hle
    obtain ⟨Z, hZ⟩ : ∃ Z, Z = ([] : List Value).toArray ++ Builtin.zeroCells (Value.int .u8 0).cells n ++ Builtin.zeroCells (Value.int .u8 0).cells (G - n) := ⟨_, rfl⟩
    rw [← hZ] at hrz
    have HZS := Lib.hid (show Z.size = G * 1 by rw [hZ]; simp [size_zeroCells, Value.cells]; omega)
    have HLE := Lib.hid hle
    have HRZ := Lib.hid hrz
    have hG63 : G ≤ 9223372036854775807 := by unfold maxLen at hle; omega
    clear hrz hG hZ hle
    have hpi : (0 : Int) < (n : Int) := by omega
    go_enter Tryd.func66, Tryd.ntmps66
    go_wp2_with (at_builtin; refine Lib.wpList_append_run _ rfl _ _ _ _ rfl _ _ rfl rfl _ _ (HRZ.out _) ?_)
    go_ret
    refine ⟨_, rfl, ⟨rfl, .inr ⟨w.heap.size, G, Z, rfl, Nat.le_refl _, ?_, Nat.zero_le _, HLE.out, HZS.out, by simp [byteVals]⟩⟩, (Below.refl _ w).drew.alloc (Nat.le_refl _) _⟩
    exact Go.heap_alloc_new w.drew _
/-- The bytes of the first so many lists. -/
def joinB (ms : List (List UInt8)) (j : Nat) : List UInt8 := (ms.take j).flatten
theorem joinB_succ (ms : List (List UInt8)) (j : Nat) (h : j < ms.length) : joinB ms (j + 1) = joinB ms j ++ ms[j] := by
  unfold joinB
  rw [List.take_succ_eq_append_getElem h, List.flatten_append, List.flatten_singleton]
theorem joinB_all (ms : List (List UInt8)) (j : Nat) (h : ms.length ≤ j) : joinB ms j = ms.flatten := by
  unfold joinB
  rw [List.take_of_length_le h]
theorem joinB_len (ms : List (List UInt8)) (j : Nat) : (joinB ms j).length ≤ ms.flatten.length := by
  have h : ms.flatten = joinB ms j ++ (ms.drop j).flatten := by
    unfold joinB
    rw [← List.flatten_append, List.take_append_drop]
  rw [h]; simp
set_option maxRecDepth 100000 in
set_option maxHeartbeats 2000000 in
theorem concatB_any {w : World} (ms : List (List UInt8)) (b : Nat) (cs : Array Value) (ty : TypeId) (hblk : w.heap[b]? = some (.cells cs ty (0, 0))) (hcs : cs.size = ms.length)
    (hsrc : ∀ j (h : j < ms.length), ∃ sv, cs[j]? = some sv ∧ Bys w sv ms[j]) (hlen : ms.flatten.length ≤ 1000000) (hms : ms.length ≤ 1000) :
    Calls Tryd.prog 52 #[.slice (some ⟨b, 0, none⟩) ms.length ms.length] w fun e w' => ∃ v, e = .returned v ∧ Owns w' w.heap.size v ms.flatten ∧ Below w.heap.size w w' := by
  have HBK := Lib.hid hblk
  have HCS := Lib.hid hcs
  have HSRC := Lib.hid hsrc
  have HJL := Lib.hid (joinB_len ms)
  have hbw := lt_of_block hblk
  clear hblk hcs hsrc
  go_enter Tryd.func52, Tryd.ntmps52
  go_wp2_with fail
  go_loop [3, 11] (fun sz iv => ∃ j : Nat, j ≤ ms.length ∧ iv = .int .i64 j ∧ sz = .int .i64 ((joinB ms j).length : Nat)) (fun _ i => ms.length - (intOf i).toNat)
  case atStart => exact ⟨0, Nat.zero_le _, rfl, rfl⟩
  case round =>
    obtain ⟨j, hj, rfl, rfl⟩ := hrel
    have hjl := HJL.out j
    by_cases hjm : j < ms.length
    · obtain ⟨sv, hsv, hM⟩ := HSRC.out j hjm
      obtain ⟨ao, cap, rfl, -⟩ := hM
      have x0 : w.cell? ⟨b, j, none⟩ = some (.slice ao ms[j].length cap) := (cell_of_row w b j cs ty (0, 0) HBK.out).trans hsv
      have HS := Lib.hid (show (joinB ms (j + 1)).length = (joinB ms j).length + ms[j].length by rw [joinB_succ ms j hjm]; simp)
      have hl2 : (joinB ms j).length + ms[j].length ≤ 1000000 := by have := HS.out; have := HJL.out (j + 1); omega
      generalize hq : ms[j].length = q at *
      clear hsv hq
      have j5 : (j : Int) < (ms.length : Int) := by omega
      go_wp2
      go_round
      case rel => exact ⟨j + 1, by omega, by go_num, by rw [HS.out]; go_num⟩
      case measure => simp [intOf]; omega
    · have HJE := Lib.hid (joinB_all ms j (by omega))
      have hln : (joinB ms j).length ≤ 1000000 := by omega
      go_wp2_with fail
      refine (growB_nil (joinB ms j).length w hln).mono ?_
      rintro e w1 ⟨v1, rfl, hown1, hb1⟩
      have HO1 := Lib.hid hown1
      have HB1 := Lib.hid hb1
      clear hown1 hb1
      go_wp2_with fail
      go_loopw [6, 27] (fun ov iv wr => ∃ k : Nat, k ≤ ms.length ∧ iv = .int .i64 k ∧ Owns wr w.heap.size ov (joinB ms k) ∧ Below w.heap.size w wr) (fun _ i _ => ms.length - (intOf i).toNat)
      case atStart => exact ⟨0, Nat.zero_le _, rfl, HO1.out, HB1.out⟩
      case round =>
        obtain ⟨k, hk, rfl, hown, hbr⟩ := hrel
        rename World => Wr
        have HOWN := Lib.hid hown
        have HBR := Lib.hid hbr
        clear hown hbr
        have hkl := HJL.out k
        by_cases hkm : k < ms.length
        · obtain ⟨sv, hsv, hM⟩ := HSRC.out k hkm
          have HJS := Lib.hid (joinB_succ ms k hkm)
          have hl2 : (joinB ms k).length + ms[k].length ≤ 1000000 := by have := HJL.out (k + 1); have h3 := congrArg List.length HJS.out; rw [List.length_append] at h3; omega
          have HMF := Lib.hid (hM.below HBR.out)
          have x1 : Wr.cell? ⟨b, k, none⟩ = some sv := (HBR.out.cell (p := ⟨b, k, none⟩) hbw).trans ((cell_of_row w b k cs ty (0, 0) HBK.out).trans hsv)
          have k5 : (k : Int) < (ms.length : Int) := by omega
          have hbz := HBR.out.size
          clear hsv hM
          go_wp2_with (at_builtin; refine wpList_append_bys rfl _ _ rfl w.heap.size _ _ rfl HOWN.out _ _ rfl HMF.out hl2 hbz ?_)
          intro v2 w2 hown2 hgr2
          have HO2 := Lib.hid hown2
          have HG2 := Lib.hid (Below.of_grown HBR.out hbz HOWN.out hgr2)
          clear hown2 hgr2
          go_wp2
          go_roundw
          case rel => exact ⟨k + 1, by omega, by go_num, by rw [HJS.out]; exact HO2.out, HG2.out⟩
          case measure => simp [intOf]; omega
        · have HKE := Lib.hid (joinB_all ms k (by omega))
          go_wp2
          go_ret
          exact ⟨_, rfl, by have := HOWN.out; rw [HKE.out] at this; exact this, HBR.out⟩
theorem concat2_any {w : World} {u1 u2 : Value} {a b : List UInt8} (h1 : Bys w u1 a) (h2 : Bys w u2 b) (hl : a.length + b.length ≤ 100000) (n : Nat) (ty : TypeId) (hblk : w.heap[n]? = some (.cells #[u1, u2] ty (0, 0))) :
    Calls Tryd.prog 52 #[.slice (some ⟨n, 0, none⟩) 2 2] w fun e w' => ∃ v, e = .returned v ∧ Owns w' w.heap.size v (a ++ b) ∧ Below w.heap.size w w' := by
  have h := concatB_any [a, b] n #[u1, u2] ty hblk rfl (fun j hj => by
    have h0 : j = 0 ∨ j = 1 := by simp at hj; omega
    rcases h0 with rfl | rfl
    · exact ⟨u1, rfl, h1⟩
    · exact ⟨u2, rfl, h2⟩) (by simp; omega) (by simp)
  simpa using h
end Go.Proofs.YtlpchgoaoglhcaaDoor
