/-
  Package sign: Verify.
  Conditions: none.
-/
import Derived.Test.YtlpchgoaoglhcaaDoorSgE
namespace Go.Proofs.YtlpchgoaoglhcaaDoor
open Go.RowKit
set_option linter.unusedSimpArgs false
set_option linter.unusedVariables false
theorem pN_inj {p q : Pt} (h : pN p = pN q) : p = q := by
  have h1 := congrArg (fun n => n % 57896044618658097711785492504343953926634992332820282019728792003956564819968) h
  simp only [pN_low] at h1
  have h2 := pN_top p
  rw [h, pN_top q] at h2
  refine same_par (Fin.ext h1) ?_
  have h3 : (q.x.val % 2 = 1) = (p.x.val % 2 = 1) := by simpa using h2
  have h4 : q.x.val % 2 = 1 ↔ p.x.val % 2 = 1 := h3 ▸ Iff.rfl
  omega
/-- Whether a signature is taken. -/
noncomputable def lookB (pub m sig : List UInt8) : Bool :=
  if pub.length = 32 ∧ sig.length = 64 ∧ le (sig.drop 32) < 7237005577332262213973186563042994240857116359379907606001950938285454250989 then
    (match Classical.propDecidable (∃ p : Pt, pN p = le pub) with
    | .isTrue h => decide (b32 (pN (wantP (sig.drop 32) (dgL (sig.take 32 ++ (pub ++ m))) (Classical.choose h))) = sig.take 32)
    | .isFalse _ => false)
  else false
theorem lookB_ok {pub m a b : List UInt8} {pt : Pt} (h1 : pub.length = 32) (h2 : a.length = 32) (h3 : b.length = 32) (h4 : le b < 7237005577332262213973186563042994240857116359379907606001950938285454250989) (hp : pN pt = le pub) (hinj : ∀ p q : Pt, pN p = pN q → p = q) : lookB pub m (a ++ b) = decide (b32 (pN (wantP b (dgL (a ++ (pub ++ m))) pt)) = a) := by
  have e1 : (a ++ b).drop 32 = b := by rw [← h2, List.drop_left]
  have e2 : (a ++ b).take 32 = a := by rw [← h2, List.take_left]
  unfold lookB
  rw [e1, e2, if_pos ⟨h1, by simp [h2, h3], h4⟩]
  cases hd : Classical.propDecidable (∃ p : Pt, pN p = le pub) with
  | isTrue h =>
    have : Classical.choose h = pt := hinj _ _ ((Classical.choose_spec h).trans hp.symm)
    simp only [this]
  | isFalse h => exact absurd ⟨pt, hp⟩ h
theorem lookB_no {pub m a b : List UInt8} (hn : ∀ p : Pt, pN p ≠ le pub) : lookB pub m (a ++ b) = false := by
  unfold lookB
  split
  · cases hd : Classical.propDecidable (∃ p : Pt, pN p = le pub) with
    | isTrue h => exact absurd h.choose_spec (hn _)
    | isFalse h => rfl
  · rfl
set_option maxRecDepth 100000 in
set_option maxHeartbeats 8000000 in
theorem Verify_big (pv : Value) (pub : List UInt8) (mv : Value) (m : List UInt8) (sv : Value) (a b : List UInt8) (w : World) (hpub : Bys w pv pub) (hm : Bys w mv m) (hsig : Bys w sv (a ++ b)) (hpl : pub.length = 32) (ha : a.length = 32) (hb : b.length = 32) (hml : m.length ≤ 10000) (hG : Gl w) (hgd : ¬ le b < 7237005577332262213973186563042994240857116359379907606001950938285454250989) :
    Calls Tryd.prog 17 #[pv, mv, sv] w fun e w' => e = .returned (.bool false) ∧ Below w.heap.size w w' := by
  obtain ⟨gp, op, cp, rfl, hcp1, hcp2⟩ := bys_some hpub hpl (by decide)
  obtain ⟨gs, os, cs, rfl, hcs1, hcs2⟩ := bys_some hsig (n := 64) (by rw [List.length_append]; omega) (by decide)
  obtain ⟨ao, cap, rfl⟩ := hm.slice
  have HP := Lib.hid hpub
  have HS := Lib.hid hsig
  have HM := Lib.hid hm
  have HG := Lib.hid hG
  have HLP := Lib.hid hpl
  have HLA := Lib.hid ha
  have HLB := Lib.hid hb
  have HML := Lib.hid hml
  clear hpub hsig hm hG hpl ha hb hml
  have HGD := Lib.hid (fun w => Good_sc b w HLB.out)
  rw [show decide (le b < 7237005577332262213973186563042994240857116359379907606001950938285454250989) = false from decide_eq_false hgd] at HGD
  have hz0 := zSc
  have hz1 := zPt
  go_enter Tryd.func17, Tryd.ntmps17
  go_upto_region 1 with fail
  have HB := Lib.hid (Below.refl w.heap.size w)
  obtain ⟨N, hN⟩ : ∃ n, w.heap.size = n := ⟨_, rfl⟩
  rw [hN] at HB
  have HN := Lib.hid hN
  clear hN
  go_upto_region 3 with fail
  have HSW := Lib.hid HS.out
  go_upto_region 3 with fail
  refine wp_region_whole [0, 1, 2, 3, 4, 5, 6, 7] [⟨8, _, 68, (PB 0), 7, 10, _, 68, 22, (RB a)⟩, ⟨9, _, 67, (PB 0), 8, 11, _, 67, 26, (RB b)⟩] [11, 10, 9, 8] (by kernel_rfl) (by kernel_rfl) (List.forall_mem_cons.2 ⟨⟨⟨rfl, rfl, rfl, fun a w => alloc_run _ _ zPt a _ rfl w⟩, rfl, rfl, rfl, rfl, (RB_rw HLA.out).info (by kernel_rfl), (PB_rw 0).same (RB_rw HLA.out), (RB_rw HLA.out).one⟩, (List.forall_mem_cons.2 ⟨⟨⟨rfl, rfl, rfl, fun a w => alloc_run _ _ zSc a _ rfl w⟩, rfl, rfl, rfl, rfl, (RB_rw HLB.out).info (by kernel_rfl), (PB_rw 0).same (RB_rw HLB.out), (RB_rw HLB.out).one⟩, (List.forall_mem_nil _)⟩)⟩) rfl ?_
  simp only [List.foldl, List.eraseIdx_cons_succ, List.eraseIdx_cons_zero]
  refine upW_val (by rfl) (by rfl) (by rfl) ?_
  intro K hK
  go_big_quiet_op
  refine hK _ ?_
  refine upW_late (by rfl) (.slice (some ⟨gs, os, none⟩) 32 cs) (fun w => run_slice_hi _ _ _ rfl gs os cs rfl hcs1 w) ?_
  simp only [Act.put, List.setIfInBounds_toArray, List.set]
  refine upW_late (by rfl) (.pointer (some ⟨gs, os, none⟩)) (fun _ => by kernel_rfl) ?_
  simp only [Act.put, List.setIfInBounds_toArray, List.set]
  refine upW_val (by rfl) (by rfl) (by rfl) (fun K hK => quiet_load_rng _ _ rfl gs (os) rfl a HLA.out _ (fun X hX => bys_range (pre := []) (mid := a) (post := b) (HSW.out.below hX) rfl rfl) Tryd.underlying68 rfl (by kernel_rfl) (hK _ ?_))
  simp only [Act.put, List.setIfInBounds_toArray, List.set]
  refine upW_val (by rfl) (by rfl) (by rfl) ?_
  intro K hK
  go_big_quiet_op
  refine hK _ ?_
  refine upW_late (by rfl) (.slice (some ⟨gs, os + 32, none⟩) 32 (cs - 32)) (fun w => run_slice_lo _ _ _ rfl gs os cs rfl hcs1 w) ?_
  simp only [Act.put, List.setIfInBounds_toArray, List.set]
  refine upW_late (by rfl) (.pointer (some ⟨gs, os + 32, none⟩)) (fun _ => by kernel_rfl) ?_
  simp only [Act.put, List.setIfInBounds_toArray, List.set]
  refine upW_val (by rfl) (by rfl) (by rfl) (fun K hK => quiet_load_rng _ _ rfl gs (os + 32) rfl b HLB.out _ (fun X hX => bys_range (pre := a) (mid := b) (post := []) (HSW.out.below hX) (by rw [List.append_nil]) HLA.out) Tryd.underlying67 rfl (by kernel_rfl) (hK _ ?_))
  simp only [Act.put, List.setIfInBounds_toArray, List.set]
  refine upW_nil ⟨(List.forall_mem_cons.2 ⟨rfl, (List.forall_mem_cons.2 ⟨rfl, (List.forall_mem_nil _)⟩)⟩), fun M wr1 hM hne hbr1 => ?_⟩
  have hm0 := hM _ (List.mem_cons_self ..)
  have hm1 := hM _ (List.mem_cons_of_mem _ (List.mem_cons_self ..))
  have hn1x01 : M 8 ≠ M 9 := hne _ (List.mem_cons_self ..) _ (List.mem_cons_of_mem _ (List.mem_cons_self ..)) (show (8 : Nat) ≠ 9 by decide)
  clear hM hne
  simp only [List.foldr, pS, Act.put, List.setIfInBounds_toArray, List.set]
  obtain ⟨B1x0, hB1x0⟩ : ∃ m, M 8 = m := ⟨_, rfl⟩
  have HB1x0 := Lib.hid (show CT wr1 B1x0 68 (RB a) by rw [← hB1x0]; exact hm0.2)
  have hNB1x0 : N ≤ B1x0 := by rw [← hB1x0]; exact Nat.le_trans (by have := HB.out.size; have := HN.out; omega) hm0.1
  obtain ⟨B1x1, hB1x1⟩ : ∃ m, M 9 = m := ⟨_, rfl⟩
  have HB1x1 := Lib.hid (show CT wr1 B1x1 67 (RB b) by rw [← hB1x1]; exact hm1.2)
  have hNB1x1 : N ≤ B1x1 := by rw [← hB1x1]; exact Nat.le_trans (by have := HB.out.size; have := HN.out; omega) hm1.1
  rw [hB1x0, hB1x1] at hn1x01
  rw [hB1x0, hB1x1]
  clear hm0 hB1x0 hm1 hB1x1
  replace HB := Lib.hid (HB.out.trans (hbr1.mono (show N ≤ _ by have := HB.out.size; have := HN.out; omega)))
  clear hbr1
  go_upto_region 4 with fail
  refine wp_region_seq 2 ?_
  simp only [List.take_succ_cons, List.take_zero, List.drop_succ_cons, List.drop_zero]
  refine upW_val (by rfl) (by rfl) (by rfl) (fun K hK => quiet_load_ct _ _ rfl B1x1 rfl 67 (RB b) 32 (RB_rw HLB.out) _ HB1x1.out Tryd.underlying67 rfl (by kernel_rfl) (hK _ ?_))
  simp only [Act.put, List.setIfInBounds_toArray, List.set]
  refine upW_call (by rfl) (by rfl) (.bool false) _ rfl (by simp) (fun p => ?_) ?_
  · go_big_quiet_op
    exact ⟨_, fun q => Calls.ext_of (HGD.out q.x), rfl⟩
  simp only [Act.put, List.setIfInBounds_toArray, List.set]
  refine upW_nil (fun wr2 hbr2 => ?_)
  replace HB1x0 := Lib.hid (HB1x0.out.ext hbr2)
  replace HB1x1 := Lib.hid (HB1x1.out.ext hbr2)
  replace HB := Lib.hid (HB.out.trans (hbr2.mono (show N ≤ _ by have := HB.out.size; have := HN.out; omega)))
  clear hbr2
  go_wp2
  go_ret
  exact ⟨rfl, by rw [HN.out]; exact HB.out⟩
set_option maxRecDepth 100000 in
set_option maxHeartbeats 8000000 in
theorem Verify_ok (pv : Value) (pub : List UInt8) (mv : Value) (m : List UInt8) (sv : Value) (a b : List UInt8) (w : World) (hpub : Bys w pv pub) (hm : Bys w mv m) (hsig : Bys w sv (a ++ b)) (hpl : pub.length = 32) (ha : a.length = 32) (hb : b.length = 32) (hml : m.length ≤ 10000) (hG : Gl w) (hgd : le b < 7237005577332262213973186563042994240857116359379907606001950938285454250989) (pt : Pt) (hpt : pN pt = le pub) (hinj : ∀ p q : Pt, pN p = pN q → p = q) :
    Calls Tryd.prog 17 #[pv, mv, sv] w fun e w' => e = .returned (.bool (lookB pub m (a ++ b))) ∧ Below w.heap.size w w' := by
  obtain ⟨gp, op, cp, rfl, hcp1, hcp2⟩ := bys_some hpub hpl (by decide)
  obtain ⟨gs, os, cs, rfl, hcs1, hcs2⟩ := bys_some hsig (n := 64) (by rw [List.length_append]; omega) (by decide)
  obtain ⟨ao, cap, rfl⟩ := hm.slice
  have HP := Lib.hid hpub
  have HS := Lib.hid hsig
  have HM := Lib.hid hm
  have HG := Lib.hid hG
  have HLP := Lib.hid hpl
  have HLA := Lib.hid ha
  have HLB := Lib.hid hb
  have HML := Lib.hid hml
  clear hpub hsig hm hG hpl ha hb hml
  have HGD := Lib.hid (fun w => Good_sc b w HLB.out)
  rw [show decide (le b < 7237005577332262213973186563042994240857116359379907606001950938285454250989) = true from decide_eq_true hgd] at HGD
  have hz0 := zSc
  have hz1 := zPt
  go_enter Tryd.func17, Tryd.ntmps17
  go_upto_region 1 with fail
  have HB := Lib.hid (Below.refl w.heap.size w)
  obtain ⟨N, hN⟩ : ∃ n, w.heap.size = n := ⟨_, rfl⟩
  rw [hN] at HB
  have HN := Lib.hid hN
  clear hN
  go_upto_region 3 with fail
  have HSW := Lib.hid HS.out
  go_upto_region 3 with fail
  refine wp_region_whole [0, 1, 2, 3, 4, 5, 6, 7] [⟨8, _, 68, (PB 0), 7, 10, _, 68, 22, (RB a)⟩, ⟨9, _, 67, (PB 0), 8, 11, _, 67, 26, (RB b)⟩] [11, 10, 9, 8] (by kernel_rfl) (by kernel_rfl) (List.forall_mem_cons.2 ⟨⟨⟨rfl, rfl, rfl, fun a w => alloc_run _ _ zPt a _ rfl w⟩, rfl, rfl, rfl, rfl, (RB_rw HLA.out).info (by kernel_rfl), (PB_rw 0).same (RB_rw HLA.out), (RB_rw HLA.out).one⟩, (List.forall_mem_cons.2 ⟨⟨⟨rfl, rfl, rfl, fun a w => alloc_run _ _ zSc a _ rfl w⟩, rfl, rfl, rfl, rfl, (RB_rw HLB.out).info (by kernel_rfl), (PB_rw 0).same (RB_rw HLB.out), (RB_rw HLB.out).one⟩, (List.forall_mem_nil _)⟩)⟩) rfl ?_
  simp only [List.foldl, List.eraseIdx_cons_succ, List.eraseIdx_cons_zero]
  refine upW_val (by rfl) (by rfl) (by rfl) ?_
  intro K hK
  go_big_quiet_op
  refine hK _ ?_
  refine upW_late (by rfl) (.slice (some ⟨gs, os, none⟩) 32 cs) (fun w => run_slice_hi _ _ _ rfl gs os cs rfl hcs1 w) ?_
  simp only [Act.put, List.setIfInBounds_toArray, List.set]
  refine upW_late (by rfl) (.pointer (some ⟨gs, os, none⟩)) (fun _ => by kernel_rfl) ?_
  simp only [Act.put, List.setIfInBounds_toArray, List.set]
  refine upW_val (by rfl) (by rfl) (by rfl) (fun K hK => quiet_load_rng _ _ rfl gs (os) rfl a HLA.out _ (fun X hX => bys_range (pre := []) (mid := a) (post := b) (HSW.out.below hX) rfl rfl) Tryd.underlying68 rfl (by kernel_rfl) (hK _ ?_))
  simp only [Act.put, List.setIfInBounds_toArray, List.set]
  refine upW_val (by rfl) (by rfl) (by rfl) ?_
  intro K hK
  go_big_quiet_op
  refine hK _ ?_
  refine upW_late (by rfl) (.slice (some ⟨gs, os + 32, none⟩) 32 (cs - 32)) (fun w => run_slice_lo _ _ _ rfl gs os cs rfl hcs1 w) ?_
  simp only [Act.put, List.setIfInBounds_toArray, List.set]
  refine upW_late (by rfl) (.pointer (some ⟨gs, os + 32, none⟩)) (fun _ => by kernel_rfl) ?_
  simp only [Act.put, List.setIfInBounds_toArray, List.set]
  refine upW_val (by rfl) (by rfl) (by rfl) (fun K hK => quiet_load_rng _ _ rfl gs (os + 32) rfl b HLB.out _ (fun X hX => bys_range (pre := a) (mid := b) (post := []) (HSW.out.below hX) (by rw [List.append_nil]) HLA.out) Tryd.underlying67 rfl (by kernel_rfl) (hK _ ?_))
  simp only [Act.put, List.setIfInBounds_toArray, List.set]
  refine upW_nil ⟨(List.forall_mem_cons.2 ⟨rfl, (List.forall_mem_cons.2 ⟨rfl, (List.forall_mem_nil _)⟩)⟩), fun M wr1 hM hne hbr1 => ?_⟩
  have hm0 := hM _ (List.mem_cons_self ..)
  have hm1 := hM _ (List.mem_cons_of_mem _ (List.mem_cons_self ..))
  have hn1x01 : M 8 ≠ M 9 := hne _ (List.mem_cons_self ..) _ (List.mem_cons_of_mem _ (List.mem_cons_self ..)) (show (8 : Nat) ≠ 9 by decide)
  clear hM hne
  simp only [List.foldr, pS, Act.put, List.setIfInBounds_toArray, List.set]
  obtain ⟨B1x0, hB1x0⟩ : ∃ m, M 8 = m := ⟨_, rfl⟩
  have HB1x0 := Lib.hid (show CT wr1 B1x0 68 (RB a) by rw [← hB1x0]; exact hm0.2)
  have hNB1x0 : N ≤ B1x0 := by rw [← hB1x0]; exact Nat.le_trans (by have := HB.out.size; have := HN.out; omega) hm0.1
  obtain ⟨B1x1, hB1x1⟩ : ∃ m, M 9 = m := ⟨_, rfl⟩
  have HB1x1 := Lib.hid (show CT wr1 B1x1 67 (RB b) by rw [← hB1x1]; exact hm1.2)
  have hNB1x1 : N ≤ B1x1 := by rw [← hB1x1]; exact Nat.le_trans (by have := HB.out.size; have := HN.out; omega) hm1.1
  rw [hB1x0, hB1x1] at hn1x01
  rw [hB1x0, hB1x1]
  clear hm0 hB1x0 hm1 hB1x1
  replace HB := Lib.hid (HB.out.trans (hbr1.mono (show N ≤ _ by have := HB.out.size; have := HN.out; omega)))
  clear hbr1
  go_upto_region 4 with fail
  refine wp_region_seq 2 ?_
  simp only [List.take_succ_cons, List.take_zero, List.drop_succ_cons, List.drop_zero]
  refine upW_val (by rfl) (by rfl) (by rfl) (fun K hK => quiet_load_ct _ _ rfl B1x1 rfl 67 (RB b) 32 (RB_rw HLB.out) _ HB1x1.out Tryd.underlying67 rfl (by kernel_rfl) (hK _ ?_))
  simp only [Act.put, List.setIfInBounds_toArray, List.set]
  refine upW_call (by rfl) (by rfl) (.bool true) _ rfl (by simp) (fun p => ?_) ?_
  · go_big_quiet_op
    exact ⟨_, fun q => Calls.ext_of (HGD.out q.x), rfl⟩
  simp only [Act.put, List.setIfInBounds_toArray, List.set]
  refine upW_nil (fun wr2 hbr2 => ?_)
  replace HB1x0 := Lib.hid (HB1x0.out.ext hbr2)
  replace HB1x1 := Lib.hid (HB1x1.out.ext hbr2)
  replace HB := Lib.hid (HB.out.trans (hbr2.mono (show N ≤ _ by have := HB.out.size; have := HN.out; omega)))
  clear hbr2
  go_upto_region 6 with fail
  obtain ⟨wq, hwq⟩ : ∃ wq, wr2 = wq := ⟨_, rfl⟩
  rw [hwq] at HB1x0 HB1x1 HB ⊢
  have HM3 := Lib.hid (HM.out.below (by rw [HN.out]; exact HB.out))
  have HP3 := Lib.hid (HP.out.below (by rw [HN.out]; exact HB.out))
  have HG3 := Lib.hid (HG.out.below (by rw [HN.out]; exact HB.out))
  have HDG := Lib.hid (fun (X : World) (M : Nat) (hb : Below wq.heap.size wq X) (hc : X.heap[M]? = some (.cells #[.slice (some ⟨B1x0, 0, none⟩) 32 32, .slice (some ⟨gp, op, none⟩) 32 cp, .slice ao m.length cap] 22 (0, 0))) =>
    show Calls Tryd.prog 35 #[.slice (some ⟨M, 0, none⟩) 3 3] X fun e w' => e = .returned (.agg (RB (dgL (a ++ (pub ++ m))))) ∧ Below X.heap.size X w' by
      have h := digest_any _ _ X (bss_at hc [a, pub, m] (bss_us3 (ct_all (HB1x0.out.ext hb) HLA.out) (HP3.out.below hb) (HM3.out.below hb)) 3 rfl) (by simp [flat]; have := HLA.out; have := HLP.out; have := HML.out; omega) (by simp) (HG3.out.below hb)
      rwa [show flat [a, pub, m] = a ++ (pub ++ m) by simp [flat]] at h)
  have HLK := Lib.hid (dgL_len (a ++ (pub ++ m)))
  have HRV := Lib.hid (lookB_ok (m := m) HLP.out HLA.out HLB.out hgd hpt hinj)
  generalize dgL (a ++ (pub ++ m)) = Kk at HDG HLK HRV
  have HDF := Lib.hid (fun (X : World) => difference_ok b Kk HLB.out HLK.out pt X)
  rw [hpt, PB_le HLP.out] at HDF
  obtain ⟨Wb, hWb⟩ : ∃ Wb, b32 (pN (wantP b Kk pt)) = Wb := ⟨_, rfl⟩
  rw [show PB (pN (wantP b Kk pt)) = RB Wb by rw [← hWb]; rfl] at HDF
  rw [hWb] at HRV
  have HLW := Lib.hid (show Wb.length = 32 by rw [← hWb]; exact b32_len _)
  obtain ⟨bb, hbb⟩ : ∃ bb, decide (Wb = a) = bb := ⟨_, rfl⟩
  rw [hbb] at HRV
  have HBB := Lib.hid hbb
  clear hWb hbb
  have hiS : (Tryd.prog.info? 67).map (·.size) = some (byteVals b).length := by rw [show (byteVals b).length = 32 by simp [byteVals, HLB.out]]; kernel_rfl
  have hiP : (Tryd.prog.info? 68).map (·.size) = some (byteVals pub).length := by rw [show (byteVals pub).length = 32 by simp [byteVals, HLP.out]]; kernel_rfl
  refine wp_region_held_drew (S := fun X => Below wq.heap.size wq X) (by kernel_rfl) (below_dr wq) (fun hHeld => ?_)
  generalize World.drew wq = V0 at hHeld ⊢
  refine wpAnyH_take (i := 0) (v := .agg (byteVals b).toArray) rfl (by kernel_rfl) (by kernel_rfl) (by kernel_rfl) (fun _ _ _ h => h) (yieldsIf_load_mid (by rfl) _ _ rfl B1x1 0 rfl (byteVals b) _ (fun X hX => (HB1x1.out.ext hX).range (fun j v h => by rw [Nat.zero_add]; exact h)) Tryd.underlying67 rfl hiS) hHeld ?_
  try simp only [List.getElem_toArray, List.getElem_cons_succ, List.getElem_cons_zero, Act.put, List.setIfInBounds_toArray, List.set_cons_zero, List.set_cons_succ]
  refine wpAnyH_take (i := 1) (v := .slice (some ⟨B1x0, 0, none⟩) 32 32) rfl (by kernel_rfl) (by kernel_rfl) (by kernel_rfl) (fun _ _ _ h => h) (.inl ⟨by rfl, fun _ _ => by kernel_rfl⟩) hHeld ?_
  try simp only [List.getElem_toArray, List.getElem_cons_succ, List.getElem_cons_zero, Act.put, List.setIfInBounds_toArray, List.set_cons_zero, List.set_cons_succ]
  refine wpAnyH_take (i := 2) (v := .slice (some ⟨gp, op, none⟩) 32 cp) rfl (by kernel_rfl) (by kernel_rfl) (by kernel_rfl) (fun _ _ _ h => h) (.inl ⟨by rfl, fun _ _ => by kernel_rfl⟩) hHeld ?_
  try simp only [List.getElem_toArray, List.getElem_cons_succ, List.getElem_cons_zero, Act.put, List.setIfInBounds_toArray, List.set_cons_zero, List.set_cons_succ]
  refine wpAnyH_take (i := 3) (v := .slice ao m.length cap) rfl (by kernel_rfl) (by kernel_rfl) (by kernel_rfl) (fun _ _ _ h => h) (.inl ⟨by rfl, fun _ _ => by kernel_rfl⟩) hHeld ?_
  try simp only [List.getElem_toArray, List.getElem_cons_succ, List.getElem_cons_zero, Act.put, List.setIfInBounds_toArray, List.set_cons_zero, List.set_cons_succ]
  refine wpAnyH_take (i := 6) (v := .slice (some ⟨gp, op, none⟩) 32 cp) rfl (by kernel_rfl) (by kernel_rfl) (by kernel_rfl) (fun _ _ _ h => h) (.inl ⟨by rfl, fun _ _ => by kernel_rfl⟩) hHeld ?_
  try simp only [List.getElem_toArray, List.getElem_cons_succ, List.getElem_cons_zero, Act.put, List.setIfInBounds_toArray, List.set_cons_zero, List.set_cons_succ]
  refine wpAnyH_take (i := 7) (v := .pointer (some ⟨gp, op, none⟩)) rfl (by kernel_rfl) (by kernel_rfl) (by kernel_rfl) (fun _ _ _ h => h) (.inl ⟨by rfl, fun _ _ => by kernel_rfl⟩) hHeld ?_
  try simp only [List.getElem_toArray, List.getElem_cons_succ, List.getElem_cons_zero, Act.put, List.setIfInBounds_toArray, List.set_cons_zero, List.set_cons_succ]
  refine wpAnyH_take (i := 8) (v := .agg (byteVals pub).toArray) rfl (by kernel_rfl) (by kernel_rfl) (by kernel_rfl) (fun _ _ _ h => h) (yieldsIf_load_mid (by rfl) _ _ rfl gp op rfl (byteVals pub) _ (fun X hX => (bys_range (o := 0) (pre := []) (mid := pub) (post := []) (HP3.out.below hX) (by rw [List.append_nil]; rfl) rfl)) Tryd.underlying68 rfl hiP) hHeld ?_
  try simp only [List.getElem_toArray, List.getElem_cons_succ, List.getElem_cons_zero, Act.put, List.setIfInBounds_toArray, List.set_cons_zero, List.set_cons_succ]
  refine wpAnyH_ready (rs := [4, 13]) (by kernel_rfl) (by simp) ?_
  refine AllReadyH.cons (i := 4) rfl (fun K hK => ?_) ?_
  · obtain ⟨M, hM⟩ : ∃ k, V0.heap.size = k := ⟨_, rfl⟩
    go_simp
    have hb1 : Below V0.heap.size V0 ((V0.alloc (.cells #[.slice (some ⟨B1x0, 0, none⟩) 32 32, .slice (some ⟨gp, op, none⟩) 32 cp, .slice ao m.length cap] 22))) := ((below_al (Below.refl _ V0) _))
    have hNM : CT ((V0.alloc (.cells #[.slice (some ⟨B1x0, 0, none⟩) 32 32, .slice (some ⟨gp, op, none⟩) 32 cp, .slice ao m.length cap] 22))) M 22 #[.slice (some ⟨B1x0, 0, none⟩) 32 32, .slice (some ⟨gp, op, none⟩) 32 cp, .slice ao m.length cap] := by rw [← hM]; exact Go.heap_alloc_new _ _
    have hleM : wq.heap.size ≤ M := by rw [← hM]; exact hHeld.size
    try rw [hM]
    generalize ((V0.alloc (.cells #[.slice (some ⟨B1x0, 0, none⟩) 32 32, .slice (some ⟨gp, op, none⟩) 32 cp, .slice ao m.length cap] 22))) = V1 at hb1 hNM ⊢
    clear hM
    refine hK.out _ _ (hHeld.trans (hb1.mono hHeld.size)) (fun hHeld2 => ?_)
    clear hb1 hHeld hK K
    have hHeld := hHeld2
    clear hHeld2
    try simp only [List.getElem_toArray, List.getElem_cons_succ, List.getElem_cons_zero, Act.put, List.setIfInBounds_toArray, List.set_cons_zero, List.set_cons_succ]
    refine wpAnyH_ready (rs := [5, 13]) (by kernel_rfl) (by simp) ?_
    refine AllReadyH.cons (i := 5) rfl (fun K hK => ?_) ?_
    · go_simp
      refine (HDG.out V1 M hHeld hNM).mono ?_
      rintro e V2 ⟨rfl, hb2⟩
      go_wp2_with fail
      refine hK.out _ _ (hHeld.trans (hb2.mono hHeld.size)) (fun hHeld2 => ?_)
      replace hNM := hNM.ext hb2
      clear hb2 hHeld hK K
      have hHeld := hHeld2
      clear hHeld2
      try simp only [List.getElem_toArray, List.getElem_cons_succ, List.getElem_cons_zero, Act.put, List.setIfInBounds_toArray, List.set_cons_zero, List.set_cons_succ]
      refine wpAnyH_ready (rs := [9, 13]) (by kernel_rfl) (by simp) ?_
      refine AllReadyH.cons (i := 9) rfl (fun K hK => ?_) ?_
      · go_simp
        refine (HDF.out V2).mono ?_
        rintro e V3 ⟨rfl, hb3⟩
        go_wp2_with fail
        refine hK.out _ _ (hHeld.trans (hb3.mono hHeld.size)) (fun hHeld2 => ?_)
        replace hNM := hNM.ext hb3
        clear hb3 hHeld hK K
        have hHeld := hHeld2
        clear hHeld2
        try simp only [List.getElem_toArray, List.getElem_cons_succ, List.getElem_cons_zero, Act.put, List.setIfInBounds_toArray, List.set_cons_zero, List.set_cons_succ]
        refine wpAnyH_take (i := 10) (v := .tuple #[.agg (RB Wb), .bool true]) rfl (by kernel_rfl) (by kernel_rfl) (by kernel_rfl) (fun _ _ _ h => h) (.inl ⟨by rfl, fun _ _ => by kernel_rfl⟩) hHeld ?_
        try simp only [List.getElem_toArray, List.getElem_cons_succ, List.getElem_cons_zero, Act.put, List.setIfInBounds_toArray, List.set_cons_zero, List.set_cons_succ]
        refine wpAnyH_take (i := 11) (v := .agg (RB Wb)) rfl (by kernel_rfl) (by kernel_rfl) (by kernel_rfl) (fun _ _ _ h => h) (.inl ⟨by rfl, fun _ _ => by kernel_rfl⟩) hHeld ?_
        try simp only [List.getElem_toArray, List.getElem_cons_succ, List.getElem_cons_zero, Act.put, List.setIfInBounds_toArray, List.set_cons_zero, List.set_cons_succ]
        refine wpAnyH_take (i := 12) (v := .bool true) rfl (by kernel_rfl) (by kernel_rfl) (by kernel_rfl) (fun _ _ _ h => h) (.inl ⟨by rfl, fun _ _ => by kernel_rfl⟩) hHeld ?_
        try simp only [List.getElem_toArray, List.getElem_cons_succ, List.getElem_cons_zero, Act.put, List.setIfInBounds_toArray, List.set_cons_zero, List.set_cons_succ]
        refine wpAnyH_ready (rs := [13]) (by kernel_rfl) (by simp) ?_
        refine AllReadyH.cons (i := 13) rfl (fun K hK => ?_) ?_
        · obtain ⟨C, hC⟩ : ∃ k, V3.heap.size = k := ⟨_, rfl⟩
          rw [if_pos (by rfl)]
          unfold Oper.wp
          rw [alloc_run _ _ zPt _ _ rfl V3, Oper.upon_value]
          have hb4 : Below V3.heap.size V3 ((V3.alloc (.cells (PB 0) 68))) := ((below_al (Below.refl _ V3) _))
          have hNC : CT ((V3.alloc (.cells (PB 0) 68))) C 68 (PB 0) := by rw [← hC]; exact Go.heap_alloc_new _ _
          have hleC : wq.heap.size ≤ C := by rw [← hC]; exact hHeld.size
          try rw [hC]
          generalize ((V3.alloc (.cells (PB 0) 68))) = V4 at hb4 hNC ⊢
          have hltMC : M < C := by rw [← hC]; exact hNM.lt
          clear hC
          refine hK.out _ _ (hHeld.trans (hb4.mono hHeld.size)) (fun hHeld2 => ?_)
          replace hNM := hNM.ext hb4
          clear hb4 hHeld hK K
          have hHeld := hHeld2
          clear hHeld2
          try simp only [List.getElem_toArray, List.getElem_cons_succ, List.getElem_cons_zero, Act.put, List.setIfInBounds_toArray, List.set_cons_zero, List.set_cons_succ]
          refine wpAnyH_ready (rs := [14]) (by kernel_rfl) (by simp) ?_
          refine AllReadyH.cons (i := 14) rfl (fun K hK => ?_) ?_
          · refine step_store_row (by rfl) _ _ _ rfl C (RB Wb) rfl rfl 68 _ hNC ((RB_rw HLW.out).info (by kernel_rfl)) ((PB_rw 0).same (RB_rw HLW.out)) (RB_rw HLW.out).one ?_
            have hb5 : Below wq.heap.size wq (V4.setRow C (RB Wb)) := Below.setRow hHeld hleC _
            replace hNC : CT (V4.setRow C (RB Wb)) C 68 (RB Wb) := setRow_heap _ _ _ _ _ _ hNC
            replace hNM : CT (V4.setRow C (RB Wb)) M _ _ := hNM.other (setRow_other _ _ _ _ (by omega))
            refine hK.out _ _ hb5 (fun hHeld2 => ?_)
            clear hHeld hK K
            generalize V4.setRow C (RB Wb) = V5 at hb5 hHeld2 hNM hNC ⊢
            have hHeld := hHeld2
            clear hHeld2 hb5
            try simp only [List.getElem_toArray, List.getElem_cons_succ, List.getElem_cons_zero, Act.put, List.setIfInBounds_toArray, List.set_cons_zero, List.set_cons_succ]
            refine wpAnyH_ready (rs := [15]) (by kernel_rfl) (by simp) ?_
            refine AllReadyH.cons (i := 15) rfl (fun K hK => ?_) ?_
            · go_simp
              refine hK.out _ _ hHeld (fun _ => ?_)
              clear hK K
              try simp only [List.getElem_toArray, List.getElem_cons_succ, List.getElem_cons_zero, Act.put, List.setIfInBounds_toArray, List.set_cons_zero, List.set_cons_succ]
              refine wpAnyH_done (by kernel_rfl) ?_ _
              obtain ⟨vq, hvq⟩ : ∃ vq, V5 = vq := ⟨_, rfl⟩
              rw [hvq] at hHeld hNC ⊢
              have HC := Lib.hid hNC
              have HBF := Lib.hid (HB1x0.out.ext hHeld)
              replace HB := Lib.hid (HB.out.trans (hHeld.mono (show N ≤ wq.heap.size by have := HB.out.size; have := HN.out; omega)))
              clear hvq hHeld hNC hNM hleC hleM
              go_upto_region 7 with fail
              refine wp_region_seq 6 ?_
              simp only [List.take_succ_cons, List.take_zero, List.drop_succ_cons, List.drop_zero]
              refine upW_val (by rfl) (by rfl) (by rfl) ?_
              intro K hK
              go_big_quiet_op
              refine hK _ ?_
              refine upW_val (by rfl) (by rfl) (by rfl) ?_
              intro K hK
              go_big_quiet_op
              refine hK _ ?_
              refine upW_val (by rfl) (by rfl) (by rfl) (fun K hK => quiet_load_ct _ _ rfl C rfl 68 (RB Wb) 32 (RB_rw HLW.out) _ HC.out Tryd.underlying68 rfl (by kernel_rfl) (hK _ ?_))
              simp only [Act.put, List.setIfInBounds_toArray, List.set]
              refine upW_val (by rfl) (by rfl) (by rfl) (fun K hK => quiet_load_ct _ _ rfl B1x0 rfl 68 (RB a) 32 (RB_rw HLA.out) _ HBF.out Tryd.underlying68 rfl (by kernel_rfl) (hK _ ?_))
              simp only [Act.put, List.setIfInBounds_toArray, List.set]
              refine upW_late (by rfl) (.bool bb) (fun w => run_eqB _ _ _ _ 68 rfl Tryd.underlying68 Wb a rfl rfl HLW.out HLA.out (by kernel_rfl) bb HBB.out w) ?_
              simp only [Act.put, List.setIfInBounds_toArray, List.set]
              refine upW_val (by rfl) (by rfl) (by rfl) ?_
              intro K hK
              go_big_quiet_op
              refine hK _ ?_
              refine upW_nil (fun wr51 hbr51 => ?_)
              replace HC := Lib.hid (HC.out.ext hbr51)
              replace HBF := Lib.hid (HBF.out.ext hbr51)
              replace HB := Lib.hid (HB.out.trans (hbr51.mono (show N ≤ _ by have := HB.out.size; have := HN.out; omega)))
              clear hbr51
              go_wp2
              go_ret
              exact ⟨by (rw [HRV.out] <;> rfl), by rw [HN.out]; exact HB.out⟩
            exact AllReadyH.nil
          exact AllReadyH.nil
        exact AllReadyH.nil
      refine AllReadyH.cons (i := 13) rfl (fun K hK => ?_) ?_
      · obtain ⟨C, hC⟩ : ∃ k, V2.heap.size = k := ⟨_, rfl⟩
        rw [if_pos (by rfl)]
        unfold Oper.wp
        rw [alloc_run _ _ zPt _ _ rfl V2, Oper.upon_value]
        have hb3 : Below V2.heap.size V2 ((V2.alloc (.cells (PB 0) 68))) := ((below_al (Below.refl _ V2) _))
        have hNC : CT ((V2.alloc (.cells (PB 0) 68))) C 68 (PB 0) := by rw [← hC]; exact Go.heap_alloc_new _ _
        have hleC : wq.heap.size ≤ C := by rw [← hC]; exact hHeld.size
        try rw [hC]
        generalize ((V2.alloc (.cells (PB 0) 68))) = V3 at hb3 hNC ⊢
        have hltMC : M < C := by rw [← hC]; exact hNM.lt
        clear hC
        refine hK.out _ _ (hHeld.trans (hb3.mono hHeld.size)) (fun hHeld2 => ?_)
        replace hNM := hNM.ext hb3
        clear hb3 hHeld hK K
        have hHeld := hHeld2
        clear hHeld2
        try simp only [List.getElem_toArray, List.getElem_cons_succ, List.getElem_cons_zero, Act.put, List.setIfInBounds_toArray, List.set_cons_zero, List.set_cons_succ]
        refine wpAnyH_ready (rs := [9]) (by kernel_rfl) (by simp) ?_
        refine AllReadyH.cons (i := 9) rfl (fun K hK => ?_) ?_
        · go_simp
          refine (HDF.out V3).mono ?_
          rintro e V4 ⟨rfl, hb4⟩
          go_wp2_with fail
          refine hK.out _ _ (hHeld.trans (hb4.mono hHeld.size)) (fun hHeld2 => ?_)
          replace hNM := hNM.ext hb4
          replace hNC := hNC.ext hb4
          clear hb4 hHeld hK K
          have hHeld := hHeld2
          clear hHeld2
          try simp only [List.getElem_toArray, List.getElem_cons_succ, List.getElem_cons_zero, Act.put, List.setIfInBounds_toArray, List.set_cons_zero, List.set_cons_succ]
          refine wpAnyH_take (i := 10) (v := .tuple #[.agg (RB Wb), .bool true]) rfl (by kernel_rfl) (by kernel_rfl) (by kernel_rfl) (fun _ _ _ h => h) (.inl ⟨by rfl, fun _ _ => by kernel_rfl⟩) hHeld ?_
          try simp only [List.getElem_toArray, List.getElem_cons_succ, List.getElem_cons_zero, Act.put, List.setIfInBounds_toArray, List.set_cons_zero, List.set_cons_succ]
          refine wpAnyH_take (i := 11) (v := .agg (RB Wb)) rfl (by kernel_rfl) (by kernel_rfl) (by kernel_rfl) (fun _ _ _ h => h) (.inl ⟨by rfl, fun _ _ => by kernel_rfl⟩) hHeld ?_
          try simp only [List.getElem_toArray, List.getElem_cons_succ, List.getElem_cons_zero, Act.put, List.setIfInBounds_toArray, List.set_cons_zero, List.set_cons_succ]
          refine wpAnyH_take (i := 12) (v := .bool true) rfl (by kernel_rfl) (by kernel_rfl) (by kernel_rfl) (fun _ _ _ h => h) (.inl ⟨by rfl, fun _ _ => by kernel_rfl⟩) hHeld ?_
          try simp only [List.getElem_toArray, List.getElem_cons_succ, List.getElem_cons_zero, Act.put, List.setIfInBounds_toArray, List.set_cons_zero, List.set_cons_succ]
          refine wpAnyH_ready (rs := [14]) (by kernel_rfl) (by simp) ?_
          refine AllReadyH.cons (i := 14) rfl (fun K hK => ?_) ?_
          · refine step_store_row (by rfl) _ _ _ rfl C (RB Wb) rfl rfl 68 _ hNC ((RB_rw HLW.out).info (by kernel_rfl)) ((PB_rw 0).same (RB_rw HLW.out)) (RB_rw HLW.out).one ?_
            have hb5 : Below wq.heap.size wq (V4.setRow C (RB Wb)) := Below.setRow hHeld hleC _
            replace hNC : CT (V4.setRow C (RB Wb)) C 68 (RB Wb) := setRow_heap _ _ _ _ _ _ hNC
            replace hNM : CT (V4.setRow C (RB Wb)) M _ _ := hNM.other (setRow_other _ _ _ _ (by omega))
            refine hK.out _ _ hb5 (fun hHeld2 => ?_)
            clear hHeld hK K
            generalize V4.setRow C (RB Wb) = V5 at hb5 hHeld2 hNM hNC ⊢
            have hHeld := hHeld2
            clear hHeld2 hb5
            try simp only [List.getElem_toArray, List.getElem_cons_succ, List.getElem_cons_zero, Act.put, List.setIfInBounds_toArray, List.set_cons_zero, List.set_cons_succ]
            refine wpAnyH_ready (rs := [15]) (by kernel_rfl) (by simp) ?_
            refine AllReadyH.cons (i := 15) rfl (fun K hK => ?_) ?_
            · go_simp
              refine hK.out _ _ hHeld (fun _ => ?_)
              clear hK K
              try simp only [List.getElem_toArray, List.getElem_cons_succ, List.getElem_cons_zero, Act.put, List.setIfInBounds_toArray, List.set_cons_zero, List.set_cons_succ]
              refine wpAnyH_done (by kernel_rfl) ?_ _
              obtain ⟨vq, hvq⟩ : ∃ vq, V5 = vq := ⟨_, rfl⟩
              rw [hvq] at hHeld hNC ⊢
              have HC := Lib.hid hNC
              have HBF := Lib.hid (HB1x0.out.ext hHeld)
              replace HB := Lib.hid (HB.out.trans (hHeld.mono (show N ≤ wq.heap.size by have := HB.out.size; have := HN.out; omega)))
              clear hvq hHeld hNC hNM hleC hleM
              go_upto_region 7 with fail
              refine wp_region_seq 6 ?_
              simp only [List.take_succ_cons, List.take_zero, List.drop_succ_cons, List.drop_zero]
              refine upW_val (by rfl) (by rfl) (by rfl) ?_
              intro K hK
              go_big_quiet_op
              refine hK _ ?_
              refine upW_val (by rfl) (by rfl) (by rfl) ?_
              intro K hK
              go_big_quiet_op
              refine hK _ ?_
              refine upW_val (by rfl) (by rfl) (by rfl) (fun K hK => quiet_load_ct _ _ rfl C rfl 68 (RB Wb) 32 (RB_rw HLW.out) _ HC.out Tryd.underlying68 rfl (by kernel_rfl) (hK _ ?_))
              simp only [Act.put, List.setIfInBounds_toArray, List.set]
              refine upW_val (by rfl) (by rfl) (by rfl) (fun K hK => quiet_load_ct _ _ rfl B1x0 rfl 68 (RB a) 32 (RB_rw HLA.out) _ HBF.out Tryd.underlying68 rfl (by kernel_rfl) (hK _ ?_))
              simp only [Act.put, List.setIfInBounds_toArray, List.set]
              refine upW_late (by rfl) (.bool bb) (fun w => run_eqB _ _ _ _ 68 rfl Tryd.underlying68 Wb a rfl rfl HLW.out HLA.out (by kernel_rfl) bb HBB.out w) ?_
              simp only [Act.put, List.setIfInBounds_toArray, List.set]
              refine upW_val (by rfl) (by rfl) (by rfl) ?_
              intro K hK
              go_big_quiet_op
              refine hK _ ?_
              refine upW_nil (fun wr51 hbr51 => ?_)
              replace HC := Lib.hid (HC.out.ext hbr51)
              replace HBF := Lib.hid (HBF.out.ext hbr51)
              replace HB := Lib.hid (HB.out.trans (hbr51.mono (show N ≤ _ by have := HB.out.size; have := HN.out; omega)))
              clear hbr51
              go_wp2
              go_ret
              exact ⟨by (rw [HRV.out] <;> rfl), by rw [HN.out]; exact HB.out⟩
            exact AllReadyH.nil
          exact AllReadyH.nil
        exact AllReadyH.nil
      exact AllReadyH.nil
    refine AllReadyH.cons (i := 13) rfl (fun K hK => ?_) ?_
    · obtain ⟨C, hC⟩ : ∃ k, V1.heap.size = k := ⟨_, rfl⟩
      rw [if_pos (by rfl)]
      unfold Oper.wp
      rw [alloc_run _ _ zPt _ _ rfl V1, Oper.upon_value]
      have hb2 : Below V1.heap.size V1 ((V1.alloc (.cells (PB 0) 68))) := ((below_al (Below.refl _ V1) _))
      have hNC : CT ((V1.alloc (.cells (PB 0) 68))) C 68 (PB 0) := by rw [← hC]; exact Go.heap_alloc_new _ _
      have hleC : wq.heap.size ≤ C := by rw [← hC]; exact hHeld.size
      try rw [hC]
      generalize ((V1.alloc (.cells (PB 0) 68))) = V2 at hb2 hNC ⊢
      have hltMC : M < C := by rw [← hC]; exact hNM.lt
      clear hC
      refine hK.out _ _ (hHeld.trans (hb2.mono hHeld.size)) (fun hHeld2 => ?_)
      replace hNM := hNM.ext hb2
      clear hb2 hHeld hK K
      have hHeld := hHeld2
      clear hHeld2
      try simp only [List.getElem_toArray, List.getElem_cons_succ, List.getElem_cons_zero, Act.put, List.setIfInBounds_toArray, List.set_cons_zero, List.set_cons_succ]
      refine wpAnyH_ready (rs := [5]) (by kernel_rfl) (by simp) ?_
      refine AllReadyH.cons (i := 5) rfl (fun K hK => ?_) ?_
      · go_simp
        refine (HDG.out V2 M hHeld hNM).mono ?_
        rintro e V3 ⟨rfl, hb3⟩
        go_wp2_with fail
        refine hK.out _ _ (hHeld.trans (hb3.mono hHeld.size)) (fun hHeld2 => ?_)
        replace hNM := hNM.ext hb3
        replace hNC := hNC.ext hb3
        clear hb3 hHeld hK K
        have hHeld := hHeld2
        clear hHeld2
        try simp only [List.getElem_toArray, List.getElem_cons_succ, List.getElem_cons_zero, Act.put, List.setIfInBounds_toArray, List.set_cons_zero, List.set_cons_succ]
        refine wpAnyH_ready (rs := [9]) (by kernel_rfl) (by simp) ?_
        refine AllReadyH.cons (i := 9) rfl (fun K hK => ?_) ?_
        · go_simp
          refine (HDF.out V3).mono ?_
          rintro e V4 ⟨rfl, hb4⟩
          go_wp2_with fail
          refine hK.out _ _ (hHeld.trans (hb4.mono hHeld.size)) (fun hHeld2 => ?_)
          replace hNM := hNM.ext hb4
          replace hNC := hNC.ext hb4
          clear hb4 hHeld hK K
          have hHeld := hHeld2
          clear hHeld2
          try simp only [List.getElem_toArray, List.getElem_cons_succ, List.getElem_cons_zero, Act.put, List.setIfInBounds_toArray, List.set_cons_zero, List.set_cons_succ]
          refine wpAnyH_take (i := 10) (v := .tuple #[.agg (RB Wb), .bool true]) rfl (by kernel_rfl) (by kernel_rfl) (by kernel_rfl) (fun _ _ _ h => h) (.inl ⟨by rfl, fun _ _ => by kernel_rfl⟩) hHeld ?_
          try simp only [List.getElem_toArray, List.getElem_cons_succ, List.getElem_cons_zero, Act.put, List.setIfInBounds_toArray, List.set_cons_zero, List.set_cons_succ]
          refine wpAnyH_take (i := 11) (v := .agg (RB Wb)) rfl (by kernel_rfl) (by kernel_rfl) (by kernel_rfl) (fun _ _ _ h => h) (.inl ⟨by rfl, fun _ _ => by kernel_rfl⟩) hHeld ?_
          try simp only [List.getElem_toArray, List.getElem_cons_succ, List.getElem_cons_zero, Act.put, List.setIfInBounds_toArray, List.set_cons_zero, List.set_cons_succ]
          refine wpAnyH_take (i := 12) (v := .bool true) rfl (by kernel_rfl) (by kernel_rfl) (by kernel_rfl) (fun _ _ _ h => h) (.inl ⟨by rfl, fun _ _ => by kernel_rfl⟩) hHeld ?_
          try simp only [List.getElem_toArray, List.getElem_cons_succ, List.getElem_cons_zero, Act.put, List.setIfInBounds_toArray, List.set_cons_zero, List.set_cons_succ]
          refine wpAnyH_ready (rs := [14]) (by kernel_rfl) (by simp) ?_
          refine AllReadyH.cons (i := 14) rfl (fun K hK => ?_) ?_
          · refine step_store_row (by rfl) _ _ _ rfl C (RB Wb) rfl rfl 68 _ hNC ((RB_rw HLW.out).info (by kernel_rfl)) ((PB_rw 0).same (RB_rw HLW.out)) (RB_rw HLW.out).one ?_
            have hb5 : Below wq.heap.size wq (V4.setRow C (RB Wb)) := Below.setRow hHeld hleC _
            replace hNC : CT (V4.setRow C (RB Wb)) C 68 (RB Wb) := setRow_heap _ _ _ _ _ _ hNC
            replace hNM : CT (V4.setRow C (RB Wb)) M _ _ := hNM.other (setRow_other _ _ _ _ (by omega))
            refine hK.out _ _ hb5 (fun hHeld2 => ?_)
            clear hHeld hK K
            generalize V4.setRow C (RB Wb) = V5 at hb5 hHeld2 hNM hNC ⊢
            have hHeld := hHeld2
            clear hHeld2 hb5
            try simp only [List.getElem_toArray, List.getElem_cons_succ, List.getElem_cons_zero, Act.put, List.setIfInBounds_toArray, List.set_cons_zero, List.set_cons_succ]
            refine wpAnyH_ready (rs := [15]) (by kernel_rfl) (by simp) ?_
            refine AllReadyH.cons (i := 15) rfl (fun K hK => ?_) ?_
            · go_simp
              refine hK.out _ _ hHeld (fun _ => ?_)
              clear hK K
              try simp only [List.getElem_toArray, List.getElem_cons_succ, List.getElem_cons_zero, Act.put, List.setIfInBounds_toArray, List.set_cons_zero, List.set_cons_succ]
              refine wpAnyH_done (by kernel_rfl) ?_ _
              obtain ⟨vq, hvq⟩ : ∃ vq, V5 = vq := ⟨_, rfl⟩
              rw [hvq] at hHeld hNC ⊢
              have HC := Lib.hid hNC
              have HBF := Lib.hid (HB1x0.out.ext hHeld)
              replace HB := Lib.hid (HB.out.trans (hHeld.mono (show N ≤ wq.heap.size by have := HB.out.size; have := HN.out; omega)))
              clear hvq hHeld hNC hNM hleC hleM
              go_upto_region 7 with fail
              refine wp_region_seq 6 ?_
              simp only [List.take_succ_cons, List.take_zero, List.drop_succ_cons, List.drop_zero]
              refine upW_val (by rfl) (by rfl) (by rfl) ?_
              intro K hK
              go_big_quiet_op
              refine hK _ ?_
              refine upW_val (by rfl) (by rfl) (by rfl) ?_
              intro K hK
              go_big_quiet_op
              refine hK _ ?_
              refine upW_val (by rfl) (by rfl) (by rfl) (fun K hK => quiet_load_ct _ _ rfl C rfl 68 (RB Wb) 32 (RB_rw HLW.out) _ HC.out Tryd.underlying68 rfl (by kernel_rfl) (hK _ ?_))
              simp only [Act.put, List.setIfInBounds_toArray, List.set]
              refine upW_val (by rfl) (by rfl) (by rfl) (fun K hK => quiet_load_ct _ _ rfl B1x0 rfl 68 (RB a) 32 (RB_rw HLA.out) _ HBF.out Tryd.underlying68 rfl (by kernel_rfl) (hK _ ?_))
              simp only [Act.put, List.setIfInBounds_toArray, List.set]
              refine upW_late (by rfl) (.bool bb) (fun w => run_eqB _ _ _ _ 68 rfl Tryd.underlying68 Wb a rfl rfl HLW.out HLA.out (by kernel_rfl) bb HBB.out w) ?_
              simp only [Act.put, List.setIfInBounds_toArray, List.set]
              refine upW_val (by rfl) (by rfl) (by rfl) ?_
              intro K hK
              go_big_quiet_op
              refine hK _ ?_
              refine upW_nil (fun wr51 hbr51 => ?_)
              replace HC := Lib.hid (HC.out.ext hbr51)
              replace HBF := Lib.hid (HBF.out.ext hbr51)
              replace HB := Lib.hid (HB.out.trans (hbr51.mono (show N ≤ _ by have := HB.out.size; have := HN.out; omega)))
              clear hbr51
              go_wp2
              go_ret
              exact ⟨by (rw [HRV.out] <;> rfl), by rw [HN.out]; exact HB.out⟩
            exact AllReadyH.nil
          exact AllReadyH.nil
        exact AllReadyH.nil
      exact AllReadyH.nil
    exact AllReadyH.nil
  refine AllReadyH.cons (i := 13) rfl (fun K hK => ?_) ?_
  · obtain ⟨C, hC⟩ : ∃ k, V0.heap.size = k := ⟨_, rfl⟩
    rw [if_pos (by rfl)]
    unfold Oper.wp
    rw [alloc_run _ _ zPt _ _ rfl V0, Oper.upon_value]
    have hb1 : Below V0.heap.size V0 ((V0.alloc (.cells (PB 0) 68))) := ((below_al (Below.refl _ V0) _))
    have hNC : CT ((V0.alloc (.cells (PB 0) 68))) C 68 (PB 0) := by rw [← hC]; exact Go.heap_alloc_new _ _
    have hleC : wq.heap.size ≤ C := by rw [← hC]; exact hHeld.size
    try rw [hC]
    generalize ((V0.alloc (.cells (PB 0) 68))) = V1 at hb1 hNC ⊢
    clear hC
    refine hK.out _ _ (hHeld.trans (hb1.mono hHeld.size)) (fun hHeld2 => ?_)
    clear hb1 hHeld hK K
    have hHeld := hHeld2
    clear hHeld2
    try simp only [List.getElem_toArray, List.getElem_cons_succ, List.getElem_cons_zero, Act.put, List.setIfInBounds_toArray, List.set_cons_zero, List.set_cons_succ]
    refine wpAnyH_ready (rs := [4]) (by kernel_rfl) (by simp) ?_
    refine AllReadyH.cons (i := 4) rfl (fun K hK => ?_) ?_
    · obtain ⟨M, hM⟩ : ∃ k, V1.heap.size = k := ⟨_, rfl⟩
      go_simp
      have hb2 : Below V1.heap.size V1 ((V1.alloc (.cells #[.slice (some ⟨B1x0, 0, none⟩) 32 32, .slice (some ⟨gp, op, none⟩) 32 cp, .slice ao m.length cap] 22))) := ((below_al (Below.refl _ V1) _))
      have hNM : CT ((V1.alloc (.cells #[.slice (some ⟨B1x0, 0, none⟩) 32 32, .slice (some ⟨gp, op, none⟩) 32 cp, .slice ao m.length cap] 22))) M 22 #[.slice (some ⟨B1x0, 0, none⟩) 32 32, .slice (some ⟨gp, op, none⟩) 32 cp, .slice ao m.length cap] := by rw [← hM]; exact Go.heap_alloc_new _ _
      have hleM : wq.heap.size ≤ M := by rw [← hM]; exact hHeld.size
      try rw [hM]
      generalize ((V1.alloc (.cells #[.slice (some ⟨B1x0, 0, none⟩) 32 32, .slice (some ⟨gp, op, none⟩) 32 cp, .slice ao m.length cap] 22))) = V2 at hb2 hNM ⊢
      have hltCM : C < M := by rw [← hM]; exact hNC.lt
      clear hM
      refine hK.out _ _ (hHeld.trans (hb2.mono hHeld.size)) (fun hHeld2 => ?_)
      replace hNC := hNC.ext hb2
      clear hb2 hHeld hK K
      have hHeld := hHeld2
      clear hHeld2
      try simp only [List.getElem_toArray, List.getElem_cons_succ, List.getElem_cons_zero, Act.put, List.setIfInBounds_toArray, List.set_cons_zero, List.set_cons_succ]
      refine wpAnyH_ready (rs := [5]) (by kernel_rfl) (by simp) ?_
      refine AllReadyH.cons (i := 5) rfl (fun K hK => ?_) ?_
      · go_simp
        refine (HDG.out V2 M hHeld hNM).mono ?_
        rintro e V3 ⟨rfl, hb3⟩
        go_wp2_with fail
        refine hK.out _ _ (hHeld.trans (hb3.mono hHeld.size)) (fun hHeld2 => ?_)
        replace hNC := hNC.ext hb3
        replace hNM := hNM.ext hb3
        clear hb3 hHeld hK K
        have hHeld := hHeld2
        clear hHeld2
        try simp only [List.getElem_toArray, List.getElem_cons_succ, List.getElem_cons_zero, Act.put, List.setIfInBounds_toArray, List.set_cons_zero, List.set_cons_succ]
        refine wpAnyH_ready (rs := [9]) (by kernel_rfl) (by simp) ?_
        refine AllReadyH.cons (i := 9) rfl (fun K hK => ?_) ?_
        · go_simp
          refine (HDF.out V3).mono ?_
          rintro e V4 ⟨rfl, hb4⟩
          go_wp2_with fail
          refine hK.out _ _ (hHeld.trans (hb4.mono hHeld.size)) (fun hHeld2 => ?_)
          replace hNC := hNC.ext hb4
          replace hNM := hNM.ext hb4
          clear hb4 hHeld hK K
          have hHeld := hHeld2
          clear hHeld2
          try simp only [List.getElem_toArray, List.getElem_cons_succ, List.getElem_cons_zero, Act.put, List.setIfInBounds_toArray, List.set_cons_zero, List.set_cons_succ]
          refine wpAnyH_take (i := 10) (v := .tuple #[.agg (RB Wb), .bool true]) rfl (by kernel_rfl) (by kernel_rfl) (by kernel_rfl) (fun _ _ _ h => h) (.inl ⟨by rfl, fun _ _ => by kernel_rfl⟩) hHeld ?_
          try simp only [List.getElem_toArray, List.getElem_cons_succ, List.getElem_cons_zero, Act.put, List.setIfInBounds_toArray, List.set_cons_zero, List.set_cons_succ]
          refine wpAnyH_take (i := 11) (v := .agg (RB Wb)) rfl (by kernel_rfl) (by kernel_rfl) (by kernel_rfl) (fun _ _ _ h => h) (.inl ⟨by rfl, fun _ _ => by kernel_rfl⟩) hHeld ?_
          try simp only [List.getElem_toArray, List.getElem_cons_succ, List.getElem_cons_zero, Act.put, List.setIfInBounds_toArray, List.set_cons_zero, List.set_cons_succ]
          refine wpAnyH_take (i := 12) (v := .bool true) rfl (by kernel_rfl) (by kernel_rfl) (by kernel_rfl) (fun _ _ _ h => h) (.inl ⟨by rfl, fun _ _ => by kernel_rfl⟩) hHeld ?_
          try simp only [List.getElem_toArray, List.getElem_cons_succ, List.getElem_cons_zero, Act.put, List.setIfInBounds_toArray, List.set_cons_zero, List.set_cons_succ]
          refine wpAnyH_ready (rs := [14]) (by kernel_rfl) (by simp) ?_
          refine AllReadyH.cons (i := 14) rfl (fun K hK => ?_) ?_
          · refine step_store_row (by rfl) _ _ _ rfl C (RB Wb) rfl rfl 68 _ hNC ((RB_rw HLW.out).info (by kernel_rfl)) ((PB_rw 0).same (RB_rw HLW.out)) (RB_rw HLW.out).one ?_
            have hb5 : Below wq.heap.size wq (V4.setRow C (RB Wb)) := Below.setRow hHeld hleC _
            replace hNC : CT (V4.setRow C (RB Wb)) C 68 (RB Wb) := setRow_heap _ _ _ _ _ _ hNC
            replace hNM : CT (V4.setRow C (RB Wb)) M _ _ := hNM.other (setRow_other _ _ _ _ (by omega))
            refine hK.out _ _ hb5 (fun hHeld2 => ?_)
            clear hHeld hK K
            generalize V4.setRow C (RB Wb) = V5 at hb5 hHeld2 hNC hNM ⊢
            have hHeld := hHeld2
            clear hHeld2 hb5
            try simp only [List.getElem_toArray, List.getElem_cons_succ, List.getElem_cons_zero, Act.put, List.setIfInBounds_toArray, List.set_cons_zero, List.set_cons_succ]
            refine wpAnyH_ready (rs := [15]) (by kernel_rfl) (by simp) ?_
            refine AllReadyH.cons (i := 15) rfl (fun K hK => ?_) ?_
            · go_simp
              refine hK.out _ _ hHeld (fun _ => ?_)
              clear hK K
              try simp only [List.getElem_toArray, List.getElem_cons_succ, List.getElem_cons_zero, Act.put, List.setIfInBounds_toArray, List.set_cons_zero, List.set_cons_succ]
              refine wpAnyH_done (by kernel_rfl) ?_ _
              obtain ⟨vq, hvq⟩ : ∃ vq, V5 = vq := ⟨_, rfl⟩
              rw [hvq] at hHeld hNC ⊢
              have HC := Lib.hid hNC
              have HBF := Lib.hid (HB1x0.out.ext hHeld)
              replace HB := Lib.hid (HB.out.trans (hHeld.mono (show N ≤ wq.heap.size by have := HB.out.size; have := HN.out; omega)))
              clear hvq hHeld hNC hNM hleC hleM
              go_upto_region 7 with fail
              refine wp_region_seq 6 ?_
              simp only [List.take_succ_cons, List.take_zero, List.drop_succ_cons, List.drop_zero]
              refine upW_val (by rfl) (by rfl) (by rfl) ?_
              intro K hK
              go_big_quiet_op
              refine hK _ ?_
              refine upW_val (by rfl) (by rfl) (by rfl) ?_
              intro K hK
              go_big_quiet_op
              refine hK _ ?_
              refine upW_val (by rfl) (by rfl) (by rfl) (fun K hK => quiet_load_ct _ _ rfl C rfl 68 (RB Wb) 32 (RB_rw HLW.out) _ HC.out Tryd.underlying68 rfl (by kernel_rfl) (hK _ ?_))
              simp only [Act.put, List.setIfInBounds_toArray, List.set]
              refine upW_val (by rfl) (by rfl) (by rfl) (fun K hK => quiet_load_ct _ _ rfl B1x0 rfl 68 (RB a) 32 (RB_rw HLA.out) _ HBF.out Tryd.underlying68 rfl (by kernel_rfl) (hK _ ?_))
              simp only [Act.put, List.setIfInBounds_toArray, List.set]
              refine upW_late (by rfl) (.bool bb) (fun w => run_eqB _ _ _ _ 68 rfl Tryd.underlying68 Wb a rfl rfl HLW.out HLA.out (by kernel_rfl) bb HBB.out w) ?_
              simp only [Act.put, List.setIfInBounds_toArray, List.set]
              refine upW_val (by rfl) (by rfl) (by rfl) ?_
              intro K hK
              go_big_quiet_op
              refine hK _ ?_
              refine upW_nil (fun wr51 hbr51 => ?_)
              replace HC := Lib.hid (HC.out.ext hbr51)
              replace HBF := Lib.hid (HBF.out.ext hbr51)
              replace HB := Lib.hid (HB.out.trans (hbr51.mono (show N ≤ _ by have := HB.out.size; have := HN.out; omega)))
              clear hbr51
              go_wp2
              go_ret
              exact ⟨by (rw [HRV.out] <;> rfl), by rw [HN.out]; exact HB.out⟩
            exact AllReadyH.nil
          exact AllReadyH.nil
        exact AllReadyH.nil
      exact AllReadyH.nil
    exact AllReadyH.nil
  exact AllReadyH.nil
set_option maxRecDepth 100000 in
set_option maxHeartbeats 8000000 in
theorem Verify_none (pv : Value) (pub : List UInt8) (mv : Value) (m : List UInt8) (sv : Value) (a b : List UInt8) (w : World) (hpub : Bys w pv pub) (hm : Bys w mv m) (hsig : Bys w sv (a ++ b)) (hpl : pub.length = 32) (ha : a.length = 32) (hb : b.length = 32) (hml : m.length ≤ 10000) (hG : Gl w) (hgd : le b < 7237005577332262213973186563042994240857116359379907606001950938285454250989) (hgn : ∀ p : Pt, pN p ≠ le pub) :
    Calls Tryd.prog 17 #[pv, mv, sv] w fun e w' => e = .returned (.bool (lookB pub m (a ++ b))) ∧ Below w.heap.size w w' := by
  obtain ⟨gp, op, cp, rfl, hcp1, hcp2⟩ := bys_some hpub hpl (by decide)
  obtain ⟨gs, os, cs, rfl, hcs1, hcs2⟩ := bys_some hsig (n := 64) (by rw [List.length_append]; omega) (by decide)
  obtain ⟨ao, cap, rfl⟩ := hm.slice
  have HP := Lib.hid hpub
  have HS := Lib.hid hsig
  have HM := Lib.hid hm
  have HG := Lib.hid hG
  have HLP := Lib.hid hpl
  have HLA := Lib.hid ha
  have HLB := Lib.hid hb
  have HML := Lib.hid hml
  clear hpub hsig hm hG hpl ha hb hml
  have HGD := Lib.hid (fun w => Good_sc b w HLB.out)
  rw [show decide (le b < 7237005577332262213973186563042994240857116359379907606001950938285454250989) = true from decide_eq_true hgd] at HGD
  have hz0 := zSc
  have hz1 := zPt
  go_enter Tryd.func17, Tryd.ntmps17
  go_upto_region 1 with fail
  have HB := Lib.hid (Below.refl w.heap.size w)
  obtain ⟨N, hN⟩ : ∃ n, w.heap.size = n := ⟨_, rfl⟩
  rw [hN] at HB
  have HN := Lib.hid hN
  clear hN
  go_upto_region 3 with fail
  have HSW := Lib.hid HS.out
  go_upto_region 3 with fail
  refine wp_region_whole [0, 1, 2, 3, 4, 5, 6, 7] [⟨8, _, 68, (PB 0), 7, 10, _, 68, 22, (RB a)⟩, ⟨9, _, 67, (PB 0), 8, 11, _, 67, 26, (RB b)⟩] [11, 10, 9, 8] (by kernel_rfl) (by kernel_rfl) (List.forall_mem_cons.2 ⟨⟨⟨rfl, rfl, rfl, fun a w => alloc_run _ _ zPt a _ rfl w⟩, rfl, rfl, rfl, rfl, (RB_rw HLA.out).info (by kernel_rfl), (PB_rw 0).same (RB_rw HLA.out), (RB_rw HLA.out).one⟩, (List.forall_mem_cons.2 ⟨⟨⟨rfl, rfl, rfl, fun a w => alloc_run _ _ zSc a _ rfl w⟩, rfl, rfl, rfl, rfl, (RB_rw HLB.out).info (by kernel_rfl), (PB_rw 0).same (RB_rw HLB.out), (RB_rw HLB.out).one⟩, (List.forall_mem_nil _)⟩)⟩) rfl ?_
  simp only [List.foldl, List.eraseIdx_cons_succ, List.eraseIdx_cons_zero]
  refine upW_val (by rfl) (by rfl) (by rfl) ?_
  intro K hK
  go_big_quiet_op
  refine hK _ ?_
  refine upW_late (by rfl) (.slice (some ⟨gs, os, none⟩) 32 cs) (fun w => run_slice_hi _ _ _ rfl gs os cs rfl hcs1 w) ?_
  simp only [Act.put, List.setIfInBounds_toArray, List.set]
  refine upW_late (by rfl) (.pointer (some ⟨gs, os, none⟩)) (fun _ => by kernel_rfl) ?_
  simp only [Act.put, List.setIfInBounds_toArray, List.set]
  refine upW_val (by rfl) (by rfl) (by rfl) (fun K hK => quiet_load_rng _ _ rfl gs (os) rfl a HLA.out _ (fun X hX => bys_range (pre := []) (mid := a) (post := b) (HSW.out.below hX) rfl rfl) Tryd.underlying68 rfl (by kernel_rfl) (hK _ ?_))
  simp only [Act.put, List.setIfInBounds_toArray, List.set]
  refine upW_val (by rfl) (by rfl) (by rfl) ?_
  intro K hK
  go_big_quiet_op
  refine hK _ ?_
  refine upW_late (by rfl) (.slice (some ⟨gs, os + 32, none⟩) 32 (cs - 32)) (fun w => run_slice_lo _ _ _ rfl gs os cs rfl hcs1 w) ?_
  simp only [Act.put, List.setIfInBounds_toArray, List.set]
  refine upW_late (by rfl) (.pointer (some ⟨gs, os + 32, none⟩)) (fun _ => by kernel_rfl) ?_
  simp only [Act.put, List.setIfInBounds_toArray, List.set]
  refine upW_val (by rfl) (by rfl) (by rfl) (fun K hK => quiet_load_rng _ _ rfl gs (os + 32) rfl b HLB.out _ (fun X hX => bys_range (pre := a) (mid := b) (post := []) (HSW.out.below hX) (by rw [List.append_nil]) HLA.out) Tryd.underlying67 rfl (by kernel_rfl) (hK _ ?_))
  simp only [Act.put, List.setIfInBounds_toArray, List.set]
  refine upW_nil ⟨(List.forall_mem_cons.2 ⟨rfl, (List.forall_mem_cons.2 ⟨rfl, (List.forall_mem_nil _)⟩)⟩), fun M wr1 hM hne hbr1 => ?_⟩
  have hm0 := hM _ (List.mem_cons_self ..)
  have hm1 := hM _ (List.mem_cons_of_mem _ (List.mem_cons_self ..))
  have hn1x01 : M 8 ≠ M 9 := hne _ (List.mem_cons_self ..) _ (List.mem_cons_of_mem _ (List.mem_cons_self ..)) (show (8 : Nat) ≠ 9 by decide)
  clear hM hne
  simp only [List.foldr, pS, Act.put, List.setIfInBounds_toArray, List.set]
  obtain ⟨B1x0, hB1x0⟩ : ∃ m, M 8 = m := ⟨_, rfl⟩
  have HB1x0 := Lib.hid (show CT wr1 B1x0 68 (RB a) by rw [← hB1x0]; exact hm0.2)
  have hNB1x0 : N ≤ B1x0 := by rw [← hB1x0]; exact Nat.le_trans (by have := HB.out.size; have := HN.out; omega) hm0.1
  obtain ⟨B1x1, hB1x1⟩ : ∃ m, M 9 = m := ⟨_, rfl⟩
  have HB1x1 := Lib.hid (show CT wr1 B1x1 67 (RB b) by rw [← hB1x1]; exact hm1.2)
  have hNB1x1 : N ≤ B1x1 := by rw [← hB1x1]; exact Nat.le_trans (by have := HB.out.size; have := HN.out; omega) hm1.1
  rw [hB1x0, hB1x1] at hn1x01
  rw [hB1x0, hB1x1]
  clear hm0 hB1x0 hm1 hB1x1
  replace HB := Lib.hid (HB.out.trans (hbr1.mono (show N ≤ _ by have := HB.out.size; have := HN.out; omega)))
  clear hbr1
  go_upto_region 4 with fail
  refine wp_region_seq 2 ?_
  simp only [List.take_succ_cons, List.take_zero, List.drop_succ_cons, List.drop_zero]
  refine upW_val (by rfl) (by rfl) (by rfl) (fun K hK => quiet_load_ct _ _ rfl B1x1 rfl 67 (RB b) 32 (RB_rw HLB.out) _ HB1x1.out Tryd.underlying67 rfl (by kernel_rfl) (hK _ ?_))
  simp only [Act.put, List.setIfInBounds_toArray, List.set]
  refine upW_call (by rfl) (by rfl) (.bool true) _ rfl (by simp) (fun p => ?_) ?_
  · go_big_quiet_op
    exact ⟨_, fun q => Calls.ext_of (HGD.out q.x), rfl⟩
  simp only [Act.put, List.setIfInBounds_toArray, List.set]
  refine upW_nil (fun wr2 hbr2 => ?_)
  replace HB1x0 := Lib.hid (HB1x0.out.ext hbr2)
  replace HB1x1 := Lib.hid (HB1x1.out.ext hbr2)
  replace HB := Lib.hid (HB.out.trans (hbr2.mono (show N ≤ _ by have := HB.out.size; have := HN.out; omega)))
  clear hbr2
  go_upto_region 6 with fail
  obtain ⟨wq, hwq⟩ : ∃ wq, wr2 = wq := ⟨_, rfl⟩
  rw [hwq] at HB1x0 HB1x1 HB ⊢
  have HM3 := Lib.hid (HM.out.below (by rw [HN.out]; exact HB.out))
  have HP3 := Lib.hid (HP.out.below (by rw [HN.out]; exact HB.out))
  have HG3 := Lib.hid (HG.out.below (by rw [HN.out]; exact HB.out))
  have HDG := Lib.hid (fun (X : World) (M : Nat) (hb : Below wq.heap.size wq X) (hc : X.heap[M]? = some (.cells #[.slice (some ⟨B1x0, 0, none⟩) 32 32, .slice (some ⟨gp, op, none⟩) 32 cp, .slice ao m.length cap] 22 (0, 0))) =>
    show Calls Tryd.prog 35 #[.slice (some ⟨M, 0, none⟩) 3 3] X fun e w' => e = .returned (.agg (RB (dgL (a ++ (pub ++ m))))) ∧ Below X.heap.size X w' by
      have h := digest_any _ _ X (bss_at hc [a, pub, m] (bss_us3 (ct_all (HB1x0.out.ext hb) HLA.out) (HP3.out.below hb) (HM3.out.below hb)) 3 rfl) (by simp [flat]; have := HLA.out; have := HLP.out; have := HML.out; omega) (by simp) (HG3.out.below hb)
      rwa [show flat [a, pub, m] = a ++ (pub ++ m) by simp [flat]] at h)
  have HLK := Lib.hid (dgL_len (a ++ (pub ++ m)))
  have HRV := Lib.hid (lookB_no (m := m) (a := a) (b := b) hgn)
  generalize dgL (a ++ (pub ++ m)) = Kk at HDG HLK HRV
  have HDF := Lib.hid (fun (X : World) => difference_no b Kk HLB.out HLK.out pub HLP.out hgn X)
  have hiS : (Tryd.prog.info? 67).map (·.size) = some (byteVals b).length := by rw [show (byteVals b).length = 32 by simp [byteVals, HLB.out]]; kernel_rfl
  have hiP : (Tryd.prog.info? 68).map (·.size) = some (byteVals pub).length := by rw [show (byteVals pub).length = 32 by simp [byteVals, HLP.out]]; kernel_rfl
  refine wp_region_held_drew (S := fun X => Below wq.heap.size wq X) (by kernel_rfl) (below_dr wq) (fun hHeld => ?_)
  generalize World.drew wq = V0 at hHeld ⊢
  refine wpAnyH_take (i := 0) (v := .agg (byteVals b).toArray) rfl (by kernel_rfl) (by kernel_rfl) (by kernel_rfl) (fun _ _ _ h => h) (yieldsIf_load_mid (by rfl) _ _ rfl B1x1 0 rfl (byteVals b) _ (fun X hX => (HB1x1.out.ext hX).range (fun j v h => by rw [Nat.zero_add]; exact h)) Tryd.underlying67 rfl hiS) hHeld ?_
  try simp only [List.getElem_toArray, List.getElem_cons_succ, List.getElem_cons_zero, Act.put, List.setIfInBounds_toArray, List.set_cons_zero, List.set_cons_succ]
  refine wpAnyH_take (i := 1) (v := .slice (some ⟨B1x0, 0, none⟩) 32 32) rfl (by kernel_rfl) (by kernel_rfl) (by kernel_rfl) (fun _ _ _ h => h) (.inl ⟨by rfl, fun _ _ => by kernel_rfl⟩) hHeld ?_
  try simp only [List.getElem_toArray, List.getElem_cons_succ, List.getElem_cons_zero, Act.put, List.setIfInBounds_toArray, List.set_cons_zero, List.set_cons_succ]
  refine wpAnyH_take (i := 2) (v := .slice (some ⟨gp, op, none⟩) 32 cp) rfl (by kernel_rfl) (by kernel_rfl) (by kernel_rfl) (fun _ _ _ h => h) (.inl ⟨by rfl, fun _ _ => by kernel_rfl⟩) hHeld ?_
  try simp only [List.getElem_toArray, List.getElem_cons_succ, List.getElem_cons_zero, Act.put, List.setIfInBounds_toArray, List.set_cons_zero, List.set_cons_succ]
  refine wpAnyH_take (i := 3) (v := .slice ao m.length cap) rfl (by kernel_rfl) (by kernel_rfl) (by kernel_rfl) (fun _ _ _ h => h) (.inl ⟨by rfl, fun _ _ => by kernel_rfl⟩) hHeld ?_
  try simp only [List.getElem_toArray, List.getElem_cons_succ, List.getElem_cons_zero, Act.put, List.setIfInBounds_toArray, List.set_cons_zero, List.set_cons_succ]
  refine wpAnyH_take (i := 6) (v := .slice (some ⟨gp, op, none⟩) 32 cp) rfl (by kernel_rfl) (by kernel_rfl) (by kernel_rfl) (fun _ _ _ h => h) (.inl ⟨by rfl, fun _ _ => by kernel_rfl⟩) hHeld ?_
  try simp only [List.getElem_toArray, List.getElem_cons_succ, List.getElem_cons_zero, Act.put, List.setIfInBounds_toArray, List.set_cons_zero, List.set_cons_succ]
  refine wpAnyH_take (i := 7) (v := .pointer (some ⟨gp, op, none⟩)) rfl (by kernel_rfl) (by kernel_rfl) (by kernel_rfl) (fun _ _ _ h => h) (.inl ⟨by rfl, fun _ _ => by kernel_rfl⟩) hHeld ?_
  try simp only [List.getElem_toArray, List.getElem_cons_succ, List.getElem_cons_zero, Act.put, List.setIfInBounds_toArray, List.set_cons_zero, List.set_cons_succ]
  refine wpAnyH_take (i := 8) (v := .agg (byteVals pub).toArray) rfl (by kernel_rfl) (by kernel_rfl) (by kernel_rfl) (fun _ _ _ h => h) (yieldsIf_load_mid (by rfl) _ _ rfl gp op rfl (byteVals pub) _ (fun X hX => (bys_range (o := 0) (pre := []) (mid := pub) (post := []) (HP3.out.below hX) (by rw [List.append_nil]; rfl) rfl)) Tryd.underlying68 rfl hiP) hHeld ?_
  try simp only [List.getElem_toArray, List.getElem_cons_succ, List.getElem_cons_zero, Act.put, List.setIfInBounds_toArray, List.set_cons_zero, List.set_cons_succ]
  refine wpAnyH_ready (rs := [4, 13]) (by kernel_rfl) (by simp) ?_
  refine AllReadyH.cons (i := 4) rfl (fun K hK => ?_) ?_
  · obtain ⟨M, hM⟩ : ∃ k, V0.heap.size = k := ⟨_, rfl⟩
    go_simp
    have hb1 : Below V0.heap.size V0 ((V0.alloc (.cells #[.slice (some ⟨B1x0, 0, none⟩) 32 32, .slice (some ⟨gp, op, none⟩) 32 cp, .slice ao m.length cap] 22))) := ((below_al (Below.refl _ V0) _))
    have hNM : CT ((V0.alloc (.cells #[.slice (some ⟨B1x0, 0, none⟩) 32 32, .slice (some ⟨gp, op, none⟩) 32 cp, .slice ao m.length cap] 22))) M 22 #[.slice (some ⟨B1x0, 0, none⟩) 32 32, .slice (some ⟨gp, op, none⟩) 32 cp, .slice ao m.length cap] := by rw [← hM]; exact Go.heap_alloc_new _ _
    have hleM : wq.heap.size ≤ M := by rw [← hM]; exact hHeld.size
    try rw [hM]
    generalize ((V0.alloc (.cells #[.slice (some ⟨B1x0, 0, none⟩) 32 32, .slice (some ⟨gp, op, none⟩) 32 cp, .slice ao m.length cap] 22))) = V1 at hb1 hNM ⊢
    clear hM
    refine hK.out _ _ (hHeld.trans (hb1.mono hHeld.size)) (fun hHeld2 => ?_)
    clear hb1 hHeld hK K
    have hHeld := hHeld2
    clear hHeld2
    try simp only [List.getElem_toArray, List.getElem_cons_succ, List.getElem_cons_zero, Act.put, List.setIfInBounds_toArray, List.set_cons_zero, List.set_cons_succ]
    refine wpAnyH_ready (rs := [5, 13]) (by kernel_rfl) (by simp) ?_
    refine AllReadyH.cons (i := 5) rfl (fun K hK => ?_) ?_
    · go_simp
      refine (HDG.out V1 M hHeld hNM).mono ?_
      rintro e V2 ⟨rfl, hb2⟩
      go_wp2_with fail
      refine hK.out _ _ (hHeld.trans (hb2.mono hHeld.size)) (fun hHeld2 => ?_)
      replace hNM := hNM.ext hb2
      clear hb2 hHeld hK K
      have hHeld := hHeld2
      clear hHeld2
      try simp only [List.getElem_toArray, List.getElem_cons_succ, List.getElem_cons_zero, Act.put, List.setIfInBounds_toArray, List.set_cons_zero, List.set_cons_succ]
      refine wpAnyH_ready (rs := [9, 13]) (by kernel_rfl) (by simp) ?_
      refine AllReadyH.cons (i := 9) rfl (fun K hK => ?_) ?_
      · go_simp
        refine (HDF.out V2).mono ?_
        rintro e V3 ⟨rfl, hb3⟩
        go_wp2_with fail
        refine hK.out _ _ (hHeld.trans (hb3.mono hHeld.size)) (fun hHeld2 => ?_)
        replace hNM := hNM.ext hb3
        clear hb3 hHeld hK K
        have hHeld := hHeld2
        clear hHeld2
        try simp only [List.getElem_toArray, List.getElem_cons_succ, List.getElem_cons_zero, Act.put, List.setIfInBounds_toArray, List.set_cons_zero, List.set_cons_succ]
        refine wpAnyH_take (i := 10) (v := .tuple #[.agg (PB 0), .bool false]) rfl (by kernel_rfl) (by kernel_rfl) (by kernel_rfl) (fun _ _ _ h => h) (.inl ⟨by rfl, fun _ _ => by kernel_rfl⟩) hHeld ?_
        try simp only [List.getElem_toArray, List.getElem_cons_succ, List.getElem_cons_zero, Act.put, List.setIfInBounds_toArray, List.set_cons_zero, List.set_cons_succ]
        refine wpAnyH_take (i := 11) (v := .agg (PB 0)) rfl (by kernel_rfl) (by kernel_rfl) (by kernel_rfl) (fun _ _ _ h => h) (.inl ⟨by rfl, fun _ _ => by kernel_rfl⟩) hHeld ?_
        try simp only [List.getElem_toArray, List.getElem_cons_succ, List.getElem_cons_zero, Act.put, List.setIfInBounds_toArray, List.set_cons_zero, List.set_cons_succ]
        refine wpAnyH_take (i := 12) (v := .bool false) rfl (by kernel_rfl) (by kernel_rfl) (by kernel_rfl) (fun _ _ _ h => h) (.inl ⟨by rfl, fun _ _ => by kernel_rfl⟩) hHeld ?_
        try simp only [List.getElem_toArray, List.getElem_cons_succ, List.getElem_cons_zero, Act.put, List.setIfInBounds_toArray, List.set_cons_zero, List.set_cons_succ]
        refine wpAnyH_ready (rs := [13]) (by kernel_rfl) (by simp) ?_
        refine AllReadyH.cons (i := 13) rfl (fun K hK => ?_) ?_
        · obtain ⟨C, hC⟩ : ∃ k, V3.heap.size = k := ⟨_, rfl⟩
          rw [if_pos (by rfl)]
          unfold Oper.wp
          rw [alloc_run _ _ zPt _ _ rfl V3, Oper.upon_value]
          have hb4 : Below V3.heap.size V3 ((V3.alloc (.cells (PB 0) 68))) := ((below_al (Below.refl _ V3) _))
          have hNC : CT ((V3.alloc (.cells (PB 0) 68))) C 68 (PB 0) := by rw [← hC]; exact Go.heap_alloc_new _ _
          have hleC : wq.heap.size ≤ C := by rw [← hC]; exact hHeld.size
          try rw [hC]
          generalize ((V3.alloc (.cells (PB 0) 68))) = V4 at hb4 hNC ⊢
          have hltMC : M < C := by rw [← hC]; exact hNM.lt
          clear hC
          refine hK.out _ _ (hHeld.trans (hb4.mono hHeld.size)) (fun hHeld2 => ?_)
          replace hNM := hNM.ext hb4
          clear hb4 hHeld hK K
          have hHeld := hHeld2
          clear hHeld2
          try simp only [List.getElem_toArray, List.getElem_cons_succ, List.getElem_cons_zero, Act.put, List.setIfInBounds_toArray, List.set_cons_zero, List.set_cons_succ]
          refine wpAnyH_ready (rs := [14]) (by kernel_rfl) (by simp) ?_
          refine AllReadyH.cons (i := 14) rfl (fun K hK => ?_) ?_
          · refine step_store_row (by rfl) _ _ _ rfl C (PB 0) rfl rfl 68 _ hNC ((PB_rw 0).info (by kernel_rfl)) ((PB_rw 0).same (PB_rw 0)) (PB_rw 0).one ?_
            have hb5 : Below wq.heap.size wq (V4.setRow C (PB 0)) := Below.setRow hHeld hleC _
            replace hNC : CT (V4.setRow C (PB 0)) C 68 (PB 0) := setRow_heap _ _ _ _ _ _ hNC
            replace hNM : CT (V4.setRow C (PB 0)) M _ _ := hNM.other (setRow_other _ _ _ _ (by omega))
            refine hK.out _ _ hb5 (fun hHeld2 => ?_)
            clear hHeld hK K
            generalize V4.setRow C (PB 0) = V5 at hb5 hHeld2 hNM hNC ⊢
            have hHeld := hHeld2
            clear hHeld2 hb5
            try simp only [List.getElem_toArray, List.getElem_cons_succ, List.getElem_cons_zero, Act.put, List.setIfInBounds_toArray, List.set_cons_zero, List.set_cons_succ]
            refine wpAnyH_ready (rs := [15]) (by kernel_rfl) (by simp) ?_
            refine AllReadyH.cons (i := 15) rfl (fun K hK => ?_) ?_
            · go_simp
              refine hK.out _ _ hHeld (fun _ => ?_)
              clear hK K
              try simp only [List.getElem_toArray, List.getElem_cons_succ, List.getElem_cons_zero, Act.put, List.setIfInBounds_toArray, List.set_cons_zero, List.set_cons_succ]
              refine wpAnyH_done (by kernel_rfl) ?_ _
              obtain ⟨vq, hvq⟩ : ∃ vq, V5 = vq := ⟨_, rfl⟩
              rw [hvq] at hHeld hNC ⊢
              have HC := Lib.hid hNC
              have HBF := Lib.hid (HB1x0.out.ext hHeld)
              replace HB := Lib.hid (HB.out.trans (hHeld.mono (show N ≤ wq.heap.size by have := HB.out.size; have := HN.out; omega)))
              clear hvq hHeld hNC hNM hleC hleM
              go_wp2
              go_ret
              exact ⟨by (rw [HRV.out] <;> rfl), by rw [HN.out]; exact HB.out⟩
            exact AllReadyH.nil
          exact AllReadyH.nil
        exact AllReadyH.nil
      refine AllReadyH.cons (i := 13) rfl (fun K hK => ?_) ?_
      · obtain ⟨C, hC⟩ : ∃ k, V2.heap.size = k := ⟨_, rfl⟩
        rw [if_pos (by rfl)]
        unfold Oper.wp
        rw [alloc_run _ _ zPt _ _ rfl V2, Oper.upon_value]
        have hb3 : Below V2.heap.size V2 ((V2.alloc (.cells (PB 0) 68))) := ((below_al (Below.refl _ V2) _))
        have hNC : CT ((V2.alloc (.cells (PB 0) 68))) C 68 (PB 0) := by rw [← hC]; exact Go.heap_alloc_new _ _
        have hleC : wq.heap.size ≤ C := by rw [← hC]; exact hHeld.size
        try rw [hC]
        generalize ((V2.alloc (.cells (PB 0) 68))) = V3 at hb3 hNC ⊢
        have hltMC : M < C := by rw [← hC]; exact hNM.lt
        clear hC
        refine hK.out _ _ (hHeld.trans (hb3.mono hHeld.size)) (fun hHeld2 => ?_)
        replace hNM := hNM.ext hb3
        clear hb3 hHeld hK K
        have hHeld := hHeld2
        clear hHeld2
        try simp only [List.getElem_toArray, List.getElem_cons_succ, List.getElem_cons_zero, Act.put, List.setIfInBounds_toArray, List.set_cons_zero, List.set_cons_succ]
        refine wpAnyH_ready (rs := [9]) (by kernel_rfl) (by simp) ?_
        refine AllReadyH.cons (i := 9) rfl (fun K hK => ?_) ?_
        · go_simp
          refine (HDF.out V3).mono ?_
          rintro e V4 ⟨rfl, hb4⟩
          go_wp2_with fail
          refine hK.out _ _ (hHeld.trans (hb4.mono hHeld.size)) (fun hHeld2 => ?_)
          replace hNM := hNM.ext hb4
          replace hNC := hNC.ext hb4
          clear hb4 hHeld hK K
          have hHeld := hHeld2
          clear hHeld2
          try simp only [List.getElem_toArray, List.getElem_cons_succ, List.getElem_cons_zero, Act.put, List.setIfInBounds_toArray, List.set_cons_zero, List.set_cons_succ]
          refine wpAnyH_take (i := 10) (v := .tuple #[.agg (PB 0), .bool false]) rfl (by kernel_rfl) (by kernel_rfl) (by kernel_rfl) (fun _ _ _ h => h) (.inl ⟨by rfl, fun _ _ => by kernel_rfl⟩) hHeld ?_
          try simp only [List.getElem_toArray, List.getElem_cons_succ, List.getElem_cons_zero, Act.put, List.setIfInBounds_toArray, List.set_cons_zero, List.set_cons_succ]
          refine wpAnyH_take (i := 11) (v := .agg (PB 0)) rfl (by kernel_rfl) (by kernel_rfl) (by kernel_rfl) (fun _ _ _ h => h) (.inl ⟨by rfl, fun _ _ => by kernel_rfl⟩) hHeld ?_
          try simp only [List.getElem_toArray, List.getElem_cons_succ, List.getElem_cons_zero, Act.put, List.setIfInBounds_toArray, List.set_cons_zero, List.set_cons_succ]
          refine wpAnyH_take (i := 12) (v := .bool false) rfl (by kernel_rfl) (by kernel_rfl) (by kernel_rfl) (fun _ _ _ h => h) (.inl ⟨by rfl, fun _ _ => by kernel_rfl⟩) hHeld ?_
          try simp only [List.getElem_toArray, List.getElem_cons_succ, List.getElem_cons_zero, Act.put, List.setIfInBounds_toArray, List.set_cons_zero, List.set_cons_succ]
          refine wpAnyH_ready (rs := [14]) (by kernel_rfl) (by simp) ?_
          refine AllReadyH.cons (i := 14) rfl (fun K hK => ?_) ?_
          · refine step_store_row (by rfl) _ _ _ rfl C (PB 0) rfl rfl 68 _ hNC ((PB_rw 0).info (by kernel_rfl)) ((PB_rw 0).same (PB_rw 0)) (PB_rw 0).one ?_
            have hb5 : Below wq.heap.size wq (V4.setRow C (PB 0)) := Below.setRow hHeld hleC _
            replace hNC : CT (V4.setRow C (PB 0)) C 68 (PB 0) := setRow_heap _ _ _ _ _ _ hNC
            replace hNM : CT (V4.setRow C (PB 0)) M _ _ := hNM.other (setRow_other _ _ _ _ (by omega))
            refine hK.out _ _ hb5 (fun hHeld2 => ?_)
            clear hHeld hK K
            generalize V4.setRow C (PB 0) = V5 at hb5 hHeld2 hNM hNC ⊢
            have hHeld := hHeld2
            clear hHeld2 hb5
            try simp only [List.getElem_toArray, List.getElem_cons_succ, List.getElem_cons_zero, Act.put, List.setIfInBounds_toArray, List.set_cons_zero, List.set_cons_succ]
            refine wpAnyH_ready (rs := [15]) (by kernel_rfl) (by simp) ?_
            refine AllReadyH.cons (i := 15) rfl (fun K hK => ?_) ?_
            · go_simp
              refine hK.out _ _ hHeld (fun _ => ?_)
              clear hK K
              try simp only [List.getElem_toArray, List.getElem_cons_succ, List.getElem_cons_zero, Act.put, List.setIfInBounds_toArray, List.set_cons_zero, List.set_cons_succ]
              refine wpAnyH_done (by kernel_rfl) ?_ _
              obtain ⟨vq, hvq⟩ : ∃ vq, V5 = vq := ⟨_, rfl⟩
              rw [hvq] at hHeld hNC ⊢
              have HC := Lib.hid hNC
              have HBF := Lib.hid (HB1x0.out.ext hHeld)
              replace HB := Lib.hid (HB.out.trans (hHeld.mono (show N ≤ wq.heap.size by have := HB.out.size; have := HN.out; omega)))
              clear hvq hHeld hNC hNM hleC hleM
              go_wp2
              go_ret
              exact ⟨by (rw [HRV.out] <;> rfl), by rw [HN.out]; exact HB.out⟩
            exact AllReadyH.nil
          exact AllReadyH.nil
        exact AllReadyH.nil
      exact AllReadyH.nil
    refine AllReadyH.cons (i := 13) rfl (fun K hK => ?_) ?_
    · obtain ⟨C, hC⟩ : ∃ k, V1.heap.size = k := ⟨_, rfl⟩
      rw [if_pos (by rfl)]
      unfold Oper.wp
      rw [alloc_run _ _ zPt _ _ rfl V1, Oper.upon_value]
      have hb2 : Below V1.heap.size V1 ((V1.alloc (.cells (PB 0) 68))) := ((below_al (Below.refl _ V1) _))
      have hNC : CT ((V1.alloc (.cells (PB 0) 68))) C 68 (PB 0) := by rw [← hC]; exact Go.heap_alloc_new _ _
      have hleC : wq.heap.size ≤ C := by rw [← hC]; exact hHeld.size
      try rw [hC]
      generalize ((V1.alloc (.cells (PB 0) 68))) = V2 at hb2 hNC ⊢
      have hltMC : M < C := by rw [← hC]; exact hNM.lt
      clear hC
      refine hK.out _ _ (hHeld.trans (hb2.mono hHeld.size)) (fun hHeld2 => ?_)
      replace hNM := hNM.ext hb2
      clear hb2 hHeld hK K
      have hHeld := hHeld2
      clear hHeld2
      try simp only [List.getElem_toArray, List.getElem_cons_succ, List.getElem_cons_zero, Act.put, List.setIfInBounds_toArray, List.set_cons_zero, List.set_cons_succ]
      refine wpAnyH_ready (rs := [5]) (by kernel_rfl) (by simp) ?_
      refine AllReadyH.cons (i := 5) rfl (fun K hK => ?_) ?_
      · go_simp
        refine (HDG.out V2 M hHeld hNM).mono ?_
        rintro e V3 ⟨rfl, hb3⟩
        go_wp2_with fail
        refine hK.out _ _ (hHeld.trans (hb3.mono hHeld.size)) (fun hHeld2 => ?_)
        replace hNM := hNM.ext hb3
        replace hNC := hNC.ext hb3
        clear hb3 hHeld hK K
        have hHeld := hHeld2
        clear hHeld2
        try simp only [List.getElem_toArray, List.getElem_cons_succ, List.getElem_cons_zero, Act.put, List.setIfInBounds_toArray, List.set_cons_zero, List.set_cons_succ]
        refine wpAnyH_ready (rs := [9]) (by kernel_rfl) (by simp) ?_
        refine AllReadyH.cons (i := 9) rfl (fun K hK => ?_) ?_
        · go_simp
          refine (HDF.out V3).mono ?_
          rintro e V4 ⟨rfl, hb4⟩
          go_wp2_with fail
          refine hK.out _ _ (hHeld.trans (hb4.mono hHeld.size)) (fun hHeld2 => ?_)
          replace hNM := hNM.ext hb4
          replace hNC := hNC.ext hb4
          clear hb4 hHeld hK K
          have hHeld := hHeld2
          clear hHeld2
          try simp only [List.getElem_toArray, List.getElem_cons_succ, List.getElem_cons_zero, Act.put, List.setIfInBounds_toArray, List.set_cons_zero, List.set_cons_succ]
          refine wpAnyH_take (i := 10) (v := .tuple #[.agg (PB 0), .bool false]) rfl (by kernel_rfl) (by kernel_rfl) (by kernel_rfl) (fun _ _ _ h => h) (.inl ⟨by rfl, fun _ _ => by kernel_rfl⟩) hHeld ?_
          try simp only [List.getElem_toArray, List.getElem_cons_succ, List.getElem_cons_zero, Act.put, List.setIfInBounds_toArray, List.set_cons_zero, List.set_cons_succ]
          refine wpAnyH_take (i := 11) (v := .agg (PB 0)) rfl (by kernel_rfl) (by kernel_rfl) (by kernel_rfl) (fun _ _ _ h => h) (.inl ⟨by rfl, fun _ _ => by kernel_rfl⟩) hHeld ?_
          try simp only [List.getElem_toArray, List.getElem_cons_succ, List.getElem_cons_zero, Act.put, List.setIfInBounds_toArray, List.set_cons_zero, List.set_cons_succ]
          refine wpAnyH_take (i := 12) (v := .bool false) rfl (by kernel_rfl) (by kernel_rfl) (by kernel_rfl) (fun _ _ _ h => h) (.inl ⟨by rfl, fun _ _ => by kernel_rfl⟩) hHeld ?_
          try simp only [List.getElem_toArray, List.getElem_cons_succ, List.getElem_cons_zero, Act.put, List.setIfInBounds_toArray, List.set_cons_zero, List.set_cons_succ]
          refine wpAnyH_ready (rs := [14]) (by kernel_rfl) (by simp) ?_
          refine AllReadyH.cons (i := 14) rfl (fun K hK => ?_) ?_
          · refine step_store_row (by rfl) _ _ _ rfl C (PB 0) rfl rfl 68 _ hNC ((PB_rw 0).info (by kernel_rfl)) ((PB_rw 0).same (PB_rw 0)) (PB_rw 0).one ?_
            have hb5 : Below wq.heap.size wq (V4.setRow C (PB 0)) := Below.setRow hHeld hleC _
            replace hNC : CT (V4.setRow C (PB 0)) C 68 (PB 0) := setRow_heap _ _ _ _ _ _ hNC
            replace hNM : CT (V4.setRow C (PB 0)) M _ _ := hNM.other (setRow_other _ _ _ _ (by omega))
            refine hK.out _ _ hb5 (fun hHeld2 => ?_)
            clear hHeld hK K
            generalize V4.setRow C (PB 0) = V5 at hb5 hHeld2 hNM hNC ⊢
            have hHeld := hHeld2
            clear hHeld2 hb5
            try simp only [List.getElem_toArray, List.getElem_cons_succ, List.getElem_cons_zero, Act.put, List.setIfInBounds_toArray, List.set_cons_zero, List.set_cons_succ]
            refine wpAnyH_ready (rs := [15]) (by kernel_rfl) (by simp) ?_
            refine AllReadyH.cons (i := 15) rfl (fun K hK => ?_) ?_
            · go_simp
              refine hK.out _ _ hHeld (fun _ => ?_)
              clear hK K
              try simp only [List.getElem_toArray, List.getElem_cons_succ, List.getElem_cons_zero, Act.put, List.setIfInBounds_toArray, List.set_cons_zero, List.set_cons_succ]
              refine wpAnyH_done (by kernel_rfl) ?_ _
              obtain ⟨vq, hvq⟩ : ∃ vq, V5 = vq := ⟨_, rfl⟩
              rw [hvq] at hHeld hNC ⊢
              have HC := Lib.hid hNC
              have HBF := Lib.hid (HB1x0.out.ext hHeld)
              replace HB := Lib.hid (HB.out.trans (hHeld.mono (show N ≤ wq.heap.size by have := HB.out.size; have := HN.out; omega)))
              clear hvq hHeld hNC hNM hleC hleM
              go_wp2
              go_ret
              exact ⟨by (rw [HRV.out] <;> rfl), by rw [HN.out]; exact HB.out⟩
            exact AllReadyH.nil
          exact AllReadyH.nil
        exact AllReadyH.nil
      exact AllReadyH.nil
    exact AllReadyH.nil
  refine AllReadyH.cons (i := 13) rfl (fun K hK => ?_) ?_
  · obtain ⟨C, hC⟩ : ∃ k, V0.heap.size = k := ⟨_, rfl⟩
    rw [if_pos (by rfl)]
    unfold Oper.wp
    rw [alloc_run _ _ zPt _ _ rfl V0, Oper.upon_value]
    have hb1 : Below V0.heap.size V0 ((V0.alloc (.cells (PB 0) 68))) := ((below_al (Below.refl _ V0) _))
    have hNC : CT ((V0.alloc (.cells (PB 0) 68))) C 68 (PB 0) := by rw [← hC]; exact Go.heap_alloc_new _ _
    have hleC : wq.heap.size ≤ C := by rw [← hC]; exact hHeld.size
    try rw [hC]
    generalize ((V0.alloc (.cells (PB 0) 68))) = V1 at hb1 hNC ⊢
    clear hC
    refine hK.out _ _ (hHeld.trans (hb1.mono hHeld.size)) (fun hHeld2 => ?_)
    clear hb1 hHeld hK K
    have hHeld := hHeld2
    clear hHeld2
    try simp only [List.getElem_toArray, List.getElem_cons_succ, List.getElem_cons_zero, Act.put, List.setIfInBounds_toArray, List.set_cons_zero, List.set_cons_succ]
    refine wpAnyH_ready (rs := [4]) (by kernel_rfl) (by simp) ?_
    refine AllReadyH.cons (i := 4) rfl (fun K hK => ?_) ?_
    · obtain ⟨M, hM⟩ : ∃ k, V1.heap.size = k := ⟨_, rfl⟩
      go_simp
      have hb2 : Below V1.heap.size V1 ((V1.alloc (.cells #[.slice (some ⟨B1x0, 0, none⟩) 32 32, .slice (some ⟨gp, op, none⟩) 32 cp, .slice ao m.length cap] 22))) := ((below_al (Below.refl _ V1) _))
      have hNM : CT ((V1.alloc (.cells #[.slice (some ⟨B1x0, 0, none⟩) 32 32, .slice (some ⟨gp, op, none⟩) 32 cp, .slice ao m.length cap] 22))) M 22 #[.slice (some ⟨B1x0, 0, none⟩) 32 32, .slice (some ⟨gp, op, none⟩) 32 cp, .slice ao m.length cap] := by rw [← hM]; exact Go.heap_alloc_new _ _
      have hleM : wq.heap.size ≤ M := by rw [← hM]; exact hHeld.size
      try rw [hM]
      generalize ((V1.alloc (.cells #[.slice (some ⟨B1x0, 0, none⟩) 32 32, .slice (some ⟨gp, op, none⟩) 32 cp, .slice ao m.length cap] 22))) = V2 at hb2 hNM ⊢
      have hltCM : C < M := by rw [← hM]; exact hNC.lt
      clear hM
      refine hK.out _ _ (hHeld.trans (hb2.mono hHeld.size)) (fun hHeld2 => ?_)
      replace hNC := hNC.ext hb2
      clear hb2 hHeld hK K
      have hHeld := hHeld2
      clear hHeld2
      try simp only [List.getElem_toArray, List.getElem_cons_succ, List.getElem_cons_zero, Act.put, List.setIfInBounds_toArray, List.set_cons_zero, List.set_cons_succ]
      refine wpAnyH_ready (rs := [5]) (by kernel_rfl) (by simp) ?_
      refine AllReadyH.cons (i := 5) rfl (fun K hK => ?_) ?_
      · go_simp
        refine (HDG.out V2 M hHeld hNM).mono ?_
        rintro e V3 ⟨rfl, hb3⟩
        go_wp2_with fail
        refine hK.out _ _ (hHeld.trans (hb3.mono hHeld.size)) (fun hHeld2 => ?_)
        replace hNC := hNC.ext hb3
        replace hNM := hNM.ext hb3
        clear hb3 hHeld hK K
        have hHeld := hHeld2
        clear hHeld2
        try simp only [List.getElem_toArray, List.getElem_cons_succ, List.getElem_cons_zero, Act.put, List.setIfInBounds_toArray, List.set_cons_zero, List.set_cons_succ]
        refine wpAnyH_ready (rs := [9]) (by kernel_rfl) (by simp) ?_
        refine AllReadyH.cons (i := 9) rfl (fun K hK => ?_) ?_
        · go_simp
          refine (HDF.out V3).mono ?_
          rintro e V4 ⟨rfl, hb4⟩
          go_wp2_with fail
          refine hK.out _ _ (hHeld.trans (hb4.mono hHeld.size)) (fun hHeld2 => ?_)
          replace hNC := hNC.ext hb4
          replace hNM := hNM.ext hb4
          clear hb4 hHeld hK K
          have hHeld := hHeld2
          clear hHeld2
          try simp only [List.getElem_toArray, List.getElem_cons_succ, List.getElem_cons_zero, Act.put, List.setIfInBounds_toArray, List.set_cons_zero, List.set_cons_succ]
          refine wpAnyH_take (i := 10) (v := .tuple #[.agg (PB 0), .bool false]) rfl (by kernel_rfl) (by kernel_rfl) (by kernel_rfl) (fun _ _ _ h => h) (.inl ⟨by rfl, fun _ _ => by kernel_rfl⟩) hHeld ?_
          try simp only [List.getElem_toArray, List.getElem_cons_succ, List.getElem_cons_zero, Act.put, List.setIfInBounds_toArray, List.set_cons_zero, List.set_cons_succ]
          refine wpAnyH_take (i := 11) (v := .agg (PB 0)) rfl (by kernel_rfl) (by kernel_rfl) (by kernel_rfl) (fun _ _ _ h => h) (.inl ⟨by rfl, fun _ _ => by kernel_rfl⟩) hHeld ?_
          try simp only [List.getElem_toArray, List.getElem_cons_succ, List.getElem_cons_zero, Act.put, List.setIfInBounds_toArray, List.set_cons_zero, List.set_cons_succ]
          refine wpAnyH_take (i := 12) (v := .bool false) rfl (by kernel_rfl) (by kernel_rfl) (by kernel_rfl) (fun _ _ _ h => h) (.inl ⟨by rfl, fun _ _ => by kernel_rfl⟩) hHeld ?_
          try simp only [List.getElem_toArray, List.getElem_cons_succ, List.getElem_cons_zero, Act.put, List.setIfInBounds_toArray, List.set_cons_zero, List.set_cons_succ]
          refine wpAnyH_ready (rs := [14]) (by kernel_rfl) (by simp) ?_
          refine AllReadyH.cons (i := 14) rfl (fun K hK => ?_) ?_
          · refine step_store_row (by rfl) _ _ _ rfl C (PB 0) rfl rfl 68 _ hNC ((PB_rw 0).info (by kernel_rfl)) ((PB_rw 0).same (PB_rw 0)) (PB_rw 0).one ?_
            have hb5 : Below wq.heap.size wq (V4.setRow C (PB 0)) := Below.setRow hHeld hleC _
            replace hNC : CT (V4.setRow C (PB 0)) C 68 (PB 0) := setRow_heap _ _ _ _ _ _ hNC
            replace hNM : CT (V4.setRow C (PB 0)) M _ _ := hNM.other (setRow_other _ _ _ _ (by omega))
            refine hK.out _ _ hb5 (fun hHeld2 => ?_)
            clear hHeld hK K
            generalize V4.setRow C (PB 0) = V5 at hb5 hHeld2 hNC hNM ⊢
            have hHeld := hHeld2
            clear hHeld2 hb5
            try simp only [List.getElem_toArray, List.getElem_cons_succ, List.getElem_cons_zero, Act.put, List.setIfInBounds_toArray, List.set_cons_zero, List.set_cons_succ]
            refine wpAnyH_ready (rs := [15]) (by kernel_rfl) (by simp) ?_
            refine AllReadyH.cons (i := 15) rfl (fun K hK => ?_) ?_
            · go_simp
              refine hK.out _ _ hHeld (fun _ => ?_)
              clear hK K
              try simp only [List.getElem_toArray, List.getElem_cons_succ, List.getElem_cons_zero, Act.put, List.setIfInBounds_toArray, List.set_cons_zero, List.set_cons_succ]
              refine wpAnyH_done (by kernel_rfl) ?_ _
              obtain ⟨vq, hvq⟩ : ∃ vq, V5 = vq := ⟨_, rfl⟩
              rw [hvq] at hHeld hNC ⊢
              have HC := Lib.hid hNC
              have HBF := Lib.hid (HB1x0.out.ext hHeld)
              replace HB := Lib.hid (HB.out.trans (hHeld.mono (show N ≤ wq.heap.size by have := HB.out.size; have := HN.out; omega)))
              clear hvq hHeld hNC hNM hleC hleM
              go_wp2
              go_ret
              exact ⟨by (rw [HRV.out] <;> rfl), by rw [HN.out]; exact HB.out⟩
            exact AllReadyH.nil
          exact AllReadyH.nil
        exact AllReadyH.nil
      exact AllReadyH.nil
    exact AllReadyH.nil
  exact AllReadyH.nil
/-- Other lengths. -/
theorem Verify_len (pv : Value) (pub : List UInt8) (mv : Value) (sv : Value) (sig : List UInt8) (w : World) (hpub : Bys w pv pub) (hsig : Bys w sv sig) (h : ¬ (pub.length = 32 ∧ sig.length = 64)) :
    Calls Tryd.prog 17 #[pv, mv, sv] w fun e w' => e = .returned (.bool false) ∧ Below w.heap.size w w' := by
  obtain ⟨ao, cap, rfl⟩ := hpub.slice
  obtain ⟨aq, cas, rfl⟩ := hsig.slice
  clear hpub hsig
  by_cases hp : pub.length = 32
  · have hp' : (pub.length : Int) = 32 := by omega
    have hs' : ¬ (sig.length : Int) = 64 := by omega
    go_enter Tryd.func17, Tryd.ntmps17
    go_wp2
    go_ret
    exact ⟨rfl, Below.refl _ _⟩
  · have hp' : ¬ (pub.length : Int) = 32 := by omega
    go_enter Tryd.func17, Tryd.ntmps17
    go_wp2
    go_ret
    exact ⟨rfl, Below.refl _ _⟩
theorem Verify_any (pv : Value) (pub : List UInt8) (mv : Value) (m : List UInt8) (sv : Value) (sig : List UInt8) (w : World) (hpub : Bys w pv pub) (hm : Bys w mv m) (hsig : Bys w sv sig) (hml : m.length ≤ 10000) (hG : Gl w) :
    Calls Tryd.prog 17 #[pv, mv, sv] w fun e w' => e = .returned (.bool (lookB pub m sig)) ∧ Below w.heap.size w w' := by
  by_cases hl : pub.length = 32 ∧ sig.length = 64
  · have ha : (sig.take 32).length = 32 := by rw [List.length_take]; omega
    have hb : (sig.drop 32).length = 32 := by rw [List.length_drop]; omega
    obtain ⟨a, b, rfl, ha, hb⟩ : ∃ a b, sig = a ++ b ∧ a.length = 32 ∧ b.length = 32 := ⟨_, _, (List.take_append_drop 32 sig).symm, ha, hb⟩
    by_cases hgd : le b < 7237005577332262213973186563042994240857116359379907606001950938285454250989
    · by_cases hp : ∃ p : Pt, pN p = le pub
      · obtain ⟨p, hp⟩ := hp
        exact Verify_ok pv pub mv m sv a b w hpub hm hsig hl.1 ha hb hml hG hgd p hp (fun p q h => pN_inj h)
      · exact Verify_none pv pub mv m sv a b w hpub hm hsig hl.1 ha hb hml hG hgd (fun p h => hp ⟨p, h⟩)
    · have : lookB pub m (a ++ b) = false := by
        unfold lookB
        rw [if_neg (fun h => hgd (by
          have h3 := h.2.2
          rwa [show (a ++ b).drop 32 = b by rw [← ha, List.drop_left]] at h3))]
      rw [this]
      exact Verify_big pv pub mv m sv a b w hpub hm hsig hl.1 ha hb hml hG hgd
  · have : lookB pub m sig = false := by
      unfold lookB
      rw [if_neg (fun h => hl ⟨h.1, h.2.1⟩)]
    rw [this]
    exact Verify_len pv pub mv sv sig w hpub hsig hl
end Go.Proofs.YtlpchgoaoglhcaaDoor
