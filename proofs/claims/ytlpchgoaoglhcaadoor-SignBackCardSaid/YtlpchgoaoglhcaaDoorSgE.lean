/-
  Package sign: Sign, difference, Verify.
  Conditions: none.
-/
import Derived.Test.YtlpchgoaoglhcaaDoorSgD
namespace Go.Proofs.YtlpchgoaoglhcaaDoor
open Go.RowKit
set_option linter.unusedSimpArgs false
set_option linter.unusedVariables false
/-- A signature. -/
noncomputable def sigL (s m : List UInt8) : List UInt8 := topL (seedX s) m ++ endL (seedS s) (seedX s) (pubL s) m
theorem sigL_len (s m : List UInt8) : (sigL s m).length = 64 := by simp [sigL, topL_len, endL_len]
theorem Neg_rb (P : List UInt8) (hP : P.length = 32) (gn : ∀ p : Pt, pN p ≠ le P) (w : World) : Calls Tryd.prog 43 #[.agg (RB P)] w fun e w' => e = .returned (.tuple #[.agg (PB 0), .bool false]) ∧ Below w.heap.size w w' := by
  have := Neg_no (le P) (le_lt32 hP) gn w
  rwa [PB_le hP] at this
/-- The point whose bytes the first half of a signature must be. -/
noncomputable def wantP (S K : List UInt8) (p : Pt) : Pt := padd (ptimes (le S) cB) (ptimes (le K) (pneg p))
theorem bys_some {w : World} {v : Value} {l : List UInt8} {n : Nat} (h : Bys w v l) (hl : l.length = n) (h0 : 0 < n) : ∃ g off cap, v = .slice (some ⟨g, off, none⟩) n cap ∧ n ≤ cap ∧ cap ≤ maxLen := by
  obtain ⟨ao, cap, rfl, hc, h | ⟨g, off, rfl, _, _⟩⟩ := h
  · subst h; simp at hl; omega
  · exact ⟨g, off, cap, by rw [hl], by omega, hc.2.1⟩
theorem bys_range {w : World} {g off n cap o : Nat} {l pre mid post : List UInt8} (h : Bys w (.slice (some ⟨g, off, none⟩) n cap) l) (hl : l = pre ++ (mid ++ post)) (ho : pre.length = o) : w.rangeAt g (off + o) (byteVals mid) := fun j v hv => by
  obtain ⟨ao, cap', hv', hc, h0 | ⟨g', off', rfl, h2, h3⟩⟩ := h
  · subst h0
    have : mid = [] := by
      have := congrArg List.length hl
      simp only [List.length_nil, List.length_append] at this
      exact List.eq_nil_of_length_eq_zero (by omega)
    subst this
    simp [byteVals] at hv
  · simp only [Value.slice.injEq, Option.some.injEq, Addr.mk.injEq] at hv'
    obtain ⟨⟨rfl, rfl, -⟩, -, -⟩ := hv'
    have hj : j < mid.length := by
      obtain ⟨hh, _⟩ := List.getElem?_eq_some_iff.1 hv
      simpa [byteVals] using hh
    have := h3 (o + j) (by subst hl; simp; omega)
    rw [Nat.add_assoc, this, ← hv]
    subst hl
    subst ho
    simp [byteVals, hj, List.getElem_append_right, List.getElem_append_left]
section
variable {w0 : World}
theorem quiet_load_rng {o : Oper} {a : Act} {K : Act → Prop} (ty : TypeId) (x : Operand) (ho : o.op = .load ty x) (g off : Nat) (hx : a.eval x = .pointer (some ⟨g, off, none⟩)) (l : List UInt8) (hl : l.length = 32) (d : TypeDesc) (hc : ∀ X, Below w0.heap.size w0 X → X.rangeAt g off (byteVals l))
    (hu : Tryd.prog.underlying ty = some d) (hd : d.isRow = true) (hi : (Tryd.prog.info? ty).map (·.size) = some 32) (h : K (a.put o.dst (.agg (RB l)))) :
    o.quiet Tryd.prog a (fun w' => ∃ p : Ext w0, w' = p.x) K := by
  refine ⟨_, fun w ⟨p, hp⟩ => ?_, h⟩
  subst hp
  unfold Oper.quietAt execOp
  simp only [ho, hx, Instr.loadAt, Instr.sureAddr, Sem.run_bind, Sem.run_pure, Result.andThen_ok, run_loadVar_mid p.x g off ty (byteVals l) d (hc p.x p.h) hu hd (by rw [hi]; simp [byteVals, hl]), Oper.quietUpon]
  exact ⟨trivial, rfl⟩
end
theorem run_slice_hi (o : Oper) (ax : Act) (x : Operand) (ho : o.op = .slice 22 x none (some (.const (.int .i64 32))) none) (g off cap : Nat) (hx : ax.eval x = .slice (some ⟨g, off, none⟩) 64 cap) (hc : 64 ≤ cap) (w : World) : (execOp ax.eval o).run Tryd.prog w = .ok (.value (.slice (some ⟨g, off, none⟩) 32 cap)) w := by
  have hu := Tryd.underlying22
  have h1 : (32 : Int) ≤ (cap : Int) := by omega
  have h2 : ¬ cap = 0 := by omega
  have h3 : ax.eval (.const (.int .i64 32)) = .int .i64 32 := rfl
  unfold execOp
  simp only [ho, hx, h3, Option.map_some, Option.map_none]
  simp [go_sem, hx, h3, hu, h1, h2, Instr.slice, Instr.sliceBounds, Instr.sliceBound, Addr.add]
theorem run_slice_lo (o : Oper) (ax : Act) (x : Operand) (ho : o.op = .slice 22 x (some (.const (.int .i64 32))) none none) (g off cap : Nat) (hx : ax.eval x = .slice (some ⟨g, off, none⟩) 64 cap) (hc : 64 ≤ cap) (w : World) : (execOp ax.eval o).run Tryd.prog w = .ok (.value (.slice (some ⟨g, off + 32, none⟩) 32 (cap - 32))) w := by
  have hu := Tryd.underlying22
  have h2 : ¬ cap = 32 := by omega
  have h3 : ax.eval (.const (.int .i64 32)) = .int .i64 32 := rfl
  unfold execOp
  simp only [ho, hx, h3, Option.map_some, Option.map_none]
  simp [go_sem, hx, h3, hu, h2, Instr.slice, Instr.sliceBounds, Instr.sliceBound, Addr.add]
set_option maxRecDepth 100000 in
set_option maxHeartbeats 1000000 in
theorem Sign_ok (v : Value) (s : List UInt8) (mv : Value) (m : List UInt8) (w : World) (hv : Bys w v s) (hl : s.length = 32) (hm : Bys w mv m) (hml : m.length ≤ 10000) (hG : Gl w) :
    Calls Tryd.prog 16 #[v, mv] w fun e w' => ∃ v, e = .returned (.tuple #[v, .int .i64 0]) ∧ Owns w' w.heap.size v (sigL s m) ∧ Below w.heap.size w w' := by
  obtain ⟨ao, cap, rfl⟩ := hv.slice
  rw [hl] at hv ⊢
  have HM := Lib.hid hm
  have HG := Lib.hid hG
  clear hm hG
  have HV := Lib.hid hv
  clear hv
  go_enter Tryd.func16, Tryd.ntmps16
  go_upto_region 1 with fail
  have HB := Lib.hid (Below.refl w.heap.size w)
  obtain ⟨N, hN⟩ : ∃ n, w.heap.size = n := ⟨_, rfl⟩
  rw [hN] at HB
  have HN := Lib.hid hN
  clear hN
  refine wp_region_seq 6 ?_
  simp only [List.take_succ_cons, List.take_zero, List.drop_succ_cons, List.drop_zero]
  refine upW_val (by rfl) (by rfl) (by rfl) ?_
  intro K hK
  go_big_quiet_op
  refine hK _ ?_
  refine upW_call (by rfl) (by rfl) (.tuple #[.func (.func 41) #[.agg (RB (keyL s))] #[], .bool true]) _ rfl (by simp) (fun p => ?_) ?_
  · go_big_quiet_op
    exact ⟨_, fun q => Calls.ext_of (signer_ok (.slice ao 32 cap) s q.x (HV.out.below (by rw [HN.out]; exact HB.out.trans ((p.h.trans (q.h.mono p.h.size)).mono (by have := HB.out.size; have := HN.out; omega)))) hl (HG.out.below (by rw [HN.out]; exact HB.out.trans ((p.h.trans (q.h.mono p.h.size)).mono (by have := HB.out.size; have := HN.out; omega))))), rfl⟩
  simp only [Act.put, List.setIfInBounds_toArray, List.set]
  refine upW_val (by rfl) (by rfl) (by rfl) ?_
  intro K hK
  go_big_quiet_op
  refine hK _ ?_
  refine upW_late (by rfl) (.func (.func 41) #[.agg (RB (keyL s))] #[]) (fun _ => rfl) ?_
  simp only [Act.put, List.setIfInBounds_toArray, List.set]
  refine upW_late (by rfl) (.bool true) (fun _ => rfl) ?_
  simp only [Act.put, List.setIfInBounds_toArray, List.set]
  refine upW_val (by rfl) (by rfl) (by rfl) ?_
  intro K hK
  go_big_quiet_op
  refine hK _ ?_
  refine upW_nil (fun wr1 hbr1 => ?_)
  replace HB := Lib.hid (HB.out.trans (hbr1.mono (show N ≤ _ by have := HB.out.size; have := HN.out; omega)))
  clear hbr1
  go_upto_region 4 with fail
  go_wp2_with fail
  have HMX := Lib.hid (HM.out.below (by rw [HN.out]; exact HB.out))
  have HGX := Lib.hid (HG.out.below (by rw [HN.out]; exact HB.out))
  refine (sign_any (seedS s) (seedX s) (pubL s) mv m _ (seedS_len s) (seedX_len s) (pubL_len s) HMX.out hml HGX.out).mono ?_
  rintro e W9 ⟨v, rfl, ho, hb⟩
  have HO := Lib.hid (ho.base (show w.heap.size ≤ _ by have := HN.out; have := HB.out.size; omega))
  have HB9 := Lib.hid (HB.out.trans (hb.mono (show N ≤ _ by have := HB.out.size; have := HN.out; omega)))
  clear ho hb
  go_wp2
  refine bodyPost_ret (v := .tuple #[v, .int .i64 0]) (by simp [results, Tryd.results16, go_sem]) rfl ?_
  exact ⟨v, rfl, HO.out, by rw [HN.out]; exact HB9.out⟩
set_option maxRecDepth 100000 in
set_option maxHeartbeats 1000000 in
theorem difference_ok (S kk : List UInt8) (hS : S.length = 32) (hK : kk.length = 32) (pt : Pt) (w : World) :
    Calls Tryd.prog 34 #[.agg (RB S), .agg (RB kk), .agg (PB (pN pt))] w fun e w' => e = .returned (.tuple #[.agg (PB (pN (wantP S kk pt))), .bool true]) ∧ Below w.heap.size w w' := by
  have HLS := Lib.hid hS
  have HLK := Lib.hid hK
  clear hS hK
  have hz0 := zSc
  have hz1 := zPt
  go_enter Tryd.func34, Tryd.ntmps34
  go_upto_region 1 with fail
  generalize hW1 : World.alloc _ _ = W1
  obtain ⟨N, hN⟩ : ∃ n, w.heap.size = n := ⟨_, rfl⟩
  have HX0 := Lib.hid (show CT W1 N 67 (RB S) by subst hW1; rw [← hN]; exact (allocs4_at w _ _ _ _).1)
  have HX1 := Lib.hid (show CT W1 (N + 1) 67 (RB kk) by subst hW1; rw [← hN]; exact (allocs4_at w _ _ _ _).2.1)
  have HX2 := Lib.hid (show CT W1 (N + 1 + 1) 68 (PB (pN pt)) by subst hW1; rw [← hN]; exact (allocs4_at w _ _ _ _).2.2.1)
  have HX3 := Lib.hid (show CT W1 (N + 1 + 1 + 1) 68 (PB 0) by subst hW1; rw [← hN]; exact (allocs4_at w _ _ _ _).2.2.2)
  have HB := Lib.hid (show Below N w W1 by subst hW1; rw [← hN]; exact allocs4_below w _ _ _ _)
  have HN := Lib.hid hN
  rw [hN]
  clear hW1 hN
  refine wp_region_seq 5 ?_
  simp only [List.take_succ_cons, List.take_zero, List.drop_succ_cons, List.drop_zero]
  refine upW_val (by rfl) (by rfl) (by rfl) (fun K hK => quiet_load_ct _ _ rfl (N + 1 + 1) rfl 68 (PB (pN pt)) 32 (PB_rw (pN pt)) _ HX2.out Tryd.underlying68 rfl (by kernel_rfl) (hK _ ?_))
  simp only [Act.put, List.setIfInBounds_toArray, List.set]
  refine upW_call (by rfl) (by rfl) (.tuple #[.agg (PB (pN (pneg pt))), .bool true]) _ rfl (by simp) (fun p => ?_) ?_
  · go_big_quiet_op
    exact ⟨_, fun q => Calls.ext_of ((fun w => Neg_ok pt w) q.x), rfl⟩
  simp only [Act.put, List.setIfInBounds_toArray, List.set]
  refine upW_val (by rfl) (by rfl) (by rfl) ?_
  intro K hK
  go_big_quiet_op
  refine hK _ ?_
  refine upW_late (by rfl) (.agg (PB (pN (pneg pt)))) (fun _ => rfl) ?_
  simp only [Act.put, List.setIfInBounds_toArray, List.set]
  refine upW_late (by rfl) (.bool true) (fun _ => rfl) ?_
  simp only [Act.put, List.setIfInBounds_toArray, List.set]
  refine upW_nil (fun wr1 hbr1 => ?_)
  replace HX0 := Lib.hid (HX0.out.ext hbr1)
  replace HX1 := Lib.hid (HX1.out.ext hbr1)
  replace HX2 := Lib.hid (HX2.out.ext hbr1)
  replace HX3 := Lib.hid (HX3.out.ext hbr1)
  replace HB := Lib.hid (HB.out.trans (hbr1.mono (show N ≤ _ by have := HB.out.size; have := HN.out; omega)))
  clear hbr1
  refine wpList_new1 rfl 68 rfl (PB 0) zPt rfl _ _ rfl rfl (PB (pN (pneg pt))) 32 (PB_rw (pN (pneg pt))) (PB_rw 0).size (by kernel_rfl) rfl rfl (fun B2 wr2 hB2 hbr2 hCB2 => ?_)
  have HB2 := Lib.hid hCB2
  have hlB2X0 : N < B2 := by rw [← hB2]; exact HX0.out.lt
  have hlB2X1 : (N + 1) < B2 := by rw [← hB2]; exact HX1.out.lt
  have hlB2X2 : (N + 1 + 1) < B2 := by rw [← hB2]; exact HX2.out.lt
  have hlB2X3 : (N + 1 + 1 + 1) < B2 := by rw [← hB2]; exact HX3.out.lt
  have hNB2 : N ≤ B2 := by rw [← hB2]; have := HB.out.size; have := HN.out; omega
  clear hB2 hCB2
  simp only [Act.put, List.setIfInBounds_toArray, List.set]
  replace HX0 := Lib.hid (HX0.out.ext hbr2)
  replace HX1 := Lib.hid (HX1.out.ext hbr2)
  replace HX2 := Lib.hid (HX2.out.ext hbr2)
  replace HX3 := Lib.hid (HX3.out.ext hbr2)
  replace HB := Lib.hid (HB.out.trans (hbr2.mono (show N ≤ _ by have := HB.out.size; have := HN.out; omega)))
  clear hbr2
  go_upto_region 4 with fail
  refine wp_region_seq 6 ?_
  simp only [List.take_succ_cons, List.take_zero, List.drop_succ_cons, List.drop_zero]
  refine upW_val (by rfl) (by rfl) (by rfl) (fun K hK => quiet_load_ct _ _ rfl (N + 1) rfl 67 (RB kk) 32 (RB_rw HLK.out) _ HX1.out Tryd.underlying67 rfl (by kernel_rfl) (hK _ ?_))
  simp only [Act.put, List.setIfInBounds_toArray, List.set]
  refine upW_val (by rfl) (by rfl) (by rfl) (fun K hK => quiet_load_ct _ _ rfl B2 rfl 68 (PB (pN (pneg pt))) 32 (PB_rw (pN (pneg pt))) _ HB2.out Tryd.underlying68 rfl (by kernel_rfl) (hK _ ?_))
  simp only [Act.put, List.setIfInBounds_toArray, List.set]
  refine upW_call (by rfl) (by rfl) (.tuple #[.agg (PB (pN (ptimes (le kk) (pneg pt)))), .bool true]) _ rfl (by simp) (fun p => ?_) ?_
  · go_big_quiet_op
    exact ⟨_, fun q => Calls.ext_of ((fun w => Times_rb kk HLK.out (pneg pt) w) q.x), rfl⟩
  simp only [Act.put, List.setIfInBounds_toArray, List.set]
  refine upW_val (by rfl) (by rfl) (by rfl) ?_
  intro K hK
  go_big_quiet_op
  refine hK _ ?_
  refine upW_late (by rfl) (.agg (PB (pN (ptimes (le kk) (pneg pt))))) (fun _ => rfl) ?_
  simp only [Act.put, List.setIfInBounds_toArray, List.set]
  refine upW_late (by rfl) (.bool true) (fun _ => rfl) ?_
  simp only [Act.put, List.setIfInBounds_toArray, List.set]
  refine upW_nil (fun wr3 hbr3 => ?_)
  replace HX0 := Lib.hid (HX0.out.ext hbr3)
  replace HX1 := Lib.hid (HX1.out.ext hbr3)
  replace HX2 := Lib.hid (HX2.out.ext hbr3)
  replace HX3 := Lib.hid (HX3.out.ext hbr3)
  replace HB2 := Lib.hid (HB2.out.ext hbr3)
  replace HB := Lib.hid (HB.out.trans (hbr3.mono (show N ≤ _ by have := HB.out.size; have := HN.out; omega)))
  clear hbr3
  refine wpList_new1 rfl 68 rfl (PB 0) zPt rfl _ _ rfl rfl (PB (pN (ptimes (le kk) (pneg pt)))) 32 (PB_rw (pN (ptimes (le kk) (pneg pt)))) (PB_rw 0).size (by kernel_rfl) rfl rfl (fun B4 wr4 hB4 hbr4 hCB4 => ?_)
  have HB4 := Lib.hid hCB4
  have hlB4X0 : N < B4 := by rw [← hB4]; exact HX0.out.lt
  have hlB4X1 : (N + 1) < B4 := by rw [← hB4]; exact HX1.out.lt
  have hlB4X2 : (N + 1 + 1) < B4 := by rw [← hB4]; exact HX2.out.lt
  have hlB4X3 : (N + 1 + 1 + 1) < B4 := by rw [← hB4]; exact HX3.out.lt
  have hlB4B2 : B2 < B4 := by rw [← hB4]; exact HB2.out.lt
  have hNB4 : N ≤ B4 := by rw [← hB4]; have := HB.out.size; have := HN.out; omega
  clear hB4 hCB4
  simp only [Act.put, List.setIfInBounds_toArray, List.set]
  replace HX0 := Lib.hid (HX0.out.ext hbr4)
  replace HX1 := Lib.hid (HX1.out.ext hbr4)
  replace HX2 := Lib.hid (HX2.out.ext hbr4)
  replace HX3 := Lib.hid (HX3.out.ext hbr4)
  replace HB2 := Lib.hid (HB2.out.ext hbr4)
  replace HB := Lib.hid (HB.out.trans (hbr4.mono (show N ≤ _ by have := HB.out.size; have := HN.out; omega)))
  clear hbr4
  go_upto_region 5 with fail
  refine wp_region_upT 6 _ (by kernel_rfl) (by kernel_rfl) rfl (by kernel_rfl) (fun _ _ dst _ _ h => by cases dst <;> exact h) ?_
  simp only [List.take_succ_cons, List.take_zero, List.drop_succ_cons, List.drop_zero]
  refine upW_val (by rfl) (by rfl) (by rfl) (fun K hK => quiet_load_ct _ _ rfl N rfl 67 (RB S) 32 (RB_rw HLS.out) _ HX0.out Tryd.underlying67 rfl (by kernel_rfl) (hK _ ?_))
  simp only [Act.put, List.setIfInBounds_toArray, List.set]
  refine upW_call (by rfl) (by rfl) (.agg (PB (pN (ptimes (le S) cB)))) _ rfl (by simp) (fun p => ?_) ?_
  · go_big_quiet_op
    exact ⟨_, fun q => Calls.ext_of ((fun w => timesBase_any S HLS.out w) q.x), rfl⟩
  simp only [Act.put, List.setIfInBounds_toArray, List.set]
  refine upW_val (by rfl) (by rfl) (by rfl) (fun K hK => quiet_load_ct _ _ rfl B4 rfl 68 (PB (pN (ptimes (le kk) (pneg pt)))) 32 (PB_rw (pN (ptimes (le kk) (pneg pt)))) _ HB4.out Tryd.underlying68 rfl (by kernel_rfl) (hK _ ?_))
  simp only [Act.put, List.setIfInBounds_toArray, List.set]
  refine upW_call (by rfl) (by rfl) (.tuple #[.agg (PB (pN (padd (ptimes (le S) cB) (ptimes (le kk) (pneg pt))))), .bool true]) _ rfl (by simp) (fun p => ?_) ?_
  · go_big_quiet_op
    exact ⟨_, fun q => Calls.ext_of ((fun w => Add_ok (ptimes (le S) cB) (ptimes (le kk) (pneg pt)) w) q.x), rfl⟩
  simp only [Act.put, List.setIfInBounds_toArray, List.set]
  refine upW_late (by rfl) (.agg (PB (pN (padd (ptimes (le S) cB) (ptimes (le kk) (pneg pt)))))) (fun _ => rfl) ?_
  simp only [Act.put, List.setIfInBounds_toArray, List.set]
  refine upW_late (by rfl) (.bool true) (fun _ => rfl) ?_
  simp only [Act.put, List.setIfInBounds_toArray, List.set]
  refine upW_nil (fun wr5 hbr5 => ?_)
  replace HX0 := Lib.hid (HX0.out.ext hbr5)
  replace HX1 := Lib.hid (HX1.out.ext hbr5)
  replace HX2 := Lib.hid (HX2.out.ext hbr5)
  replace HX3 := Lib.hid (HX3.out.ext hbr5)
  replace HB2 := Lib.hid (HB2.out.ext hbr5)
  replace HB4 := Lib.hid (HB4.out.ext hbr5)
  replace HB := Lib.hid (HB.out.trans (hbr5.mono (show N ≤ _ by have := HB.out.size; have := HN.out; omega)))
  clear hbr5
  refine wpList_store_ct rfl 68 _ _ rfl (N + 1 + 1 + 1) (PB (pN (padd (ptimes (le S) cB) (ptimes (le kk) (pneg pt))))) rfl rfl 68 (PB 0) 32 HX3.out (by kernel_rfl) (PB_rw 0) (PB_rw (pN (padd (ptimes (le S) cB) (ptimes (le kk) (pneg pt))))) rfl (fun wr6 hSwr6 hOwr6 hWwr6 => ?_)
  replace HX3 := Lib.hid hSwr6
  replace HB := Lib.hid (hWwr6 _ _ HB.out (by omega))
  replace HX0 := Lib.hid (HX0.out.other (hOwr6 _ (by omega)))
  replace HX1 := Lib.hid (HX1.out.other (hOwr6 _ (by omega)))
  replace HX2 := Lib.hid (HX2.out.other (hOwr6 _ (by omega)))
  replace HB2 := Lib.hid (HB2.out.other (hOwr6 _ (by omega)))
  replace HB4 := Lib.hid (HB4.out.other (hOwr6 _ (by omega)))
  clear hSwr6 hOwr6 hWwr6
  go_wp2
  refine bodyPost_ret (results_ct_slot (p := 6) (q := 7) (by rfl) _ _ (N + 1 + 1 + 1) 68 (PB (pN (padd (ptimes (le S) cB) (ptimes (le kk) (pneg pt))))) 32 _ (.bool true) (by rfl) HX3.out (PB_rw (pN (padd (ptimes (le S) cB) (ptimes (le kk) (pneg pt))))) Tryd.underlying68 rfl (by kernel_rfl) rfl) rfl ⟨rfl, by rw [HN.out]; exact HB.out⟩
set_option maxRecDepth 100000 in
set_option maxHeartbeats 1000000 in
theorem difference_no (S kk : List UInt8) (hS : S.length = 32) (hK : kk.length = 32) (P : List UInt8) (hP : P.length = 32) (gn : ∀ p : Pt, pN p ≠ le P) (w : World) :
    Calls Tryd.prog 34 #[.agg (RB S), .agg (RB kk), .agg (RB P)] w fun e w' => e = .returned (.tuple #[.agg (PB 0), .bool false]) ∧ Below w.heap.size w w' := by
  have HLS := Lib.hid hS
  have HLK := Lib.hid hK
  clear hS hK
  have HLP := Lib.hid hP
  clear hP
  have hz0 := zSc
  have hz1 := zPt
  go_enter Tryd.func34, Tryd.ntmps34
  go_upto_region 1 with fail
  generalize hW1 : World.alloc _ _ = W1
  obtain ⟨N, hN⟩ : ∃ n, w.heap.size = n := ⟨_, rfl⟩
  have HX0 := Lib.hid (show CT W1 N 67 (RB S) by subst hW1; rw [← hN]; exact (allocs4_at w _ _ _ _).1)
  have HX1 := Lib.hid (show CT W1 (N + 1) 67 (RB kk) by subst hW1; rw [← hN]; exact (allocs4_at w _ _ _ _).2.1)
  have HX2 := Lib.hid (show CT W1 (N + 1 + 1) 68 (RB P) by subst hW1; rw [← hN]; exact (allocs4_at w _ _ _ _).2.2.1)
  have HX3 := Lib.hid (show CT W1 (N + 1 + 1 + 1) 68 (PB 0) by subst hW1; rw [← hN]; exact (allocs4_at w _ _ _ _).2.2.2)
  have HB := Lib.hid (show Below N w W1 by subst hW1; rw [← hN]; exact allocs4_below w _ _ _ _)
  have HN := Lib.hid hN
  rw [hN]
  clear hW1 hN
  refine wp_region_seq 5 ?_
  simp only [List.take_succ_cons, List.take_zero, List.drop_succ_cons, List.drop_zero]
  refine upW_val (by rfl) (by rfl) (by rfl) (fun K hK => quiet_load_ct _ _ rfl (N + 1 + 1) rfl 68 (RB P) 32 (RB_rw HLP.out) _ HX2.out Tryd.underlying68 rfl (by kernel_rfl) (hK _ ?_))
  simp only [Act.put, List.setIfInBounds_toArray, List.set]
  refine upW_call (by rfl) (by rfl) (.tuple #[.agg (PB 0), .bool false]) _ rfl (by simp) (fun p => ?_) ?_
  · go_big_quiet_op
    exact ⟨_, fun q => Calls.ext_of ((fun w => Neg_rb P HLP.out gn w) q.x), rfl⟩
  simp only [Act.put, List.setIfInBounds_toArray, List.set]
  refine upW_val (by rfl) (by rfl) (by rfl) ?_
  intro K hK
  go_big_quiet_op
  refine hK _ ?_
  refine upW_late (by rfl) (.agg (PB 0)) (fun _ => rfl) ?_
  simp only [Act.put, List.setIfInBounds_toArray, List.set]
  refine upW_late (by rfl) (.bool false) (fun _ => rfl) ?_
  simp only [Act.put, List.setIfInBounds_toArray, List.set]
  refine upW_nil (fun wr1 hbr1 => ?_)
  replace HX0 := Lib.hid (HX0.out.ext hbr1)
  replace HX1 := Lib.hid (HX1.out.ext hbr1)
  replace HX2 := Lib.hid (HX2.out.ext hbr1)
  replace HX3 := Lib.hid (HX3.out.ext hbr1)
  replace HB := Lib.hid (HB.out.trans (hbr1.mono (show N ≤ _ by have := HB.out.size; have := HN.out; omega)))
  clear hbr1
  refine wpList_new1 rfl 68 rfl (PB 0) zPt rfl _ _ rfl rfl (PB 0) 32 (PB_rw 0) (PB_rw 0).size (by kernel_rfl) rfl rfl (fun B2 wr2 hB2 hbr2 hCB2 => ?_)
  have HB2 := Lib.hid hCB2
  have hlB2X0 : N < B2 := by rw [← hB2]; exact HX0.out.lt
  have hlB2X1 : (N + 1) < B2 := by rw [← hB2]; exact HX1.out.lt
  have hlB2X2 : (N + 1 + 1) < B2 := by rw [← hB2]; exact HX2.out.lt
  have hlB2X3 : (N + 1 + 1 + 1) < B2 := by rw [← hB2]; exact HX3.out.lt
  have hNB2 : N ≤ B2 := by rw [← hB2]; have := HB.out.size; have := HN.out; omega
  clear hB2 hCB2
  simp only [Act.put, List.setIfInBounds_toArray, List.set]
  replace HX0 := Lib.hid (HX0.out.ext hbr2)
  replace HX1 := Lib.hid (HX1.out.ext hbr2)
  replace HX2 := Lib.hid (HX2.out.ext hbr2)
  replace HX3 := Lib.hid (HX3.out.ext hbr2)
  replace HB := Lib.hid (HB.out.trans (hbr2.mono (show N ≤ _ by have := HB.out.size; have := HN.out; omega)))
  clear hbr2
  go_upto_region 3 with fail
  refine wp_region_seq 1 ?_
  simp only [List.take_succ_cons, List.take_zero, List.drop_succ_cons, List.drop_zero]
  refine upW_late (by rfl) (.agg (PB 0)) (fun w => run_built _ _ _ _ rfl _ (by kernel_rfl) w) ?_
  simp only [Act.put, List.setIfInBounds_toArray, List.set]
  refine upW_nil (fun wr3 hbr3 => ?_)
  replace HX0 := Lib.hid (HX0.out.ext hbr3)
  replace HX1 := Lib.hid (HX1.out.ext hbr3)
  replace HX2 := Lib.hid (HX2.out.ext hbr3)
  replace HX3 := Lib.hid (HX3.out.ext hbr3)
  replace HB2 := Lib.hid (HB2.out.ext hbr3)
  replace HB := Lib.hid (HB.out.trans (hbr3.mono (show N ≤ _ by have := HB.out.size; have := HN.out; omega)))
  clear hbr3
  refine wpList_store_ct rfl 68 _ _ rfl (N + 1 + 1 + 1) (PB 0) rfl rfl 68 (PB 0) 32 HX3.out (by kernel_rfl) (PB_rw 0) (PB_rw 0) rfl (fun wr4 hSwr4 hOwr4 hWwr4 => ?_)
  replace HX3 := Lib.hid hSwr4
  replace HB := Lib.hid (hWwr4 _ _ HB.out (by omega))
  replace HX0 := Lib.hid (HX0.out.other (hOwr4 _ (by omega)))
  replace HX1 := Lib.hid (HX1.out.other (hOwr4 _ (by omega)))
  replace HX2 := Lib.hid (HX2.out.other (hOwr4 _ (by omega)))
  replace HB2 := Lib.hid (HB2.out.other (hOwr4 _ (by omega)))
  clear hSwr4 hOwr4 hWwr4
  go_wp2
  refine bodyPost_ret (results_ct_slot (p := 6) (q := 7) (by rfl) _ _ (N + 1 + 1 + 1) 68 (PB 0) 32 _ (.bool false) (by rfl) HX3.out (PB_rw 0) Tryd.underlying68 rfl (by kernel_rfl) rfl) rfl ⟨rfl, by rw [HN.out]; exact HB.out⟩
end Go.Proofs.YtlpchgoaoglhcaaDoor
