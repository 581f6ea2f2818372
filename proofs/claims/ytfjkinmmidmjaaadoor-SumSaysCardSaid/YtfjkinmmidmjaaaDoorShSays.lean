/-
  SumSays: any bytes: both sums, and their digits, are as the document says.
  Conditions: the two tables hold what the program's text lays there (tied by the card).
-/
import Derived.Test.YtfjkinmmidmjaaaDoorShZ256
import Derived.Test.YtfjkinmmidmjaaaDoorShO
import Derived.Test.YtfjkinmmidmjaaaDoorShL
import Derived.Test.YtfjkinmmidmjaaaDoorUpT
namespace Go.Proofs.YtfjkinmmidmjaaaDoor
open Go.ChangeShapes Go.WideShapes Go.ChangeAt Go.RowKit

theorem quiet_ext {P : Program} {w0 : World} {f : FuncId} {args : Array Value} {p : Ext w0} {v : Value} (h : Calls P f args p.x fun e w' => e = .returned v ∧ Below p.x.heap.size p.x w') :
    Calls P f args p.x fun e w'' => e = .returned v ∧ ∃ q : Ext w0, w'' = q.x := Calls.ext_of h
theorem run_eqSame (o : Oper) (ax : Act) (x y : Operand) (t : TypeId) (n : Nat) (ho : o.op = .binOp .eql t x y t) (hu : Tryd.prog.underlying t = some (.array n 5)) (hg : Tryd.prog.eqGuardType Tryd.prog.depth t = false) (l : List UInt8) (hl : l.length = n) (hx : ax.eval x = .agg (byteVals l).toArray) (hy : ax.eval y = .agg (byteVals l).toArray) (w : World) :
    (execOp ax.eval o).run Tryd.prog w = .ok (.value (.bool true)) w := by
  unfold execOp
  simp only [ho, hx, hy]
  have h : (Op.equal t (.agg (byteVals l).toArray) (.agg (byteVals l).toArray)).run Tryd.prog w = .ok true w := eq_same t n hu l hl w
  simp [go_sem, binOp, hg, h]
set_option maxRecDepth 100000 in
set_option maxHeartbeats 4000000 in
theorem shsays_true (l : List UInt8) (v : Value) (w : World) (hl : Bys w v l) (hG : Gl w) :
    Calls Tryd.prog 3 #[v] w fun e w' => e = .returned (.bool true) ∧ Below w.heap.size w w' := by
  have HL := Lib.hid hl
  have HG := Lib.hid hG
  obtain ⟨ao, cap, rfl, _, _⟩ := hl
  clear hG
  have z24 := zd256
  have z26 := zd512
  go_enter Tryd.func3, Tryd.ntmps3
  go_wp2_with fail
  refine (awake6_true _ HG.out).mono ?_
  rintro e w1 ⟨rfl, hb1⟩
  have HB1 := Lib.hid hb1
  have HG1 := Lib.hid (HG.out.below hb1)
  have HL1 := Lib.hid (HL.out.below hb1)
  clear hb1 HG HL
  by_cases h1 : 1000 < l.length
  · have h1' : (1000 : Int) < (l.length : Int) := by omega
    go_wp2
    go_ret
    exact ⟨rfl, HB1.out⟩
  have h1' : ¬ (1000 : Int) < (l.length : Int) := by omega
  have HLE := Lib.hid (show l.length ≤ 1000 by omega)
  clear h1
  go_wp2_with fail
  clear h1'
  generalize hW2 : World.alloc _ _ = W2
  obtain ⟨hr2, hb2⟩ : Bss W2.heap.size W2 (.slice (some ⟨w1.heap.size, 0, none⟩) 1 1) [l] ∧ Below w1.heap.size w1 W2 := by subst hW2; exact ⟨bss_one HL1.out, (Below.refl _ w1).alloc (Nat.le_refl _) _⟩
  have HB2 := Lib.hid (bchain HB1.out hb2)
  have HG2 := Lib.hid (HG1.out.below hb2)
  have HL2 := Lib.hid (HL1.out.below hb2)
  have HR2' := Lib.hid hr2
  clear hW2 hb2 hr2 HB1 HG1 HL1
  refine (sum256_any _ _ W2 HR2'.out (by rw [flat_one]; have := HLE.out; omega) (by simp) HG2.out).mono ?_
  rintro e w3 ⟨rfl, hb3⟩
  rw [flat_one]
  have HRS1 := Lib.hid (fun (x : World) v (h : Bys x v l) => rsum256R_any v l x (by have := HLE.out; omega) h)
  generalize hS1 : sum256 l = S1 at *
  have HS1 := Lib.hid (show S1.length = 32 by rw [← hS1]; exact sum256_len _)
  have HB3 := Lib.hid (bchain HB2.out hb3)
  have HG3 := Lib.hid (HG2.out.below hb3)
  have HL3 := Lib.hid (HL2.out.below hb3)
  clear hb3 hS1 HB2 HG2 HL2 HR2'
  go_wp2_with fail
  generalize hW4 : World.alloc _ _ = W4
  obtain ⟨hr4, hb4⟩ : Bss W4.heap.size W4 (.slice (some ⟨w3.heap.size, 0, none⟩) 1 1) [l] ∧ Below w3.heap.size w3 W4 := by subst hW4; exact ⟨bss_one HL3.out, (Below.refl _ w3).alloc (Nat.le_refl _) _⟩
  have HB4 := Lib.hid (bchain HB3.out hb4)
  have HG4 := Lib.hid (HG3.out.below hb4)
  have HL4 := Lib.hid (HL3.out.below hb4)
  have HR4' := Lib.hid hr4
  clear hW4 hb4 hr4 HB3 HG3 HL3
  refine (sum512_any _ _ W4 HR4'.out (by rw [flat_one]; have := HLE.out; omega) (by simp) HG4.out).mono ?_
  rintro e w5 ⟨rfl, hb5⟩
  rw [flat_one]
  have HRS2 := Lib.hid (fun (x : World) v (h : Bys x v l) => rsum512_any v l x (by have := HLE.out; omega) h)
  generalize hS2 : sum512 l = S2 at *
  have HS2 := Lib.hid (show S2.length = 64 by rw [← hS2]; exact sum512_len _)
  have HB5 := Lib.hid (bchain HB4.out hb5)
  have HL5 := Lib.hid (HL4.out.below hb5)
  clear hb5 hS2 HB4 HG4 HL4 HR4'
  have HZ1 := Lib.hid (show (Tryd.prog.info? 24).map (·.size) = some (byteVals S1).toArray.size by rw [size_byteVals, HS1.out]; exact szd256)
  have HZ2 := Lib.hid (show (Tryd.prog.info? 26).map (·.size) = some (byteVals S2).toArray.size by rw [size_byteVals, HS2.out]; exact szd512)
  go_wp2_with (first
    | (refine wpList_store_row rfl 24 _ _ rfl w5.heap.size (byteVals S1).toArray rfl rfl 24 _ (alloc2_at w5 _ _).1 HZ1.out ?hold1 (byteVals_one _) ?_)
    | (refine wpList_store_row rfl 26 _ _ rfl (w5.heap.size + 1) (byteVals S2).toArray rfl rfl 26 _ ((setRow_other _ _ _ _ (by omega)).trans (alloc2_at w5 _ _).2) HZ2.out ?hold2 (byteVals_one _) (Stop.out ?_)))
  case hold1 => rw [size_byteVals, size_byteVals, zerB_len, HS1.out]
  case hold2 => rw [size_byteVals, size_byteVals, zerB_len, HS2.out]
  generalize hW6 : World.setRow _ _ _ = W6
  obtain ⟨p1, p2, p3⟩ : BT W6 w5.heap.size 24 S1 ∧ BT W6 (w5.heap.size + 1) 26 S2 ∧ Below w5.heap.size w5 W6 := by subst hW6; exact put2 w5 _ _ _ _ _ _
  have HL6 := Lib.hid (HL5.out.below p3)
  have HB6 := Lib.hid (bchain HB5.out p3)
  clear HL5 HB5
  have HL5 := HL6
  have HB5 := HB6
  clear HL6 HB6
  have HT1 := Lib.hid p1
  have HT2 := Lib.hid p2
  obtain ⟨m, hm⟩ : ∃ n, w5.heap.size = n := ⟨_, rfl⟩
  rw [hm] at HT1 HT2 ⊢
  clear hW6 p1 p2 p3 hm z24 z26
  refine ⟨?_⟩
  have HR1 := Lib.hid (fun (x : World) (h : Bys x (.slice ao l.length cap) l) => HRS1.out x _ h)
  have HR2 := Lib.hid (fun (x : World) (h : Bys x (.slice ao l.length cap) l) => HRS2.out x _ h)
  have HX1 := Lib.hid (fun (x : World) (h : Bys x (.slice ao l.length cap) l) => hexC_any _ l x (by have := HLE.out; omega) h)
  have HX2 := Lib.hid (fun (x : World) (h : Bys x (.slice ao l.length cap) l) => hexR_any _ l x (by have := HLE.out; omega) h)
  obtain ⟨X, hX⟩ : ∃ X, (⟨(hx l).toArray⟩ : ByteArray) = X := ⟨_, rfl⟩
  rw [hX] at HX1 HX2
  clear hX HRS1 HRS2
  go_wp2_with fail
  refine wp_region_upT 17 _ (by kernel_rfl) (by kernel_rfl) rfl (by kernel_rfl) (fun _ _ dst _ _ h => by cases dst <;> exact h) ?_
  simp only [List.take_succ_cons, List.take_zero, List.drop_succ_cons, List.drop_zero]
  refine upW_val (by rfl) (by rfl) (by rfl) (fun K hK => quiet_load_row _ _ rfl m rfl 24 _ (0, 0) _ HT1.out Tryd.underlying24 rfl HZ1.out (hK _ ?_))
  simp only [Act.put, List.setIfInBounds_toArray, List.set]
  refine upW_val (by rfl) (by rfl) (by rfl) ?_
  intro K hK
  go_big_quiet_op
  refine hK _ ?_
  refine upW_call (by rfl) (by rfl) (.agg (byteVals S1).toArray) _ rfl (by simp) (fun p => ?_) ?_
  · go_big_quiet_op
    exact ⟨_, fun q => Calls.ext_of (HR1.out q.x (HL5.out.below (p.h.trans (q.h.mono p.h.size)))), rfl⟩
  simp only [Act.put, List.setIfInBounds_toArray, List.set]
  refine upW_late (by rfl) (.bool true) (fun w => run_eqSame _ _ _ _ 24 32 rfl Tryd.underlying24 (by kernel_rfl) S1 HS1.out rfl rfl w) ?_
  simp only [Act.put, List.setIfInBounds_toArray, List.set]
  refine upW_val (by rfl) (by rfl) (by rfl) ?_
  intro K hK
  go_big_quiet_op
  refine hK _ ?_
  refine upW_val (by rfl) (by rfl) (by rfl) (fun K hK => quiet_load_row _ _ rfl (m + 1) rfl 26 _ (0, 0) _ HT2.out Tryd.underlying26 rfl HZ2.out (hK _ ?_))
  simp only [Act.put, List.setIfInBounds_toArray, List.set]
  refine upW_val (by rfl) (by rfl) (by rfl) ?_
  intro K hK
  go_big_quiet_op
  refine hK _ ?_
  refine upW_call (by rfl) (by rfl) (.agg (byteVals S2).toArray) _ rfl (by simp) (fun p => ?_) ?_
  · go_big_quiet_op
    exact ⟨_, fun q => Calls.ext_of (HR2.out q.x (HL5.out.below (p.h.trans (q.h.mono p.h.size)))), rfl⟩
  simp only [Act.put, List.setIfInBounds_toArray, List.set]
  refine upW_late (by rfl) (.bool true) (fun w => run_eqSame _ _ _ _ 26 64 rfl Tryd.underlying26 (by kernel_rfl) S2 HS2.out rfl rfl w) ?_
  simp only [Act.put, List.setIfInBounds_toArray, List.set]
  refine upW_val (by rfl) (by rfl) (by rfl) ?_
  intro K hK
  go_big_quiet_op
  refine hK _ ?_
  refine upW_val (by rfl) (by rfl) (by rfl) ?_
  intro K hK
  go_big_quiet_op
  refine hK _ ?_
  refine upW_val (by rfl) (by rfl) (by rfl) ?_
  intro K hK
  go_big_quiet_op
  refine hK _ ?_
  refine upW_call (by rfl) (by rfl) (.string X) _ rfl (by simp) (fun p => ?_) ?_
  · go_big_quiet_op
    exact ⟨_, fun q => Calls.ext_of (HX1.out q.x (HL5.out.below (p.h.trans (q.h.mono p.h.size)))), rfl⟩
  simp only [Act.put, List.setIfInBounds_toArray, List.set]
  refine upW_val (by rfl) (by rfl) (by rfl) ?_
  intro K hK
  go_big_quiet_op
  refine hK _ ?_
  refine upW_call (by rfl) (by rfl) (.string X) _ rfl (by simp) (fun p => ?_) ?_
  · go_big_quiet_op
    exact ⟨_, fun q => Calls.ext_of (HX2.out q.x (HL5.out.below (p.h.trans (q.h.mono p.h.size)))), rfl⟩
  simp only [Act.put, List.setIfInBounds_toArray, List.set]
  refine upW_val (by rfl) (by rfl) (by rfl) ?_
  intro K hK
  go_big_quiet_op
  refine hK _ ?_
  refine upW_val (by rfl) (by rfl) (by rfl) ?_
  intro K hK
  go_big_quiet_op
  refine hK _ ?_
  refine upW_nil (fun w7 hbs => ?_)
  have HF := Lib.hid (bchain HB5.out hbs)
  clear hbs
  go_wp2
  go_ret
  exact ⟨rfl, HF.out⟩

theorem shsays_laid : laidOutB Tryd.prog = true := by kernel_rfl
set_option maxRecDepth 100000 in
theorem shsays_lifted (os : Os) (started : os.Started) (H : Type) (enc : TypeId × Value → H) :
    ReturnsInHanded {} Tryd.checked os 3 .any (fun w args => (Rows.sumSaysSpec.pre enc Tryd.prog Tryd.f3 [] false w args ∧ laidMetH Tryd.prog laid2 w) ∧ sizedMet enc Tryd.prog Tryd.f3 (OpenSpec.ofChange Rows.sumSaysSpec) false w args)
      (Rows.sumSaysSpec.post enc Tryd.prog Tryd.f3 false true false false) := by
  refine returnsInHanded_of_change_and (C := Tryd.checked) (X := fun w _ => laidMetH Tryd.prog laid2 w) (fun _ _ _ hh h => h.of_heap hh) door_own started (by kernel_rfl) Tryd.func3
    (ChangeSpec.witness_shaped (enc := enc) (C := Tryd.checked) (os := os) (X := fun w _ => laidMetH Tryd.prog laid2 w) false (World.doorLaid Tryd.prog doorSteps os) #[.slice none 0 0] 8 rfl (World.shaped_of_RefB (by kernel_rfl) (by kernel_rfl)) (by kernel_rfl) (by kernel_rfl) (by kernel_rfl) (door_met os _)) ?_
  intro W base args ds gs before hval0 hW _ _ hL _
  have hval : ∀ (j : Nat) t v, Tryd.f3.params[j]? = some t → args[j]? = some v → Value.okWide Tryd.prog W .any base t v := hval0
  have hW' := hW
  obtain ⟨p, q, hA0, hV, rfl, hfz, hnd⟩ := hW
  have hA : DataW.TrodAll enc Tryd.prog W 0 (fun _ => true) true Tryd.f3.params.toList args.toList ds p := hA0
  rw [Tryd.params3] at hA hval
  obtain ⟨v0, vs0, d0, ds0, p0, q0, hargs, rfl, rfl, h0, r0⟩ := trodAll_cons hA
  obtain ⟨rfl, rfl, rfl⟩ := trodAll_nil r0
  obtain rfl : args = #[v0] := by cases args; simp_all
  obtain ⟨rfl, rfl⟩ := trodVars_none hV
  have hlt0 : ∀ x ∈ p0, x.block < W.heap.size := fun x hx => hW'.lt x (by simp [hx])
  have hh0 := h0
  obtain ⟨l0, hv0⟩ := open_bys (hval 0 22 v0 rfl rfl) h0
  clear hA0 hval0
  simp only [List.append_nil] at hW'
  refine (shsays_true l0 v0 W hv0 (of_laid hL)).mono fun e W' ⟨he, bel⟩ => ?_
  subst he
  exact ⟨_, rfl, _, _, _, [], _, [], hW', trodAll_mk1 (shut_bool Tryd.underlying4 _), (trodAll_cons_mk (Below.trod shsays_laid (by kernel_rfl) (of_decide_eq_true (by kernel_rfl)) hh0 bel hlt0) trodAll_mk0), rfl, bel.frame _, fun h => by cases h⟩

theorem shsays_holds : Rows.SumSaysSaid :=
  OpenClaim.holds_of_wide 3 Tryd.f3 rfl rfl rfl rfl rfl rfl rfl ⟨rfl, rfl, rfl, rfl, rfl⟩ rfl rfl rfl rfl rfl (by kernel_rfl) Tryd.func3 (by kernel_rfl)
    (of_decide_eq_true (by kernel_rfl)) (by unfold Func.isWrapper; first | (rw [if_pos (by decide +kernel)]; kernel_rfl) | (rw [if_neg (by decide +kernel)]; exact ⟨rfl, rfl⟩))
    (fun os started H enc _ => shsays_lifted os started H enc)
theorem shsays_card : Rows.SumSaysCardSaid :=
  Claim7.holds_tied_plain_at .later [] Rows.sumSaysCard.laidKinds true Rows.sumSaysCard.stood.harness false
    shsays_holds (fun _ h => by cases h) (by kernel_rfl) (fun _ h => by cases h) sumSays_row_tie rfl ⟨rfl, rfl⟩ (by kernel_rfl) rfl
    (fun f fn hf hfn => by
      obtain rfl : f = 3 := Option.some.inj ((show Tryd.prog.funcNamed "introit/introitlaw6.SumSays" = some 3 by kernel_rfl).symm.trans hf) |>.symm
      obtain rfl : fn = Tryd.f3 := (Option.some.inj (Tryd.func3.symm.trans hfn)).symm
      exact ⟨by kernel_rfl, fun j t ht => by
        rw [Tryd.params3] at ht
        have hm : t ∈ [22] := by simpa using Array.mem_of_getElem? ht
        have hall : ([22].all fun u => !Tryd.prog.wantsStandIn u) = true := by kernel_rfl
        exact (show Tryd.prog.wantsStandIn t = false by simpa using List.all_eq_true.1 hall t hm)⟩)
    (by kernel_rfl)
#print axioms shsays_card

end Go.Proofs.YtfjkinmmidmjaaaDoor
