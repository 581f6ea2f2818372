/-
  SumLengths: noughts of any number up to 300 have the sums that the document says: at each place of a block's end.
  Conditions: the two tables hold what the program's text lays there (tied by the card).
-/
import Derived.Test.YtfjkinmmidmjaaaDoorShZ256
import Derived.Test.YtfjkinmmidmjaaaDoorShO
import Derived.Test.YtfjkinmmidmjaaaDoorShL
namespace Go.Proofs.YtfjkinmmidmjaaaDoor
open Go.ChangeShapes Go.WideShapes Go.ChangeAt Go.RowKit

theorem wpList_valG {P : Program} {ops : Array Oper} {rest : List Oper} {o : Oper} {a : Act} {w w1 : World} {Q : Exit → Act → World → Prop} {v : Value} (hw : Region.wanted o (yielded ops a.tmps) = true) (hr : (execOp a.eval o).run P w = .ok (.value v) w1) (h : wpList P ops Q rest (a.put o.dst v) w1) : wpList P ops Q (o :: rest) a w := by
  show if Region.wanted o (yielded ops a.tmps) then o.wp P a w (wpList P ops Q rest) Q ∨ (o.asks P a w ∧ LetsOut Q) else wpList P ops Q rest (a.put o.dst undef) w
  rw [if_pos hw]
  left
  unfold Oper.wp
  rw [hr, Oper.upon_value]
  exact h
theorem run_eqSameL (o : Oper) (ax : Act) (x y : Operand) (t : TypeId) (n : Nat) (ho : o.op = .binOp .eql t x y t) (hu : Tryd.prog.underlying t = some (.array n 5)) (hg : Tryd.prog.eqGuardType Tryd.prog.depth t = false) (l : List UInt8) (hl : l.length = n) (hx : ax.eval x = .agg (byteVals l).toArray) (hy : ax.eval y = .agg (byteVals l).toArray) (w : World) :
    (execOp ax.eval o).run Tryd.prog w = .ok (.value (.bool true)) w := by
  unfold execOp
  simp only [ho, hx, hy]
  have h : (Op.equal t (.agg (byteVals l).toArray) (.agg (byteVals l).toArray)).run Tryd.prog w = .ok true w := eq_same t n hu l hl w
  simp [go_sem, binOp, hg, h]
def fillL (c : UInt8) (k m : Nat) : List UInt8 := (List.range k).map (fun _ => c) ++ List.replicate m 0
theorem fillL_len (c : UInt8) (k m : Nat) : (fillL c k m).length = k + m := by simp [fillL]
theorem fillL_set (c : UInt8) (k m : Nat) : (fillL c k (m + 1)).set k c = fillL c (k + 1) m := fill_set (fun _ => c) 0 k m
theorem br_bys {w : World} {g m : Nat} {l : List UInt8} (h : BR w g l) (hl : l.length = m) (hm : m ≤ 100000) : Bys w (.slice (some ⟨g, 0, none⟩) m m) l := by
  subst hl
  exact ⟨_, _, rfl, ⟨Nat.le_refl _, by unfold maxLen; omega, fun h => by cases h⟩, .inr ⟨g, 0, rfl, (Array.getElem?_eq_some_iff.1 (show w.heap[g]? = _ from h)).1, fun i hi => by
    have := (h.cells hi).1
    rw [Nat.zero_add, this]
    simp [List.getD_eq_getElem?_getD, List.getElem?_eq_getElem hi]⟩⟩
theorem bsetL {w : World} {g q : Nat} {O : List UInt8} (h : BR w g O) (z : UInt8) : BR (w.setCell ⟨g, q, none⟩ (.int .u8 (z.toNat : Int))) g (O.set q z) := h.set z
set_option maxRecDepth 100000 in
set_option maxHeartbeats 4000000 in
theorem shlengths_nat (n : Int) (c : UInt8) (m : Nat) (w : World) (u : Nat) (hu : IntKind.u64.wrap n = (u : Int)) (hul : u < 18446744073709551616) (hm : u % 301 = m) (hml : m ≤ 300) (hG : Gl w) :
    Calls Tryd.prog 4 #[.int .i64 n, .int .u8 (c.toNat : Int)] w fun e w' => e = .returned (.bool true) ∧ Below w.heap.size w w' := by
  have HG := Lib.hid hG
  have hmm : (u : Int) % 301 = (m : Int) := by omega
  have hmt : (u : Int).tmod 301 = (m : Int) := by rw [Int.tmod_eq_emod_of_nonneg (by omega)]; exact hmm
  have hm64 : wrap64 (m : Int) = (m : Int) := by first | (unfold wrap64; omega) | (show IntKind.i64.wrap (m : Int) = m; rw [IntKind.wrap_i64]; omega)
  have hm300 : m ≤ 300 := hml
  have hmi : (m : Int) % 18446744073709551616 = (m : Int) := by omega
  have hmw : IntKind.i64.wrap (m : Int) = (m : Int) := by rw [IntKind.wrap_i64]; omega
  have hmk := fun w => make_run m (m : Int) rfl (by omega) w
  clear hG hm hml hul
  go_enter Tryd.func4, Tryd.ntmps4
  go_wp2_with fail
  refine (awake6_true _ HG.out).mono ?_
  rintro e w1 ⟨rfl, hb1⟩
  have HB1 := Lib.hid hb1
  have HG1 := Lib.hid (HG.out.below hb1)
  clear hb1 HG
  go_wp2_with fail
  generalize hW2 : World.alloc _ _ = W2
  obtain ⟨g, hg⟩ : ∃ x, w1.heap.size = x := ⟨_, rfl⟩
  have HRG := Lib.hid (show BR W2 g (fillL c 0 m) by subst hW2; rw [← hg]; exact Go.heap_alloc_new _ _)
  have HB2 := Lib.hid (show Below g w1 W2 by subst hW2; rw [← hg]; exact (Below.refl _ w1).alloc (Nat.le_refl _) _)
  have HG0 := Lib.hid hg
  rw [hg]
  clear hW2 hg hmk hmm hmt hm64 hmi hmw hu
  go_loopw [6] (fun iv wr => ∃ (k r : Nat), iv = .int .i64 k ∧ k + r = m ∧ BR wr g (fillL c k r) ∧ Below g w1 wr) (fun i _ => m - (intOf i).toNat)
  case atStart => exact ⟨0, m, rfl, by omega, HRG.out, HB2.out⟩
  case round =>
    obtain ⟨k, r, rfl, hk, hr1, hbel⟩ := hrel
    clear HRG HB2
    have HRG := Lib.hid hr1
    have HB2 := Lib.hid hbel
    clear hr1 hbel
    cases r with
    | succ r =>
      have hlt' : (k : Int) < (m : Int) := by omega
      have hk0 : (0 : Int) ≤ (k : Int) := by omega
      obtain ⟨c1, f1⟩ := HRG.out.cells (q := k) (by rw [fillL_len]; omega)
      generalize (fillL c k (r + 1)).getD k 0 = oo at c1
      have HO := Lib.hid (fillL_set c k r)
      go_wp2_with fail
      go_roundw
      case rel => exact ⟨k + 1, r, rfl, by omega, by rw [← HO.out]; exact bsetL HRG.out c, HB2.out.setCell (p := ⟨g, k, none⟩) (Nat.le_refl _) _⟩
      case measure => simp [intOf]; omega
    | zero =>
      obtain rfl : k = m := by omega
      have hlt' : ¬ (k : Int) < (k : Int) := by omega
      have HLN := Lib.hid (show (fillL c k 0).length = k from fillL_len c k 0)
      have HY := Lib.hid (br_bys HRG.out HLN.out (by omega))
      generalize fillL c k 0 = L at HLN HY
      have HLE := Lib.hid (show L.length ≤ 300 by rw [HLN.out]; exact hm300)
      have HGW := Lib.hid (HG1.out.below (show Below w1.heap.size w1 wr by rw [HG0.out]; exact HB2.out))
      have HBW := Lib.hid (show Below w.heap.size w wr from bchain HB1.out (show Below w1.heap.size w1 wr by rw [HG0.out]; exact HB2.out))
      clear HRG HB2 HG1 HB1
      go_wp2_with fail
      generalize hW3 : World.alloc _ _ = W3
      obtain ⟨hr3, hb3⟩ : Bss W3.heap.size W3 (.slice (some ⟨wr.heap.size, 0, none⟩) 1 1) [L] ∧ Below wr.heap.size wr W3 := by subst hW3; exact ⟨bss_one HY.out, (Below.refl _ wr).alloc (Nat.le_refl _) _⟩
      have HB3 := Lib.hid (bchain HBW.out hb3)
      have HG3 := Lib.hid (HGW.out.below hb3)
      have HY3 := Lib.hid (HY.out.below hb3)
      have HR3 := Lib.hid hr3
      clear hW3 hb3 hr3 HBW HGW HY hlt'
      refine (sum256_any _ _ W3 HR3.out (by rw [flat_one]; have := HLE.out; omega) (by simp) HG3.out).mono ?_
      rintro e w4 ⟨rfl, hb4⟩
      rw [flat_one]
      have HB4 := Lib.hid (bchain HB3.out hb4)
      have HG4 := Lib.hid (HG3.out.below hb4)
      have HY4 := Lib.hid (HY3.out.below hb4)
      have HQ := Lib.hid (fun v (h : Bys w4 v L) => rsum256R_any v L w4 (by have := HLE.out; omega) h)
      generalize hS1 : sum256 L = S1 at *
      have HS1 := Lib.hid (show S1.length = 32 by rw [← hS1]; exact sum256_len _)
      clear hb4 hS1 HB3 HG3 HY3 HR3
      go_wp2_with fail
      refine (HQ.out _ HY4.out).mono ?_
      rintro e w5 ⟨rfl, hb5⟩
      have HB5 := Lib.hid (bchain HB4.out hb5)
      have HG5 := Lib.hid (HG4.out.below hb5)
      have HY5 := Lib.hid (HY4.out.below hb5)
      clear hb5 HB4 HG4 HY4 HQ
      go_wp2_with (refine wpList_valG (by rfl) (run_eqSameL _ _ _ _ 24 32 rfl Tryd.underlying24 (by kernel_rfl) S1 HS1.out rfl rfl _) ?_)
      generalize hW6 : World.alloc _ _ = W6
      obtain ⟨hr6, hb6⟩ : Bss W6.heap.size W6 (.slice (some ⟨w5.heap.size, 0, none⟩) 1 1) [L] ∧ Below w5.heap.size w5 W6 := by subst hW6; exact ⟨bss_one HY5.out, (Below.refl _ w5).alloc (Nat.le_refl _) _⟩
      have HB6 := Lib.hid (bchain HB5.out hb6)
      have HG6 := Lib.hid (HG5.out.below hb6)
      have HY6 := Lib.hid (HY5.out.below hb6)
      have HR6 := Lib.hid hr6
      clear hW6 hb6 hr6 HB5 HG5 HY5
      refine (sum512_any _ _ W6 HR6.out (by rw [flat_one]; have := HLE.out; omega) (by simp) HG6.out).mono ?_
      rintro e w7 ⟨rfl, hb7⟩
      rw [flat_one]
      have HB7 := Lib.hid (bchain HB6.out hb7)
      have HY7 := Lib.hid (HY6.out.below hb7)
      have HQ := Lib.hid (fun v (h : Bys w7 v L) => rsum512_any v L w7 (by have := HLE.out; omega) h)
      generalize hS2 : sum512 L = S2 at *
      have HS2 := Lib.hid (show S2.length = 64 by rw [← hS2]; exact sum512_len _)
      clear hb7 hS2 HB6 HG6 HY6 HR6
      go_wp2_with fail
      refine (HQ.out _ HY7.out).mono ?_
      rintro e w8 ⟨rfl, hb8⟩
      have HB8 := Lib.hid (bchain HB7.out hb8)
      clear hb8 HB7 HY7 HQ
      go_wp2_with (refine wpList_valG (by rfl) (run_eqSameL _ _ _ _ 26 64 rfl Tryd.underlying26 (by kernel_rfl) S2 HS2.out rfl rfl _) ?_)
      go_ret
      exact ⟨rfl, HB8.out⟩
theorem shlengths_true (n : Int) (c : Int) (w : World) (_hn : (Lit.int .i64 n).wf = true) (hc : (Lit.int .u8 c).wf = true) (hG : Gl w) :
    Calls Tryd.prog 4 #[.int .i64 n, .int .u8 c] w fun e w' => e = .returned (.bool true) ∧ Below w.heap.size w w' := by
  simp [Lit.wf, IntKind.min, IntKind.max, IntKind.signed, IntKind.bits] at hc
  obtain ⟨b, rfl⟩ : ∃ b : UInt8, c = (b.toNat : Int) := ⟨UInt8.ofNat c.toNat, by rw [UInt8.toNat_ofNat']; omega⟩
  have hw : 0 ≤ IntKind.u64.wrap n ∧ IntKind.u64.wrap n < 18446744073709551616 := by rw [IntKind.wrap_u64]; omega
  exact shlengths_nat n b _ w (IntKind.u64.wrap n).toNat (by omega) (by omega) rfl (by omega) hG

theorem shlengths_laid : laidOutB Tryd.prog = true := by kernel_rfl
set_option maxRecDepth 100000 in
theorem shlengths_lifted (os : Os) (started : os.Started) (H : Type) (enc : TypeId × Value → H) :
    ReturnsInHanded {} Tryd.checked os 4 .any (fun w args => (Rows.sumLengthsSpec.pre enc Tryd.prog Tryd.f4 [] false w args ∧ laidMetH Tryd.prog laid2 w) ∧ sizedMet enc Tryd.prog Tryd.f4 (OpenSpec.ofChange Rows.sumLengthsSpec) false w args)
      (Rows.sumLengthsSpec.post enc Tryd.prog Tryd.f4 false true false false) := by
  refine returnsInHanded_of_change_and (C := Tryd.checked) (X := fun w _ => laidMetH Tryd.prog laid2 w) (fun _ _ _ hh h => h.of_heap hh) door_own started (by kernel_rfl) Tryd.func4
    (ChangeSpec.witness_shaped (enc := enc) (C := Tryd.checked) (os := os) (X := fun w _ => laidMetH Tryd.prog laid2 w) false (World.doorLaid Tryd.prog doorSteps os) #[.int .i64 0, .int .u8 0] 8 rfl (World.shaped_of_RefB (by kernel_rfl) (by kernel_rfl)) (by kernel_rfl) (by kernel_rfl) (by kernel_rfl) (door_met os _)) ?_
  intro W base args ds gs before hval0 hW _ _ hL _
  have hval : ∀ (j : Nat) t v, Tryd.f4.params[j]? = some t → args[j]? = some v → Value.okWide Tryd.prog W .any base t v := hval0
  have hW' := hW
  obtain ⟨p, q, hA0, hV, rfl, hfz, hnd⟩ := hW
  have hA : DataW.TrodAll enc Tryd.prog W 0 (fun _ => true) true Tryd.f4.params.toList args.toList ds p := hA0
  rw [Tryd.params4] at hA hval
  obtain ⟨v0, vs0, d0, ds0, p0, q0, hargs, rfl, rfl, h0, r0⟩ := trodAll_cons hA
  obtain ⟨v1, vs1, d1, ds1, p1, q1, rfl, rfl, rfl, h1, r1⟩ := trodAll_cons r0
  obtain ⟨rfl, rfl, rfl⟩ := trodAll_nil r1
  obtain rfl : args = #[v0, v1] := by cases args; simp_all
  obtain ⟨rfl, rfl⟩ := trodVars_none hV
  obtain ⟨a0, rfl, rfl, rfl, w0⟩ := open_int Tryd.underlying3 (hval 0 3 v0 rfl rfl) h0
  obtain ⟨a1, rfl, rfl, rfl, w1⟩ := open_int Tryd.underlying5 (hval 1 5 v1 rfl rfl) h1
  clear hA0 hval0
  simp only [List.append_nil] at hW'
  refine (shlengths_true a0 a1 W w0 w1 (of_laid hL)).mono fun e W' ⟨he, bel⟩ => ?_
  subst he
  exact ⟨_, rfl, _, _, _, [], _, [], hW', trodAll_mk1 (shut_bool Tryd.underlying4 _), (trodAll_cons_mk (shut_int Tryd.underlying3 w0) (trodAll_cons_mk (shut_int Tryd.underlying5 w1) trodAll_mk0)), rfl, bel.frame _, fun h => by cases h⟩

theorem shlengths_holds : Rows.SumLengthsSaid :=
  OpenClaim.holds_of_wide 4 Tryd.f4 rfl rfl rfl rfl rfl rfl rfl ⟨rfl, rfl, rfl, rfl, rfl⟩ rfl rfl rfl rfl rfl (by kernel_rfl) Tryd.func4 (by kernel_rfl)
    (of_decide_eq_true (by kernel_rfl)) (by unfold Func.isWrapper; first | (rw [if_pos (by decide +kernel)]; kernel_rfl) | (rw [if_neg (by decide +kernel)]; exact ⟨rfl, rfl⟩))
    (fun os started H enc _ => shlengths_lifted os started H enc)
theorem shlengths_card : Rows.SumLengthsCardSaid :=
  Claim7.holds_tied_plain_at .later [] Rows.sumLengthsCard.laidKinds true Rows.sumLengthsCard.stood.harness false
    shlengths_holds (fun _ h => by cases h) (by kernel_rfl) (fun _ h => by cases h) sumLengths_row_tie rfl ⟨rfl, rfl⟩ (by kernel_rfl) rfl
    (fun f fn hf hfn => by
      obtain rfl : f = 4 := Option.some.inj ((show Tryd.prog.funcNamed "introit/introitlaw6.SumLengths" = some 4 by kernel_rfl).symm.trans hf) |>.symm
      obtain rfl : fn = Tryd.f4 := (Option.some.inj (Tryd.func4.symm.trans hfn)).symm
      exact ⟨by kernel_rfl, fun j t ht => by
        rw [Tryd.params4] at ht
        have hm : t ∈ [3, 5] := by simpa using Array.mem_of_getElem? ht
        have hall : ([3, 5].all fun u => !Tryd.prog.wantsStandIn u) = true := by kernel_rfl
        exact (show Tryd.prog.wantsStandIn t = false by simpa using List.all_eq_true.1 hall t hm)⟩)
    (by kernel_rfl)
#print axioms shlengths_card

end Go.Proofs.YtfjkinmmidmjaaaDoor
