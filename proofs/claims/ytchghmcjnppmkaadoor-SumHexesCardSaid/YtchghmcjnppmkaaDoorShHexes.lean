/-
  The statement SumHexes of the stage sha: for all bytes the call answers true.
  Conditions: the two tables hold what the program's text lays there (tied by the card).
-/
import Derived.Test.YtchghmcjnppmkaaDoorShO
import Derived.Test.YtchghmcjnppmkaaDoorShL
import Derived.Deep.RegionHeld3
namespace Go.Proofs.YtchghmcjnppmkaaDoor
open Go.ChangeShapes Go.WideShapes Go.ChangeAt Go.RowKit

theorem step_append_bys {ops : Array Oper} {o : Oper} {a : Act} {K : Act → World → Prop} {Q : Exit → Act → World → Prop} {E : Prop} {w : World} (hw : Region.wanted o (yielded ops a.tmps) = true) (s x : Operand)
    (ho : o.op = .call { callee := .builtin .append, args := #[s, x], argTypes := #[23, 23] }) (base : Nat) (v : Value) (xs : List UInt8) (hs : a.eval s = v) (hown : Owns w base v xs)
    (sv : Value) (l : List UInt8) (hx : a.eval x = sv) (hsrc : Bys w sv l) (hnm : xs.length + l.length ≤ 1000000) (hbase : base ≤ w.heap.size)
    (h : ∀ v' w', Owns w' base v' (xs ++ l) → w.grownBy w' v.ownBlock → K (a.put o.dst v') w') :
    if Region.wanted o (yielded ops a.tmps) = true then Oper.wp Tryd.prog o a w K Q else E := by
  rw [if_pos hw]
  obtain ⟨i0, hi0, hz0, hz1, hz2⟩ := info_parts info_u8
  obtain ⟨ao, cap, rfl, hc, hor⟩ := hsrc
  cases ao with
  | none =>
    have h0 : cap = 0 := hc.2.2 rfl
    subst h0
    have hl : l = [] := List.eq_nil_of_length_eq_zero (by have := hc.1; omega)
    subst hl
    have hrun := run_append_owned_none (P := Tryd.prog) (w := w) base 23 o.type 5 i0 1 Tryd.underlying23 hi0 v xs.length (byteVals xs) hown
    have hk := h v w (by simpa using hown) (World.grownBy.refl w _)
    unfold Oper.wp
    simp [execOp, ho, resolve, invoke, builtin, hs, hx, hrun, Result.andThen]
    exact hk
  | some ad =>
    refine wp_append_own w s x _ ho base _ i0 _ 1 1 Tryd.underlying23 hi0 hz0 hz1 hz2 rfl (by decide) v xs.length (byteVals xs) hs hown ad l.length cap (byteVals l) hx (by simp [byteVals]) ?_ (news_one l) (by unfold maxLen; omega) (by omega) hbase (fun v' w' h2 h3 _ => h v' w' (Owns.of_append h2 rfl rfl) h3)
    intro j u hu
    rcases hor with rfl | ⟨g, off, e, hg, hcell⟩
    · simp [byteVals] at hu
    · cases e
      have hj : j < l.length := by
        obtain ⟨h, _⟩ := List.getElem?_eq_some_iff.1 hu
        simpa [byteVals] using h
      rw [Addr.add_lit, hcell j hj, ← hu]
      simp [byteVals, List.getElem?_eq_getElem hj]
theorem Below.of_grown {w w' : World} {B : Nat} {v : Value} {xs : List UInt8} (hB : B ≤ w.heap.size) (hown : Owns w B v xs) (hg : w.grownBy w' v.ownBlock) : Below B w w' := by
  refine (Below.refl B w).grown hg hB (fun k hk => ?_)
  rcases hown.2 with ⟨rfl, _⟩ | ⟨g, cap, cur, rfl, hg, _⟩
  · simp [Value.ownBlock] at hk
  · simp [Value.ownBlock] at hk; omega
theorem ba_add (a b : List UInt8) : (⟨a.toArray⟩ : ByteArray) ++ ⟨b.toArray⟩ = ⟨(a ++ b).toArray⟩ := by
  apply Go.WideShapes.bytes_inj
  rw [ByteArray.data_append, Array.toList_append]
set_option maxRecDepth 100000 in
set_option maxHeartbeats 4000000 in
theorem shexes_true (l : List UInt8) (v : Value) (r : List UInt8) (v2 : Value) (w : World) (hl : Bys w v l) (hr : Bys w v2 r) (hG : Gl w) :
    Calls Tryd.prog 7 #[v, v2] w fun e w' => e = .returned (.bool true) ∧ Below w.heap.size w w' := by
  have HL := Lib.hid hl
  have HR := Lib.hid hr
  have HG := Lib.hid hG
  obtain ⟨ao, cap, rfl, hcap, ho1⟩ := hl
  obtain ⟨ar, capr, rfl, hcapr, ho2⟩ := hr
  clear hG ho1 ho2
  go_enter Tryd.func7, Tryd.ntmps7
  go_wp2_with fail
  refine (awake6_true _ HG.out).mono ?_
  rintro e w1 ⟨rfl, hb1⟩
  have HB1 := Lib.hid hb1
  clear hb1
  by_cases h1 : 300 < l.length
  · have h1' : (300 : Int) < (l.length : Int) := by omega
    go_wp2
    go_ret
    exact ⟨rfl, HB1.out⟩
  have h1' : ¬ (300 : Int) < (l.length : Int) := by omega
  by_cases h2 : 300 < r.length
  · have h2' : (300 : Int) < (r.length : Int) := by omega
    go_wp2
    go_ret
    exact ⟨rfl, HB1.out⟩
  have h2' : ¬ (300 : Int) < (r.length : Int) := by omega
  have HL1 := Lib.hid (HL.out.below HB1.out)
  have HR1 := Lib.hid (HR.out.below HB1.out)
  clear HL HR HG hcap hcapr
  go_wp2_with fail
  have hal : l.length ≤ 300 := by omega
  have har : r.length ≤ 300 := by omega
  have HSL := Lib.hid (show (⟨(hx l).toArray⟩ : ByteArray).size = 2 * l.length by show (hx l).toArray.size = _; rw [List.size_toArray, hx_len])
  have HSR := Lib.hid (show (⟨(hx r).toArray⟩ : ByteArray).size = 2 * r.length by show (hx r).toArray.size = _; rw [List.size_toArray, hx_len])
  have HAP := Lib.hid (show (⟨(hx (l ++ r)).toArray⟩ : ByteArray) = ⟨(hx l).toArray⟩ ++ ⟨(hx r).toArray⟩ by rw [hx_app, ba_add])
  have HQ2 := Lib.hid (show ((⟨(hx l).toArray⟩ : ByteArray).toList == (⟨(hx r).toArray⟩ : ByteArray).toList) = (l == r) by
    rw [ByteArray.toList_eq, ByteArray.toList_eq]
    show (hx l == hx r) = (l == r)
    apply Bool.eq_iff_iff.2
    simp only [beq_iff_eq]
    exact ⟨hx_inj l r, fun h => by rw [h]⟩)
  have HX1 := Lib.hid (fun (x : World) (h : Below w1.heap.size w1 x) => hexC_any _ l x (by omega) (HL1.out.below h))
  have HX2 := Lib.hid (fun (x : World) (h : Below w1.heap.size w1 x) => hexC_any _ r x (by omega) (HR1.out.below h))
  have HX3 := Lib.hid (fun (x : World) (u : Value) (h : Owns x w1.heap.size u (l ++ r)) => HAP.out ▸ hexC_any u (l ++ r) x (by rw [List.length_append]; omega) h.bys)
  generalize (⟨(hx l).toArray⟩ : ByteArray) = S at HSL HQ2 HX1 HX3
  generalize (⟨(hx r).toArray⟩ : ByteArray) = R at HSR HQ2 HX2 HX3
  have hs600 : S.size ≤ 600 := by have := HSL.out; omega
  have hr600 : R.size ≤ 600 := by have := HSR.out; omega
  have hroom2 : S.size + R.size ≤ 9223372036854775807 := by omega
  have hroom3 : ¬ 9223372036854775807 < S.size + R.size := by omega
  have hroom4 : S.size + R.size ≤ maxLen := by unfold maxLen; omega
  have hroom5 : ¬ maxLen < S.size + R.size := by unfold maxLen; omega
  have hroom6 : (S ++ R).size ≤ maxLen := by rw [ByteArray.size_append]; exact hroom4
  have hroom7 : ¬ maxLen < (S ++ R).size := by rw [ByteArray.size_append]; exact hroom5
  have heqb : ((S.size : Int) == 2 * (l.length : Int)) = true := by have := HSL.out; simp; omega
  have hwl : IntKind.i64.wrap (2 * (l.length : Int)) = 2 * (l.length : Int) := by rw [IntKind.wrap_i64]; omega
  have hq2 := HQ2.out
  have HT1 := Lib.hid (fun (x : World) (h : Below w1.heap.size w1 x) => (HL1.out.below h).toStr)
  have HT2 := Lib.hid (fun (x : World) (h : Below w1.heap.size w1 x) => (HR1.out.below h).toStr)
  have hroom : ¬ (9223372036854775807 - S.size < R.size) := by have := HSL.out; have := HSR.out; omega
  have hz0 : Below w1.heap.size w1 w1.drew := (Below.refl _ w1).drew
  have hz1 : Below w1.heap.size w1 (w1.alloc (.cells #[] 5)).drew := ((Below.refl _ w1).alloc (Nat.le_refl _) _).drew
  have hz2 : Below w1.heap.size w1 w1 := Below.refl _ w1
  clear HAP HSL HSR
  go_region_held3 (fun x => (convert 23 9 (.slice ao l.length cap)).run Tryd.prog x = .ok (.string ⟨l.toArray⟩) x ∧ (convert 23 9 (.slice ar r.length capr)).run Tryd.prog x = .ok (.string ⟨r.toArray⟩) x)
    (first | with_reducible exact ⟨HT1.out _ (by with_reducible assumption), HT2.out _ (by with_reducible assumption)⟩ | go_keep) (first
    | (refine step_append_bys (by rfl) _ _ (by rfl) w1.heap.size _ [] (by rfl) (show Owns ((w1.alloc (.cells #[] 5)).drew) _ _ _ from owns_empty w1 _ (Nat.le_refl _)) _ l (by rfl) (HL1.out.below (((Below.refl _ w1).alloc (Nat.le_refl _) _).drew)) (by simp; omega) (by simp) ?_; intro v10 w10 ho10 hg10; rw [List.nil_append] at ho10; have hb10 : Below w1.heap.size w1 w10 := (((Below.refl _ w1).alloc (Nat.le_refl _) _).drew).trans (Below.of_grown (by simp) (show Owns ((w1.alloc (.cells #[] 5)).drew) _ _ _ from owns_empty w1 _ (Nat.le_refl _)) hg10); have HO10 := Lib.hid ho10; clear ho10 hg10)
    | (refine step_append_bys (by rfl) _ _ (by rfl) w1.heap.size _ l (by rfl) HO10.out _ r (by rfl) (HR1.out.below hb10) (by omega) hb10.size ?_; intro v11 w11 ho11 hg11; have hb11 : Below w1.heap.size w1 w11 := hb10.trans (Below.of_grown hb10.size HO10.out hg11); have HO11 := Lib.hid ho11; clear ho11 hg11)
    | (go_at_call_of 11 v11; refine (HX3.out _ v11 HO11.out).mono ?_; rintro e w2 ⟨rfl, hq'⟩; have hb2 : Below w1.heap.size w1 w2 := hb11.trans (hq'.mono hb11.size); clear hq')
    | (go_at_call_of 11 ao; refine (HX1.out _ hb5).mono ?_; rintro e w6 ⟨rfl, hq'⟩; have hb6 : Below w1.heap.size w1 w6 := hb5.trans (hq'.mono hb5.size); clear hq'; have ta6 := HT1.out w6 hb6; have tb6 := HT2.out w6 hb6)
    | (go_at_call_of 11 ar; refine (HX2.out _ hb6).mono ?_; rintro e w7 ⟨rfl, hq'⟩; have hb7 : Below w1.heap.size w1 w7 := hb6.trans (hq'.mono hb6.size); clear hq'; have ta7 := HT1.out w7 hb7; have tb7 := HT2.out w7 hb7)
    | (go_at_call_of 11 ao; refine (HX1.out _ hb4).mono ?_; rintro e w5 ⟨rfl, hq'⟩; have hb5 : Below w1.heap.size w1 w5 := hb4.trans (hq'.mono hb4.size); clear hq'; have ta5 := HT1.out w5 hb5; have tb5 := HT2.out w5 hb5)
    | (go_at_call_of 11 ar; refine (HX2.out _ hb3).mono ?_; rintro e w4 ⟨rfl, hq'⟩; have hb4 : Below w1.heap.size w1 w4 := hb3.trans (hq'.mono hb3.size); clear hq')
    | (go_at_call_of 11 ao; refine (HX1.out _ hb2).mono ?_; rintro e w3 ⟨rfl, hq'⟩; have hb3 : Below w1.heap.size w1 w3 := hb2.trans (hq'.mono hb2.size); clear hq'))
  all_goals
    go_wp2
    go_ret
    exact ⟨rfl, HB1.out.trans (hb7.mono HB1.out.size)⟩

theorem shexes_laid : laidOutB Tryd.prog = true := by kernel_rfl
set_option maxRecDepth 100000 in
theorem shexes_lifted (os : Os) (started : os.Started) (H : Type) (enc : TypeId × Value → H) :
    ReturnsInHanded {} Tryd.checked os 7 .any (fun w args => (Rows.sumHexesSpec.pre enc Tryd.prog Tryd.f7 [] false w args ∧ laidMetH Tryd.prog laid2 w) ∧ sizedMet enc Tryd.prog Tryd.f7 (OpenSpec.ofChange Rows.sumHexesSpec) false w args)
      (Rows.sumHexesSpec.post enc Tryd.prog Tryd.f7 false true false false) := by
  refine returnsInHanded_of_change_and (C := Tryd.checked) (X := fun w _ => laidMetH Tryd.prog laid2 w) (fun _ _ _ hh h => h.of_heap hh) door_own started (by kernel_rfl) Tryd.func7
    (ChangeSpec.witness_shaped (enc := enc) (C := Tryd.checked) (os := os) (X := fun w _ => laidMetH Tryd.prog laid2 w) false (World.doorLaid Tryd.prog doorSteps os) #[.slice none 0 0, .slice none 0 0] 8 rfl (World.shaped_of_RefB (by kernel_rfl) (by kernel_rfl)) (by kernel_rfl) (by kernel_rfl) (by kernel_rfl) (door_met os _)) ?_
  intro W base args ds gs before hval0 hW _ _ hL _
  have hval : ∀ (j : Nat) t v, Tryd.f7.params[j]? = some t → args[j]? = some v → Value.okWide Tryd.prog W .any base t v := hval0
  have hW' := hW
  obtain ⟨p, q, hA0, hV, rfl, hfz, hnd⟩ := hW
  have hA : DataW.TrodAll enc Tryd.prog W 0 (fun _ => true) true Tryd.f7.params.toList args.toList ds p := hA0
  rw [Tryd.params7] at hA hval
  obtain ⟨v0, vs0, d0, ds0, p0, q0, hargs, rfl, rfl, h0, r0⟩ := trodAll_cons hA
  obtain ⟨v1, vs1, d1, ds1, p1, q1, rfl, rfl, rfl, h1, r1⟩ := trodAll_cons r0
  obtain ⟨rfl, rfl, rfl⟩ := trodAll_nil r1
  obtain rfl : args = #[v0, v1] := by cases args; simp_all
  obtain ⟨rfl, rfl⟩ := trodVars_none hV
  have hlt0 : ∀ x ∈ p0, x.block < W.heap.size := fun x hx => hW'.lt x (by simp [hx])
  have hh0 := h0
  obtain ⟨l0, hv0⟩ := open_bys (hval 0 23 v0 rfl rfl) h0
  have hlt1 : ∀ x ∈ p1, x.block < W.heap.size := fun x hx => hW'.lt x (by simp [hx])
  have hh1 := h1
  obtain ⟨l1, hv1⟩ := open_bys (hval 1 23 v1 rfl rfl) h1
  clear hA0 hval0
  simp only [List.append_nil] at hW'
  refine (shexes_true l0 v0 l1 v1 W hv0 hv1 (of_laid hL)).mono fun e W' ⟨he, bel⟩ => ?_
  subst he
  exact ⟨_, rfl, _, _, _, [], _, [], hW', trodAll_mk1 (shut_bool Tryd.underlying4 _), (trodAll_cons_mk (Below.trod shexes_laid (by kernel_rfl) (of_decide_eq_true (by kernel_rfl)) hh0 bel hlt0) (trodAll_cons_mk (Below.trod shexes_laid (by kernel_rfl) (of_decide_eq_true (by kernel_rfl)) hh1 bel hlt1) trodAll_mk0)), rfl, bel.frame _, fun h => by cases h⟩

theorem shexes_holds : Rows.SumHexesSaid :=
  OpenClaim.holds_of_wide 7 Tryd.f7 rfl rfl rfl rfl rfl rfl rfl ⟨rfl, rfl, rfl, rfl, rfl⟩ rfl rfl rfl rfl rfl (by kernel_rfl) Tryd.func7 (by kernel_rfl)
    (of_decide_eq_true (by kernel_rfl)) (by unfold Func.isWrapper; first | (rw [if_pos (by decide +kernel)]; kernel_rfl) | (rw [if_neg (by decide +kernel)]; exact ⟨rfl, rfl⟩))
    (fun os started H enc _ => shexes_lifted os started H enc)
theorem shexes_card : Rows.SumHexesCardSaid :=
  Claim7.holds_tied_plain_at .later [] Rows.sumHexesCard.laidKinds true Rows.sumHexesCard.stood.harness false
    shexes_holds (fun _ h => by cases h) (by kernel_rfl) (fun _ h => by cases h) sumHexes_row_tie rfl ⟨rfl, rfl⟩ (by kernel_rfl) rfl
    (fun f fn hf hfn => by
      obtain rfl : f = 7 := Option.some.inj ((show Tryd.prog.funcNamed "introit/introitlaw6.SumHexes" = some 7 by kernel_rfl).symm.trans hf) |>.symm
      obtain rfl : fn = Tryd.f7 := (Option.some.inj (Tryd.func7.symm.trans hfn)).symm
      exact ⟨by kernel_rfl, fun j t ht => by
        rw [Tryd.params7] at ht
        have hm : t ∈ [23, 23] := by simpa using Array.mem_of_getElem? ht
        have hall : ([23, 23].all fun u => !Tryd.prog.wantsStandIn u) = true := by kernel_rfl
        exact (show Tryd.prog.wantsStandIn t = false by simpa using List.all_eq_true.1 hall t hm)⟩)
    (by kernel_rfl)
#print axioms shexes_card

end Go.Proofs.YtchghmcjnppmkaaDoor
