/-
  The statement BaseJoins of the stage b64: for all bytes the call answers true.
  Conditions: none.
-/
import Derived.Test.YtnbonoallcjlbaaBaO
import Derived.Laws.AppendOwnNone
namespace Go.Proofs.Ytnbonoallcjlbaa
open Go.ChangeShapes Go.WideShapes Go.ChangeAt Go.RowKit
open Go.ChangeMaps (open_string shut_string)

/-- append of bytes that are read, behind bytes of the call's own. -/
theorem wpList_append_bys {ops : Array Oper} {rest : List Oper} {o : Oper} {a : Act} {Q : Exit → Act → World → Prop} {w : World} (hgd : o.guard = none) (s x : Operand)
    (ho : o.op = .call { callee := .builtin .append, args := #[s, x], argTypes := #[24, 24] }) (base : Nat) (v : Value) (xs : List UInt8) (hs : a.eval s = v) (hown : Owns w base v xs)
    (sv : Value) (l : List UInt8) (hx : a.eval x = sv) (hsrc : Bys w sv l) (hnm : xs.length + l.length ≤ 1000000) (hbase : base ≤ w.heap.size)
    (h : ∀ v' w', Owns w' base v' (xs ++ l) → w.grownBy w' v.ownBlock → wpList Try.prog ops Q rest (a.put o.dst v') w') : wpList Try.prog ops Q (o :: rest) a w := by
  obtain ⟨i0, hi0, hz0, hz1, hz2⟩ := info_parts info_u8
  obtain ⟨ao, cap, rfl, hc, hor⟩ := hsrc
  cases ao with
  | none =>
    have h0 : cap = 0 := hc.2.2 rfl
    subst h0
    have hl : l = [] := List.eq_nil_of_length_eq_zero (by have := hc.1; omega)
    subst hl
    refine wpList_append_own_none hgd s x _ ho base _ i0 1 Try.underlying24 hi0 v xs.length (byteVals xs) hs hown hx ?_
    exact h v w (by simpa using hown) (World.grownBy.refl w _)
  | some ad =>
    refine wpList_append_own w hgd s x _ ho base _ i0 _ 1 1 Try.underlying24 hi0 hz0 hz1 hz2 rfl (by decide) v xs.length (byteVals xs) hs hown ad l.length cap (byteVals l) hx (by simp [byteVals]) ?_ (news_one l) (by unfold maxLen; omega) (by omega) hbase (fun v' w' h2 h3 _ => h v' w' (Owns.of_append h2 rfl rfl) h3)
    intro j u hu
    rcases hor with rfl | ⟨g, off, e, hg, hcell⟩
    · simp [byteVals] at hu
    · cases e
      have hj : j < l.length := by
        obtain ⟨h, _⟩ := List.getElem?_eq_some_iff.1 hu
        simpa [byteVals] using h
      rw [Addr.add_lit, hcell j hj, ← hu]
      simp [byteVals, List.getElem?_eq_getElem hj]
theorem owns_empty (w : World) (B : Nat) (hB : B ≤ w.heap.size) : Owns (w.alloc (.cells #[] 5)) B (.slice (some ⟨w.heap.size, 0, none⟩) 0 0) [] := by
  refine ⟨rfl, .inr ⟨w.heap.size, 0, #[], rfl, hB, ?_, Nat.le_refl _, by decide, rfl, rfl⟩⟩
  show (w.heap.push _)[w.heap.size]? = _
  simp
theorem bys_take {w : World} {ad : Addr} {l : List UInt8} {cap m : Nat} (h : Bys w (.slice (some ad) l.length cap) l) (hm : m ≤ l.length) : Bys w (.slice (some ad) m cap) (l.take m) := by
  obtain ⟨ao, c, e, hc, hor⟩ := h
  cases e
  have hlen : (l.take m).length = m := by rw [List.length_take]; omega
  refine ⟨some ad, cap, by rw [hlen], ⟨by omega, hc.2.1, fun h => by cases h⟩, ?_⟩
  rcases hor with rfl | ⟨g, off, e, hg, hcell⟩
  · left; simp
  · right
    refine ⟨g, off, e, hg, fun i hi => ?_⟩
    rw [hcell i (by rw [hlen] at hi; omega), List.getElem_take]
theorem Below.of_grown {w w' : World} {B : Nat} {v : Value} {xs : List UInt8} (hB : B ≤ w.heap.size) (hown : Owns w B v xs) (hg : w.grownBy w' v.ownBlock) : Below B w w' := by
  refine (Below.refl B w).grown hg hB (fun k hk => ?_)
  rcases hown.2 with ⟨rfl, _⟩ | ⟨g, cap, cur, rfl, hg, _⟩
  · simp [Value.ownBlock] at hk
  · simp [Value.ownBlock] at hk; omega
theorem ba_add (a b : List UInt8) : (⟨a.toArray⟩ : ByteArray) ++ ⟨b.toArray⟩ = ⟨(a ++ b).toArray⟩ := by
  apply Go.WideShapes.bytes_inj
  rw [ByteArray.data_append, Array.toList_append]
set_option maxRecDepth 100000 in
set_option maxHeartbeats 4000000 in
theorem bjoins_true (l : List UInt8) (v : Value) (r : List UInt8) (v2 : Value) (w : World) (hl : Bys w v l) (hr : Bys w v2 r) :
    Calls Try.prog 6 #[v, v2] w fun e w' => e = .returned (.bool true) ∧ Below w.heap.size w w' := by
  have HL := Lib.hid hl
  have HR := Lib.hid hr
  obtain ⟨ao, cap, rfl, hcap, _⟩ := hl
  obtain ⟨ar, capr, rfl, hcapr, _⟩ := hr
  go_enter Try.func6, Try.ntmps6
  go_wp2_with fail
  refine (awake5_true _).mono ?_
  rintro e w1 ⟨rfl, hb1⟩
  have HB1 := Lib.hid hb1
  clear hb1
  by_cases h1 : 300 < l.length
  · have h1' : (300 : Int) < (l.length : Int) := by omega
    go_wp2
    go_ret
    exact ⟨rfl, HB1.out⟩
  have h1' : ¬ (300 : Int) < (l.length : Int) := by omega
  by_cases h2 : 300 < r.length
  · have h2' : (300 : Int) < (r.length : Int) := by omega
    go_wp2
    go_ret
    exact ⟨rfl, HB1.out⟩
  have h2' : ¬ (300 : Int) < (r.length : Int) := by omega
  obtain ⟨m, hm⟩ : ∃ m, l.length / 3 * 3 = m := ⟨_, rfl⟩
  have hm' : (l.length : Int) / 3 * 3 = (m : Int) := by omega
  have hmc : ¬ (cap : Int) < (m : Int) := by have := hcap.1; omega
  have HL1 := Lib.hid (HL.out.below HB1.out)
  have HR1 := Lib.hid (HR.out.below HB1.out)
  have hcm : cap ≤ maxLen := hcap.2.1
  unfold maxLen at hcm
  cases ao with
  | none =>
    have h0 : cap = 0 := hcap.2.2 rfl
    subst h0
    have hl0 : l = [] := List.eq_nil_of_length_eq_zero (by have := hcap.1; omega)
    subst hl0
    obtain rfl : m = 0 := by simp at hm; omega
    obtain ⟨A, hA⟩ : ∃ A : List UInt8, A = [] := ⟨_, rfl⟩
    have HA := Lib.hid (show Bys w1 (.slice none 0 0) A by rw [hA]; exact HL1.out)
    have HA0 := Lib.hid (HA.out.below ((Below.refl _ w1).alloc (Nat.le_refl _) (.cells #[] 5)))
    have hAl : A.length ≤ 300 := by rw [hA]; decide
    have hA3 : A.length % 3 = 0 := by rw [hA]; rfl
    clear HL HR hm hcap hcapr hA h1'
    go_wp2_with (first
      | (at_builtin; refine wpList_append_bys rfl _ _ rfl w1.heap.size _ [] rfl (owns_empty w1 _ (Nat.le_refl _)) _ A rfl HA0.out (by simp; omega) (by simp) ?_))
    intro v1 w2 hown1 hgrow1
    have hb12 : Below w1.heap.size w1 w2 := ((Below.refl _ w1).alloc (Nat.le_refl _) _).trans (Below.of_grown (by simp) (owns_empty w1 _ (Nat.le_refl _)) hgrow1)
    have HB12 := Lib.hid hb12
    have HO1 := Lib.hid hown1
    clear hown1 hgrow1 hb12
    go_wp2_with (first
      | (at_builtin; refine wpList_append_bys rfl _ _ rfl w1.heap.size _ A rfl HO1.out _ r rfl (HR1.out.below HB12.out) (by omega) HB12.out.size ?_))
    intro v3 w3 hown2 hgrow2
    have hb23 : Below w1.heap.size w2 w3 := Below.of_grown HB12.out.size HO1.out hgrow2
    have HB13 := Lib.hid (HB12.out.trans hb23)
    have HO3 := Lib.hid hown2.bys
    clear hown2 hgrow2 hb23
    go_wp2_with fail
    refine (put_std v3 (A ++ r) w3 (by simp; omega) HO3.out).mono ?_
    rintro e w4 ⟨rfl, hb4⟩
    have HB4 := Lib.hid hb4
    clear hb4
    go_wp2_with fail
    refine (put_std _ A w4 (by omega) (HA.out.below (bchain HB13.out HB4.out))).mono ?_
    rintro e w5 ⟨rfl, hb5⟩
    have HB5 := Lib.hid hb5
    clear hb5
    go_wp2_with fail
    refine (put_std _ r w5 (by omega) (HR1.out.below (bchain (bchain HB13.out HB4.out) HB5.out))).mono ?_
    rintro e w6 ⟨rfl, hb6⟩
    have HB6 := Lib.hid hb6
    clear hb6
    obtain ⟨X, hX⟩ : ∃ X : ByteArray, (⟨(put false A).toArray⟩ : ByteArray) = X := ⟨_, rfl⟩
    obtain ⟨Y, hY⟩ : ∃ Y : ByteArray, (⟨(put false r).toArray⟩ : ByteArray) = Y := ⟨_, rfl⟩
    have e1 : (⟨(put false (A ++ r)).toArray⟩ : ByteArray) = X ++ Y := by rw [← hX, ← hY, ba_add, put_app false A r hA3]
    rw [hX, hY, e1]
    have hXs : X.size ≤ 1000 := by
      have : X.size = (put false A).length := by rw [← hX]; exact List.size_toArray
      rw [put_length] at this; omega
    have hYs : Y.size ≤ 1000 := by
      have : Y.size = (put false r).length := by rw [← hY]; exact List.size_toArray
      rw [put_length] at this; omega
    have hg1 : ¬ 9223372036854775807 < X.size + Y.size := by omega
    clear hX hY e1
    have H36 := Lib.hid (bchain (bchain HB4.out HB5.out) HB6.out)
    go_wp2_with fail
    refine (put_url v3 (A ++ r) w6 (by simp; omega) (HO3.out.below H36.out)).mono ?_
    rintro e w7 ⟨rfl, hb7⟩
    have HB7 := Lib.hid hb7
    clear hb7
    go_wp2_with fail
    refine (put_url _ A w7 (by omega) (HA.out.below (bchain (bchain HB13.out H36.out) HB7.out))).mono ?_
    rintro e w8 ⟨rfl, hb8⟩
    have HB8 := Lib.hid hb8
    clear hb8
    go_wp2_with fail
    refine (put_url _ r w8 (by omega) (HR1.out.below (bchain (bchain (bchain HB13.out H36.out) HB7.out) HB8.out))).mono ?_
    rintro e w9 ⟨rfl, hb9⟩
    have HB9 := Lib.hid hb9
    clear hb9
    obtain ⟨X2, hX2⟩ : ∃ X : ByteArray, (⟨(put true A).toArray⟩ : ByteArray) = X := ⟨_, rfl⟩
    obtain ⟨Y2, hY2⟩ : ∃ Y : ByteArray, (⟨(put true r).toArray⟩ : ByteArray) = Y := ⟨_, rfl⟩
    have e2 : (⟨(put true (A ++ r)).toArray⟩ : ByteArray) = X2 ++ Y2 := by rw [← hX2, ← hY2, ba_add, put_app true A r hA3]
    rw [hX2, hY2, e2]
    have hX2s : X2.size ≤ 1000 := by
      have : X2.size = (put true A).length := by rw [← hX2]; exact List.size_toArray
      rw [put_length] at this; omega
    have hY2s : Y2.size ≤ 1000 := by
      have : Y2.size = (put true r).length := by rw [← hY2]; exact List.size_toArray
      rw [put_length] at this; omega
    have hg2 : ¬ 9223372036854775807 < X2.size + Y2.size := by omega
    clear hX2 hY2 e2
    have HE := Lib.hid (bchain (bchain (bchain (bchain (bchain HB1.out HB13.out) H36.out) HB7.out) HB8.out) HB9.out)
    go_wp2
    go_ret
    exact ⟨rfl, HE.out⟩
  | some ad =>
    obtain ⟨A, hA⟩ : ∃ A : List UInt8, A = l.take m := ⟨_, rfl⟩
    have HA := Lib.hid (show Bys w1 (.slice (some ad) m cap) A by rw [hA]; exact bys_take HL1.out (by omega))
    have HA0 := Lib.hid (HA.out.below ((Below.refl _ w1).alloc (Nat.le_refl _) (.cells #[] 5)))
    have hAe : A.length = m := by rw [hA, List.length_take]; omega
    have hAl : A.length ≤ 300 := by omega
    have hA3 : A.length % 3 = 0 := by omega
    clear HL HR hm hcap hcapr hA hAe
    go_wp2_with (first
      | (at_builtin; refine wpList_append_bys rfl _ _ rfl w1.heap.size _ [] rfl (owns_empty w1 _ (Nat.le_refl _)) _ A rfl HA0.out (by simp; omega) (by simp) ?_))
    intro v1 w2 hown1 hgrow1
    have hb12 : Below w1.heap.size w1 w2 := ((Below.refl _ w1).alloc (Nat.le_refl _) _).trans (Below.of_grown (by simp) (owns_empty w1 _ (Nat.le_refl _)) hgrow1)
    have HB12 := Lib.hid hb12
    have HO1 := Lib.hid hown1
    clear hown1 hgrow1 hb12
    go_wp2_with (first
      | (at_builtin; refine wpList_append_bys rfl _ _ rfl w1.heap.size _ A rfl HO1.out _ r rfl (HR1.out.below HB12.out) (by omega) HB12.out.size ?_))
    intro v3 w3 hown2 hgrow2
    have hb23 : Below w1.heap.size w2 w3 := Below.of_grown HB12.out.size HO1.out hgrow2
    have HB13 := Lib.hid (HB12.out.trans hb23)
    have HO3 := Lib.hid hown2.bys
    clear hown2 hgrow2 hb23
    go_wp2_with fail
    refine (put_std v3 (A ++ r) w3 (by simp; omega) HO3.out).mono ?_
    rintro e w4 ⟨rfl, hb4⟩
    have HB4 := Lib.hid hb4
    clear hb4
    go_wp2_with fail
    refine (put_std _ A w4 (by omega) (HA.out.below (bchain HB13.out HB4.out))).mono ?_
    rintro e w5 ⟨rfl, hb5⟩
    have HB5 := Lib.hid hb5
    clear hb5
    go_wp2_with fail
    refine (put_std _ r w5 (by omega) (HR1.out.below (bchain (bchain HB13.out HB4.out) HB5.out))).mono ?_
    rintro e w6 ⟨rfl, hb6⟩
    have HB6 := Lib.hid hb6
    clear hb6
    obtain ⟨X, hX⟩ : ∃ X : ByteArray, (⟨(put false A).toArray⟩ : ByteArray) = X := ⟨_, rfl⟩
    obtain ⟨Y, hY⟩ : ∃ Y : ByteArray, (⟨(put false r).toArray⟩ : ByteArray) = Y := ⟨_, rfl⟩
    have e1 : (⟨(put false (A ++ r)).toArray⟩ : ByteArray) = X ++ Y := by rw [← hX, ← hY, ba_add, put_app false A r hA3]
    rw [hX, hY, e1]
    have hXs : X.size ≤ 1000 := by
      have : X.size = (put false A).length := by rw [← hX]; exact List.size_toArray
      rw [put_length] at this; omega
    have hYs : Y.size ≤ 1000 := by
      have : Y.size = (put false r).length := by rw [← hY]; exact List.size_toArray
      rw [put_length] at this; omega
    have hg1 : ¬ 9223372036854775807 < X.size + Y.size := by omega
    clear hX hY e1
    have H36 := Lib.hid (bchain (bchain HB4.out HB5.out) HB6.out)
    go_wp2_with fail
    refine (put_url v3 (A ++ r) w6 (by simp; omega) (HO3.out.below H36.out)).mono ?_
    rintro e w7 ⟨rfl, hb7⟩
    have HB7 := Lib.hid hb7
    clear hb7
    go_wp2_with fail
    refine (put_url _ A w7 (by omega) (HA.out.below (bchain (bchain HB13.out H36.out) HB7.out))).mono ?_
    rintro e w8 ⟨rfl, hb8⟩
    have HB8 := Lib.hid hb8
    clear hb8
    go_wp2_with fail
    refine (put_url _ r w8 (by omega) (HR1.out.below (bchain (bchain (bchain HB13.out H36.out) HB7.out) HB8.out))).mono ?_
    rintro e w9 ⟨rfl, hb9⟩
    have HB9 := Lib.hid hb9
    clear hb9
    obtain ⟨X2, hX2⟩ : ∃ X : ByteArray, (⟨(put true A).toArray⟩ : ByteArray) = X := ⟨_, rfl⟩
    obtain ⟨Y2, hY2⟩ : ∃ Y : ByteArray, (⟨(put true r).toArray⟩ : ByteArray) = Y := ⟨_, rfl⟩
    have e2 : (⟨(put true (A ++ r)).toArray⟩ : ByteArray) = X2 ++ Y2 := by rw [← hX2, ← hY2, ba_add, put_app true A r hA3]
    rw [hX2, hY2, e2]
    have hX2s : X2.size ≤ 1000 := by
      have : X2.size = (put true A).length := by rw [← hX2]; exact List.size_toArray
      rw [put_length] at this; omega
    have hY2s : Y2.size ≤ 1000 := by
      have : Y2.size = (put true r).length := by rw [← hY2]; exact List.size_toArray
      rw [put_length] at this; omega
    have hg2 : ¬ 9223372036854775807 < X2.size + Y2.size := by omega
    clear hX2 hY2 e2
    have HE := Lib.hid (bchain (bchain (bchain (bchain (bchain HB1.out HB13.out) H36.out) HB7.out) HB8.out) HB9.out)
    go_wp2
    go_ret
    exact ⟨rfl, HE.out⟩

theorem bjoins_own : ownKnob Try.prog.godebug = none := by kernel_rfl
theorem bjoins_laid : laidOutB Try.prog = true := by kernel_rfl

set_option maxRecDepth 100000 in
theorem bjoins_lifted (os : Os) (started : os.Started) (H : Type) (enc : TypeId × Value → H) :
    ReturnsInHanded {} Try.checked os 6 .any (Rows.baseJoinsSpec.pre6 enc Try.prog Try.f6 Rows.baseJoinsRow.domain false) (Rows.baseJoinsSpec.post enc Try.prog Try.f6 false true false false) := by
  refine returnsInHanded_of_change_sized (C := Try.checked) bjoins_own started (by kernel_rfl) Try.func6
    (ChangeSpec.witness6 (enc := enc) (C := Try.checked) false ⟨#[], #[.slice none 0 0, .slice none 0 0], []⟩ 8 (by kernel_rfl) (by kernel_rfl) (by kernel_rfl) (by kernel_rfl)) ?_
  intro W base args ds gs before hval0 hW hcnd hsz0 _
  have hval : ∀ (j : Nat) t v, Try.f6.params[j]? = some t → args[j]? = some v → Value.okWide Try.prog W .any base t v := hval0
  have hW' := hW
  obtain ⟨p, q, hA0, hV, rfl, hfz, hnd⟩ := hW
  have hA : DataW.TrodAll enc Try.prog W 0 (fun _ => true) true Try.f6.params.toList args.toList ds p := hA0
  have hsz : (DataW.weightsEach Try.prog Try.f6.params.toList ds).all (· ≤ reachBytes) = true := by
    obtain ⟨rfl, rfl⟩ := trodVars_none hV
    rw [List.append_nil] at hsz0
    exact hsz0
  rw [Try.params6] at hA hval hsz
  obtain ⟨v0, vs0, d0, ds0, p0, q0, hargs, rfl, rfl, h0, r0⟩ := trodAll_cons hA
  obtain ⟨v1, vs1, d1, ds1, p1, q1, rfl, rfl, rfl, h1, r1⟩ := trodAll_cons r0
  obtain ⟨rfl, rfl, rfl⟩ := trodAll_nil r1
  obtain rfl : args = #[v0, v1] := by cases args; simp_all
  obtain ⟨rfl, rfl⟩ := trodVars_none hV
  have hlt0 : ∀ x ∈ p0, x.block < W.heap.size := fun x hx => hW'.lt x (by simp [hx])
  have hh0 := h0
  obtain ⟨l0, hv0⟩ := open_bys (hval 0 24 v0 rfl rfl) h0
  have hlt1 : ∀ x ∈ p1, x.block < W.heap.size := fun x hx => hW'.lt x (by simp [hx])
  have hh1 := h1
  obtain ⟨l1, hv1⟩ := open_bys (hval 1 24 v1 rfl rfl) h1
  clear hA0 hval0 hsz0
  simp only [List.append_nil] at hW'
  refine (bjoins_true l0 v0 l1 v1 W hv0 hv1).mono fun e W' ⟨he, bel⟩ => ?_
  subst he
  exact ⟨_, rfl, _, _, _, [], _, [], hW', trodAll_mk1 (shut_bool Try.underlying4 _), (trodAll_cons_mk (Below.trod bjoins_laid (by kernel_rfl) (of_decide_eq_true (by kernel_rfl)) hh0 bel hlt0) (trodAll_cons_mk (Below.trod bjoins_laid (by kernel_rfl) (of_decide_eq_true (by kernel_rfl)) hh1 bel hlt1) trodAll_mk0)), rfl, bel.frame _, fun h => by cases h⟩

theorem bjoins_holds : Rows.BaseJoinsSaid :=
  OpenClaim.holds_of_wide 6 Try.f6 rfl rfl rfl rfl rfl rfl rfl ⟨rfl, rfl, rfl, rfl, rfl⟩ rfl rfl rfl rfl rfl (by kernel_rfl) Try.func6 (by kernel_rfl)
    (of_decide_eq_true (by kernel_rfl)) (by unfold Func.isWrapper; first | (rw [if_pos (by decide +kernel)]; kernel_rfl) | (rw [if_neg (by decide +kernel)]; exact ⟨rfl, rfl⟩))
    (fun os started H enc _ => bjoins_lifted os started H enc)
#print axioms bjoins_holds

end Go.Proofs.Ytnbonoallcjlbaa
