/-
  The statement BaseBack of the stage b64: for all bytes and every text the call answers true.
  Conditions: none.
-/
import Derived.Test.YtnbonoallcjlbaaBaO
namespace Go.Proofs.Ytnbonoallcjlbaa
open Go.ChangeShapes Go.WideShapes Go.ChangeAt Go.RowKit
open Go.ChangeMaps (open_string shut_string)

theorem got_len_le (u : Bool) (s : List UInt8) (b : List UInt8) (h : got u s = some b) : b.length ≤ s.length := by
  have h1 := congrArg List.length (put_got u s b h)
  rw [put_length] at h1
  omega
set_option maxRecDepth 100000 in
set_option maxHeartbeats 4000000 in
theorem bback_true (l : List UInt8) (v : Value) (s : ByteArray) (w : World) (hl : Bys w v l) (_ : s.size ≤ maxLen) :
    Calls Try.prog 5 #[v, .string s] w fun e w' => e = .returned (.bool true) ∧ Below w.heap.size w w' := by
  have HL := Lib.hid hl
  obtain ⟨ao, cap, rfl, _⟩ := hl
  go_enter Try.func5, Try.ntmps5
  go_wp2_with fail
  refine (awake5_true _).mono ?_
  rintro e w1 ⟨rfl, hb1⟩
  have HB1 := Lib.hid hb1
  clear hb1
  by_cases h1 : 500 < l.length
  · have h1' : (500 : Int) < (l.length : Int) := by omega
    go_wp2
    go_ret
    exact ⟨rfl, HB1.out⟩
  have h1' : ¬ (500 : Int) < (l.length : Int) := by omega
  by_cases h2 : 500 < s.size
  · have h2' : (500 : Int) < (s.size : Int) := by omega
    go_wp2
    go_ret
    exact ⟨rfl, HB1.out⟩
  have h2' : ¬ (500 : Int) < (s.size : Int) := by omega
  have hsl : s.data.toList.length ≤ 500 := by simpa using h2
  have HL1 := Lib.hid (HL.out.below HB1.out)
  clear HL
  go_wp2_with fail
  refine (put_std _ l w1 (by omega) HL1.out).mono ?_
  rintro e w2 ⟨rfl, hb2⟩
  have HB2 := Lib.hid hb2
  clear hb2
  go_wp2_with fail
  refine (put_url _ l w2 (by omega) (HL1.out.below HB2.out)).mono ?_
  rintro e w3 ⟨rfl, hb3⟩
  have HB3 := Lib.hid hb3
  clear hb3
  obtain ⟨T, hT⟩ : ∃ T : ByteArray, (⟨(put false l).toArray⟩ : ByteArray) = T := ⟨_, rfl⟩
  obtain ⟨U, hU⟩ : ∃ U : ByteArray, (⟨(put true l).toArray⟩ : ByteArray) = U := ⟨_, rfl⟩
  rw [hT, hU]
  have hTd : T.data.toList = put false l := by rw [← hT]
  have hUd : U.data.toList = put true l := by rw [← hU]
  have hTs : T.size = (8 * l.length + 5) / 6 := by
    rw [← put_length false l, ← hTd]; simp
  have hUs : U.size = (8 * l.length + 5) / 6 := by
    rw [← put_length true l, ← hUd]; simp
  have HTD := Lib.hid hTd
  have HUD := Lib.hid hUd
  have hTb : ((T.size : Int) == (8 * (l.length : Int) + 5) / 6) = true := by rw [beq_iff_eq]; omega
  have hUT : ((U.size : Int) == (T.size : Int)) = true := by rw [beq_iff_eq]; omega
  have hT1 : T.size ≤ 1000 := by omega
  have hU1 : U.size ≤ 1000 := by omega
  clear hT hU hTd hUd hTs hUs
  go_wp2_with fail
  refine (get_std T w3 (by omega)).mono ?_
  rintro e w4 ⟨hb4, hr4⟩
  rw [HTD.out, got_put] at hr4
  obtain ⟨v4, rfl, ho4⟩ := hr4
  have HO4 := Lib.hid ho4.bys
  have HB4 := Lib.hid hb4
  clear ho4 hb4
  go_wp2_with fail
  refine (get_url U w4 (by omega)).mono ?_
  rintro e w5 ⟨hb5, hr5⟩
  rw [HUD.out, got_put] at hr5
  obtain ⟨v5, rfl, ho5⟩ := hr5
  have HO5 := Lib.hid ho5.bys
  have HB5 := Lib.hid hb5
  clear ho5 hb5
  go_wp2_with fail
  refine (get_std s w5 (by omega)).mono ?_
  rintro e w6 ⟨hb6, hr6⟩
  have HB6 := Lib.hid hb6
  clear hb6
  cases h6 : got false s.data.toList with
  | none =>
    rw [h6] at hr6
    have e6 : e = _ := hr6
    subst e6
    clear hr6 h6
    go_wp2_with fail
    refine (get_url s w6 (by omega)).mono ?_
    rintro e w7 ⟨hb7, hr7⟩
    have HB7 := Lib.hid hb7
    have H17 := Lib.hid (bchain (bchain (bchain (bchain (bchain HB2.out HB3.out) HB4.out) HB5.out) HB6.out) HB7.out)
    have s4 := (HO4.out.below (bchain (bchain HB5.out HB6.out) HB7.out)).toStr
    have s5 := (HO5.out.below (bchain HB6.out HB7.out)).toStr
    have s0 := (HL1.out.below H17.out).toStr
    clear hb7
    cases h7 : got true s.data.toList with
    | none =>
      rw [h7] at hr7
      have e7 : e = _ := hr7
      subst e7
      clear hr7 h7
      have HE := Lib.hid (bchain HB1.out H17.out)
      go_wp2
      go_ret
      exact ⟨rfl, HE.out⟩
    | some z7 =>
      rw [h7] at hr7
      obtain ⟨v7, rfl, ho7⟩ := hr7
      have HO7 := Lib.hid ho7.bys
      have E7 := Lib.hid (show (⟨(put true z7).toArray⟩ : ByteArray) = s by rw [put_got true _ _ h7])
      have hz7 := got_len_le true _ _ h7
      clear ho7 h7
      go_wp2_with fail
      refine (put_url _ z7 w7 (by omega) HO7.out).mono ?_
      rintro e w9 ⟨rfl, hb9⟩
      rw [E7.out]
      have HB9 := Lib.hid hb9
      clear hb9
      have HE := Lib.hid (bchain (bchain HB1.out H17.out) HB9.out)
      go_wp2
      go_ret
      exact ⟨rfl, HE.out⟩
  | some z6 =>
    rw [h6] at hr6
    obtain ⟨v6, rfl, ho6⟩ := hr6
    have HO6 := Lib.hid ho6.bys
    have E6 := Lib.hid (show (⟨(put false z6).toArray⟩ : ByteArray) = s by rw [put_got false _ _ h6])
    have hz6 := got_len_le false _ _ h6
    clear ho6 h6
    go_wp2_with fail
    refine (get_url s w6 (by omega)).mono ?_
    rintro e w7 ⟨hb7, hr7⟩
    have HB7 := Lib.hid hb7
    have H17 := Lib.hid (bchain (bchain (bchain (bchain (bchain HB2.out HB3.out) HB4.out) HB5.out) HB6.out) HB7.out)
    have s4 := (HO4.out.below (bchain (bchain HB5.out HB6.out) HB7.out)).toStr
    have s5 := (HO5.out.below (bchain HB6.out HB7.out)).toStr
    have s0 := (HL1.out.below H17.out).toStr
    clear hb7
    cases h7 : got true s.data.toList with
    | none =>
      rw [h7] at hr7
      have e7 : e = _ := hr7
      subst e7
      clear hr7 h7
      go_wp2_with fail
      refine (put_std _ z6 w7 (by omega) (HO6.out.below HB7.out)).mono ?_
      rintro e w8 ⟨rfl, hb8⟩
      rw [E6.out]
      have HB8 := Lib.hid hb8
      clear hb8
      have HE := Lib.hid (bchain (bchain HB1.out H17.out) HB8.out)
      go_wp2
      go_ret
      exact ⟨rfl, HE.out⟩
    | some z7 =>
      rw [h7] at hr7
      obtain ⟨v7, rfl, ho7⟩ := hr7
      have HO7 := Lib.hid ho7.bys
      have E7 := Lib.hid (show (⟨(put true z7).toArray⟩ : ByteArray) = s by rw [put_got true _ _ h7])
      have hz7 := got_len_le true _ _ h7
      clear ho7 h7
      go_wp2_with fail
      refine (put_std _ z6 w7 (by omega) (HO6.out.below HB7.out)).mono ?_
      rintro e w8 ⟨rfl, hb8⟩
      rw [E6.out]
      have HB8 := Lib.hid hb8
      clear hb8
      go_wp2_with fail
      refine (put_url _ z7 w8 (by omega) (HO7.out.below HB8.out)).mono ?_
      rintro e w9 ⟨rfl, hb9⟩
      rw [E7.out]
      have HB9 := Lib.hid hb9
      clear hb9
      have HE := Lib.hid (bchain (bchain (bchain HB1.out H17.out) HB8.out) HB9.out)
      go_wp2
      go_ret
      exact ⟨rfl, HE.out⟩

theorem bback_own : ownKnob Try.prog.godebug = none := by kernel_rfl
theorem bback_laid : laidOutB Try.prog = true := by kernel_rfl

set_option maxRecDepth 100000 in
theorem bback_lifted (os : Os) (started : os.Started) (H : Type) (enc : TypeId × Value → H) :
    ReturnsInHanded {} Try.checked os 5 .any (Rows.baseBackSpec.pre6 enc Try.prog Try.f5 Rows.baseBackRow.domain false) (Rows.baseBackSpec.post enc Try.prog Try.f5 false true false false) := by
  refine returnsInHanded_of_change_sized (C := Try.checked) bback_own started (by kernel_rfl) Try.func5
    (ChangeSpec.witness6 (enc := enc) (C := Try.checked) false ⟨#[], #[.slice none 0 0, .string ByteArray.empty], []⟩ 8 (by kernel_rfl) (by kernel_rfl) (by kernel_rfl) (by kernel_rfl)) ?_
  intro W base args ds gs before hval0 hW hcnd hsz0 _
  have hval : ∀ (j : Nat) t v, Try.f5.params[j]? = some t → args[j]? = some v → Value.okWide Try.prog W .any base t v := hval0
  have hW' := hW
  obtain ⟨p, q, hA0, hV, rfl, hfz, hnd⟩ := hW
  have hA : DataW.TrodAll enc Try.prog W 0 (fun _ => true) true Try.f5.params.toList args.toList ds p := hA0
  have hsz : (DataW.weightsEach Try.prog Try.f5.params.toList ds).all (· ≤ reachBytes) = true := by
    obtain ⟨rfl, rfl⟩ := trodVars_none hV
    rw [List.append_nil] at hsz0
    exact hsz0
  rw [Try.params5] at hA hval hsz
  obtain ⟨v0, vs0, d0, ds0, p0, q0, hargs, rfl, rfl, h0, r0⟩ := trodAll_cons hA
  obtain ⟨v1, vs1, d1, ds1, p1, q1, rfl, rfl, rfl, h1, r1⟩ := trodAll_cons r0
  obtain ⟨rfl, rfl, rfl⟩ := trodAll_nil r1
  obtain rfl : args = #[v0, v1] := by cases args; simp_all
  obtain ⟨rfl, rfl⟩ := trodVars_none hV
  have hlt0 : ∀ x ∈ p0, x.block < W.heap.size := fun x hx => hW'.lt x (by simp [hx])
  have hh0 := h0
  obtain ⟨l0, hv0⟩ := open_bys (hval 0 24 v0 rfl rfl) h0
  have hsb1 : ∀ n ∈ d1.weights Try.prog 9, n ≤ reachBytes := fun n hn => by simpa using List.all_eq_true.1 hsz n (DataW.weights_mem_each (j := 1) rfl rfl n hn)
  obtain ⟨a1, rfl, rfl, rfl, w1⟩ := open_string Try.underlying9 (hval 1 9 v1 rfl rfl) h1
  clear hA0 hval0 hsz0
  simp only [List.append_nil] at hW'
  refine (bback_true l0 v0 a1 W hv0 w1).mono fun e W' ⟨he, bel⟩ => ?_
  subst he
  exact ⟨_, rfl, _, _, _, [], _, [], hW', trodAll_mk1 (shut_bool Try.underlying4 _), (trodAll_cons_mk (Below.trod bback_laid (by kernel_rfl) (of_decide_eq_true (by kernel_rfl)) hh0 bel hlt0) (trodAll_cons_mk (shut_string Try.underlying9 w1) trodAll_mk0)), rfl, bel.frame _, fun h => by cases h⟩

theorem bback_holds : Rows.BaseBackSaid :=
  OpenClaim.holds_of_wide 5 Try.f5 rfl rfl rfl rfl rfl rfl rfl ⟨rfl, rfl, rfl, rfl, rfl⟩ rfl rfl rfl rfl rfl (by kernel_rfl) Try.func5 (by kernel_rfl)
    (of_decide_eq_true (by kernel_rfl)) (by unfold Func.isWrapper; first | (rw [if_pos (by decide +kernel)]; kernel_rfl) | (rw [if_neg (by decide +kernel)]; exact ⟨rfl, rfl⟩))
    (fun os started H enc _ => bback_lifted os started H enc)
#print axioms bback_holds

end Go.Proofs.Ytnbonoallcjlbaa
