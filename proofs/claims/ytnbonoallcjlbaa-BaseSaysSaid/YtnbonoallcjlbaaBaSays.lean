/-
  The statement BaseSays of the stage b64: for all bytes and every text the call answers true.
  Conditions: none.
-/
import Derived.Test.YtnbonoallcjlbaaBaO
namespace Go.Proofs.Ytnbonoallcjlbaa
open Go.ChangeShapes Go.WideShapes Go.ChangeAt Go.RowKit
open Go.ChangeMaps (open_string shut_string)

set_option maxRecDepth 100000 in
set_option maxHeartbeats 2000000 in
theorem bsays_true (l : List UInt8) (v : Value) (s : ByteArray) (w : World) (hl : Bys w v l) (_ : s.size ≤ maxLen) :
    Calls Try.prog 4 #[v, .string s] w fun e w' => e = .returned (.bool true) ∧ Below w.heap.size w w' := by
  have HL := Lib.hid hl
  obtain ⟨ao, cap, rfl, _⟩ := hl
  go_enter Try.func4, Try.ntmps4
  go_wp2_with fail
  refine (awake5_true _).mono ?_
  rintro e w1 ⟨rfl, hb1⟩
  have HB1 := Lib.hid hb1
  clear hb1
  by_cases h1 : 200 < l.length
  · have h1' : (200 : Int) < (l.length : Int) := by omega
    go_wp2
    go_ret
    exact ⟨rfl, HB1.out⟩
  have h1' : ¬ (200 : Int) < (l.length : Int) := by omega
  by_cases h2 : 300 < s.size
  · have h2' : (300 : Int) < (s.size : Int) := by omega
    go_wp2
    go_ret
    exact ⟨rfl, HB1.out⟩
  have h2' : ¬ (300 : Int) < (s.size : Int) := by omega
  have HL1 := Lib.hid (HL.out.below HB1.out)
  clear HL
  go_wp2_with fail
  refine (get_std s w1 (by omega)).mono ?_
  rintro e w2 ⟨hb2, hr2⟩
  obtain ⟨v2, rfl, ho2⟩ := hr2.uni
  have HO2 := Lib.hid ho2.bys
  have HB2 := Lib.hid hb2
  clear ho2 hb2 hr2
  go_wp2_with fail
  refine (get64_any false s w2 (by omega)).mono ?_
  rintro e w3 ⟨hb3, hr3⟩
  obtain ⟨v3, rfl, ho3⟩ := hr3.uni
  have HO3 := Lib.hid ho3.bys
  have HB3 := Lib.hid hb3
  clear ho3 hb3 hr3
  go_wp2_with fail
  refine (get_url s w3 (by omega)).mono ?_
  rintro e w4 ⟨hb4, hr4⟩
  obtain ⟨v4, rfl, ho4⟩ := hr4.uni
  have HO4 := Lib.hid ho4.bys
  have HB4 := Lib.hid hb4
  clear ho4 hb4 hr4
  go_wp2_with fail
  refine (get64_any true s w4 (by omega)).mono ?_
  rintro e w5 ⟨hb5, hr5⟩
  obtain ⟨v5, rfl, ho5⟩ := hr5.uni
  have HO5 := Lib.hid ho5.bys
  have HB5 := Lib.hid hb5
  clear ho5 hb5 hr5
  have H15 := Lib.hid (bchain (bchain (bchain HB2.out HB3.out) HB4.out) HB5.out)
  go_wp2_with fail
  refine (put_std _ l w5 (by omega) (HL1.out.below H15.out)).mono ?_
  rintro e w6 ⟨rfl, hb6⟩
  have HB6 := Lib.hid hb6
  clear hb6
  go_wp2_with fail
  refine (put64_any false _ l w6 (by omega) (HL1.out.below (bchain H15.out HB6.out))).mono ?_
  rintro e w7 ⟨rfl, hb7⟩
  have HB7 := Lib.hid hb7
  clear hb7
  go_wp2_with fail
  refine (put_url _ l w7 (by omega) (HL1.out.below (bchain (bchain H15.out HB6.out) HB7.out))).mono ?_
  rintro e w8 ⟨rfl, hb8⟩
  have HB8 := Lib.hid hb8
  clear hb8
  go_wp2_with fail
  refine (put64_any true _ l w8 (by omega) (HL1.out.below (bchain (bchain (bchain H15.out HB6.out) HB7.out) HB8.out))).mono ?_
  rintro e w9 ⟨rfl, hb9⟩
  have HB9 := Lib.hid hb9
  clear hb9
  have H59 := Lib.hid (bchain (bchain (bchain HB6.out HB7.out) HB8.out) HB9.out)
  have s5 := (HO5.out.below H59.out).toStr
  have s4 := (HO4.out.below (bchain HB5.out H59.out)).toStr
  have s3 := (HO3.out.below (bchain (bchain HB4.out HB5.out) H59.out)).toStr
  have s2 := (HO2.out.below (bchain (bchain (bchain HB3.out HB4.out) HB5.out) H59.out)).toStr
  have HE := Lib.hid (bchain HB1.out (bchain H15.out H59.out))
  go_wp2
  go_ret
  exact ⟨rfl, HE.out⟩

theorem bsays_own : ownKnob Try.prog.godebug = none := by kernel_rfl
theorem bsays_laid : laidOutB Try.prog = true := by kernel_rfl

set_option maxRecDepth 100000 in
theorem bsays_lifted (os : Os) (started : os.Started) (H : Type) (enc : TypeId × Value → H) :
    ReturnsInHanded {} Try.checked os 4 .any (Rows.baseSaysSpec.pre6 enc Try.prog Try.f4 Rows.baseSaysRow.domain false) (Rows.baseSaysSpec.post enc Try.prog Try.f4 false true false false) := by
  refine returnsInHanded_of_change_sized (C := Try.checked) bsays_own started (by kernel_rfl) Try.func4
    (ChangeSpec.witness6 (enc := enc) (C := Try.checked) false ⟨#[], #[.slice none 0 0, .string ByteArray.empty], []⟩ 8 (by kernel_rfl) (by kernel_rfl) (by kernel_rfl) (by kernel_rfl)) ?_
  intro W base args ds gs before hval0 hW hcnd hsz0 _
  have hval : ∀ (j : Nat) t v, Try.f4.params[j]? = some t → args[j]? = some v → Value.okWide Try.prog W .any base t v := hval0
  have hW' := hW
  obtain ⟨p, q, hA0, hV, rfl, hfz, hnd⟩ := hW
  have hA : DataW.TrodAll enc Try.prog W 0 (fun _ => true) true Try.f4.params.toList args.toList ds p := hA0
  have hsz : (DataW.weightsEach Try.prog Try.f4.params.toList ds).all (· ≤ reachBytes) = true := by
    obtain ⟨rfl, rfl⟩ := trodVars_none hV
    rw [List.append_nil] at hsz0
    exact hsz0
  rw [Try.params4] at hA hval hsz
  obtain ⟨v0, vs0, d0, ds0, p0, q0, hargs, rfl, rfl, h0, r0⟩ := trodAll_cons hA
  obtain ⟨v1, vs1, d1, ds1, p1, q1, rfl, rfl, rfl, h1, r1⟩ := trodAll_cons r0
  obtain ⟨rfl, rfl, rfl⟩ := trodAll_nil r1
  obtain rfl : args = #[v0, v1] := by cases args; simp_all
  obtain ⟨rfl, rfl⟩ := trodVars_none hV
  have hlt0 : ∀ x ∈ p0, x.block < W.heap.size := fun x hx => hW'.lt x (by simp [hx])
  have hh0 := h0
  obtain ⟨l0, hv0⟩ := open_bys (hval 0 24 v0 rfl rfl) h0
  have hsb1 : ∀ n ∈ d1.weights Try.prog 9, n ≤ reachBytes := fun n hn => by simpa using List.all_eq_true.1 hsz n (DataW.weights_mem_each (j := 1) rfl rfl n hn)
  obtain ⟨a1, rfl, rfl, rfl, w1⟩ := open_string Try.underlying9 (hval 1 9 v1 rfl rfl) h1
  clear hA0 hval0 hsz0
  simp only [List.append_nil] at hW'
  refine (bsays_true l0 v0 a1 W hv0 w1).mono fun e W' ⟨he, bel⟩ => ?_
  subst he
  exact ⟨_, rfl, _, _, _, [], _, [], hW', trodAll_mk1 (shut_bool Try.underlying4 _), (trodAll_cons_mk (Below.trod bsays_laid (by kernel_rfl) (of_decide_eq_true (by kernel_rfl)) hh0 bel hlt0) (trodAll_cons_mk (shut_string Try.underlying9 w1) trodAll_mk0)), rfl, bel.frame _, fun h => by cases h⟩

theorem bsays_holds : Rows.BaseSaysSaid :=
  OpenClaim.holds_of_wide 4 Try.f4 rfl rfl rfl rfl rfl rfl rfl ⟨rfl, rfl, rfl, rfl, rfl⟩ rfl rfl rfl rfl rfl (by kernel_rfl) Try.func4 (by kernel_rfl)
    (of_decide_eq_true (by kernel_rfl)) (by unfold Func.isWrapper; first | (rw [if_pos (by decide +kernel)]; kernel_rfl) | (rw [if_neg (by decide +kernel)]; exact ⟨rfl, rfl⟩))
    (fun os started H enc _ => bsays_lifted os started H enc)
#print axioms bsays_holds

end Go.Proofs.Ytnbonoallcjlbaa
