/-
  The statement UtfSays of the stage utf: for every two texts the call answers true.
  Conditions: none.
-/
import Derived.Test.YtomdkkmfgeajgaaUtfW
import Derived.Test.YtomdkkmfgeajgaaRefB
import Derived.ProofKit
import Derived.OpenShut
import Derived.ShutString
import Derived.Deep.RegionHeld3
namespace Go.Proofs.Ytomdkkmfgeajgaa
open Go.ChangeShapes Go.WideShapes Go.ChangeAt Go.RowKit
open Go.ChangeMaps (open_string shut_string)

theorem says_chain {w a b : World} (h : Below w.heap.size w a) (k : Below a.heap.size a b) : Below w.heap.size w b := h.trans (k.mono h.size)
theorem says_runes (s : ByteArray) (n : Int) (w : World) (hs : s.size ≤ maxLen) (h : uRunesI s.data.toList = n) :
    Calls Try.prog 12 #[.string s] w fun e w' => e = .returned (.int .i64 n) ∧ Below w.heap.size w w' := by
  subst h; exact runes_any s w hs
theorem says_refRunes (s : ByteArray) (n : Int) (w : World) (hs : s.size ≤ maxLen) (h : uRunesI s.data.toList = n) :
    Calls Try.prog 17 #[.string s] w fun e w' => e = .returned (.int .i64 n) ∧ w = w' := by
  subst h; exact refRunes_any s w hs
set_option maxHeartbeats 400000 in
theorem says_less (a b : ByteArray) (v : Bool) (w : World) (h : Op.bytesLess a.toList b.toList = v) :
    Calls Try.prog 14 #[.string a, .string b] w fun e w' => e = .returned (.bool v) ∧ w = w' := by
  have H := Lib.hid h
  clear h
  go_enter Try.func14, Try.ntmps14
  go_wp2
  go_ret
  exact ⟨ret_b H.out, rfl⟩

set_option maxRecDepth 100000 in
set_option maxHeartbeats 1000000 in
theorem says_yes (s t : ByteArray) (w : World) (hs : s.size ≤ 300) (ht : t.size ≤ 300) (v : Bool) (hv : (uRunes s.data.toList).isSome = v) :
    Calls Try.prog 4 #[.string s, .string t] w fun e w' => e = .returned (.bool true) ∧ Below w.heap.size w w' := by
  have hsm : s.size ≤ maxLen := by unfold maxLen; omega
  have HV := Lib.hid hv
  clear hv
  obtain ⟨q, x, hq⟩ : ∃ (q : ByteArray) (x : Int), (∀ w, Calls Try.prog 10 #[.string s] w fun e w' => e = .returned (.tuple #[.string q, .int .i64 x]) ∧ Below w.heap.size w w') ∧
      (∀ w, Calls Try.prog 15 #[.string s] w fun e w' => e = .returned (.tuple #[.string q, .int .i64 x]) ∧ Below w.heap.size w w') := by
    cases v with
    | true =>
      exact ⟨_, _, fun w => quote_yes s w (by omega) HV.out, fun w => refQuote_yes s w (by omega) HV.out⟩
    | false =>
      refine ⟨_, _, fun w => quote_no s w hsm HV.out, fun w => ?_⟩
      refine (refQuote_no s w hsm HV.out).mono ?_
      rintro e w' ⟨rfl, rfl⟩
      exact ⟨rfl, Below.refl _ _⟩
  have HQ1 := Lib.hid hq.1
  have HQ2 := Lib.hid hq.2
  clear hq
  obtain ⟨n, hn⟩ : ∃ n, uRunesI s.data.toList = n := ⟨_, rfl⟩
  have HN := Lib.hid hn
  obtain ⟨l, hl⟩ : ∃ l, Op.bytesLess s.toList t.toList = l := ⟨_, rfl⟩
  have HL := Lib.hid hl
  clear hn
  go_enter Try.func4, Try.ntmps4
  go_wp2_with fail
  refine (awake_true _).mono ?_
  rintro e w1 ⟨rfl, hb1⟩
  go_wp2_with fail
  refine (HQ1.out _).mono ?_
  rintro e w2 ⟨rfl, hb2⟩
  have hB2 := says_chain hb1 hb2
  clear hb1 hb2
  go_wp2_with fail
  refine (HQ2.out _).mono ?_
  rintro e w3 ⟨rfl, hb3⟩
  have hB3 := says_chain hB2 hb3
  clear hB2 hb3
  go_wp2_with fail
  refine (good_any s _ v hsm HV.out).mono ?_
  rintro e w4 ⟨rfl, hb4⟩
  have hB4 := says_chain hB3 hb4
  clear hB3 hb4
  go_wp2_with fail
  refine (refGood_any s _ v hsm HV.out).mono ?_
  rintro e w5 ⟨rfl, rfl⟩
  go_wp2_with fail
  refine (says_runes s n _ hsm HN.out).mono ?_
  rintro e w6 ⟨rfl, hb6⟩
  have hB6 := says_chain hB4 hb6
  clear hB4 hb6
  go_wp2_with fail
  refine (says_refRunes s n _ hsm HN.out).mono ?_
  rintro e w7 ⟨rfl, rfl⟩
  go_wp2_with fail
  refine (says_less s t l _ HL.out).mono ?_
  rintro e w8 ⟨rfl, rfl⟩
  go_wp2
  go_ret
  exact ⟨ret_b (by simp), hB6⟩

set_option maxRecDepth 100000 in
set_option maxHeartbeats 400000 in
theorem says_true (s t : ByteArray) (w : World) (_hsm : s.size ≤ maxLen) (_htm : t.size ≤ maxLen) :
    Calls Try.prog 4 #[.string s, .string t] w fun e w' => e = .returned (.bool true) ∧ Below w.heap.size w w' := by
  by_cases hs : s.size ≤ 300
  · by_cases ht : t.size ≤ 300
    · exact says_yes s t w hs ht _ rfl
    · have ht' : (300 : Int) < (t.size : Int) := by omega
      go_enter Try.func4, Try.ntmps4
      go_wp2_with fail
      refine (awake_true _).mono ?_
      rintro e w1 ⟨rfl, hb1⟩
      go_wp2
      go_ret
      exact ⟨rfl, hb1⟩
  · have hs' : (300 : Int) < (s.size : Int) := by omega
    go_enter Try.func4, Try.ntmps4
    go_wp2_with fail
    refine (awake_true _).mono ?_
    rintro e w1 ⟨rfl, hb1⟩
    go_wp2
    go_ret
    exact ⟨rfl, hb1⟩

theorem says_own : ownKnob Try.prog.godebug = none := by kernel_rfl

set_option maxRecDepth 100000 in
theorem says_lifted (os : Os) (started : os.Started) (H : Type) (enc : TypeId × Value → H) :
    ReturnsInHanded {} Try.checked os 4 .any (Rows.utfSaysSpec.pre6 enc Try.prog Try.f4 Rows.utfSaysRow.domain false) (Rows.utfSaysSpec.post enc Try.prog Try.f4 false true false false) := by
  refine returnsInHanded_of_change (C := Try.checked) says_own started (by kernel_rfl) Try.func4
    (ChangeSpec.witness6 (enc := enc) (C := Try.checked) false ⟨#[], #[.string ByteArray.empty, .string ByteArray.empty], []⟩ 8 (by kernel_rfl) (by kernel_rfl) (by kernel_rfl) (by kernel_rfl)) ?_
  intro W base args ds gs before hval0 hW hcnd _
  have hval : ∀ (j : Nat) t v, Try.f4.params[j]? = some t → args[j]? = some v → Value.okWide Try.prog W .any base t v := hval0
  have hW' := hW
  obtain ⟨p, q, hA0, hV, rfl, hfz, hnd⟩ := hW
  have hA : DataW.TrodAll enc Try.prog W 0 (fun _ => true) true Try.f4.params.toList args.toList ds p := hA0
  rw [Try.params4] at hA hval
  obtain ⟨v0, vs0, d0, ds0, p0, q0, hargs, rfl, rfl, h0, r0⟩ := trodAll_cons hA
  obtain ⟨v1, vs1, d1, ds1, p1, q1, rfl, rfl, rfl, h1, r1⟩ := trodAll_cons r0
  obtain ⟨rfl, rfl, rfl⟩ := trodAll_nil r1
  obtain rfl : args = #[v0, v1] := by cases args; simp_all
  obtain ⟨rfl, rfl⟩ := trodVars_none hV
  obtain ⟨a0, rfl, rfl, rfl, w0⟩ := open_string Try.underlying9 (hval 0 9 v0 rfl rfl) h0
  obtain ⟨a1, rfl, rfl, rfl, w1⟩ := open_string Try.underlying9 (hval 1 9 v1 rfl rfl) h1
  clear hA0 hval0
  simp only [List.append_nil] at hW'
  refine (says_true a0 a1 W w0 w1).mono fun e W' ⟨he, bel⟩ => ?_
  subst he
  exact ⟨_, rfl, _, _, _, [], [], [], hW', trodAll_mk1 (shut_bool Try.underlying4 _), (trodAll_cons_mk (shut_string Try.underlying9 w0) (trodAll_cons_mk (shut_string Try.underlying9 w1) trodAll_mk0)), rfl, bel.frame _, fun h => by cases h⟩

theorem says_holds : Rows.UtfSaysSaid :=
  OpenClaim.holds_of_wide 4 Try.f4 rfl rfl rfl rfl rfl rfl rfl ⟨rfl, rfl, rfl, rfl, rfl⟩ rfl rfl rfl rfl rfl (by kernel_rfl) Try.func4 (by kernel_rfl)
    (of_decide_eq_true (by kernel_rfl)) (by unfold Func.isWrapper; first | (rw [if_pos (by decide +kernel)]; kernel_rfl) | (rw [if_neg (by decide +kernel)]; exact ⟨rfl, rfl⟩))
    (fun os started H enc _ => says_lifted os started H enc)
#print axioms says_holds

end Go.Proofs.Ytomdkkmfgeajgaa
