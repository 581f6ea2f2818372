/-
  The statement UtfJoins of the stage utf: for every two texts and every number the call answers true.
  Conditions: none.
-/
import Derived.Test.YtomdkkmfgeajgaaUtfW
import Derived.Test.YtomdkkmfgeajgaaUtfM
import Derived.ProofKit
import Derived.OpenShut
import Derived.ShutString
import Derived.Deep.RegionHeld3
namespace Go.Proofs.Ytomdkkmfgeajgaa
open Go.ChangeShapes Go.WideShapes Go.ChangeAt Go.RowKit
open Go.ChangeMaps (open_string shut_string)

theorem below_chain {w a b : World} (h : Below w.heap.size w a) (k : Below a.heap.size a b) : Below w.heap.size w b := h.trans (k.mono h.size)

theorem cut_is (c : Int) (z : Nat) (hz : z ≤ 300) : ∃ k : Nat, k ≤ z ∧ wrap64 ((IntKind.u64.wrap c).tmod ((z : Int) + 1)) = (k : Int) := by
  have h0 : 0 ≤ IntKind.u64.wrap c := by
    unfold IntKind.wrap; simp [IntKind.bits, IntKind.signed]; omega
  have h1 := Int.tmod_nonneg ((z : Int) + 1) h0
  have h2 := Int.tmod_lt_of_pos (IntKind.u64.wrap c) (show (0 : Int) < (z : Int) + 1 by omega)
  refine ⟨((IntKind.u64.wrap c).tmod ((z : Int) + 1)).toNat, by omega, ?_⟩
  unfold wrap64; omega
theorem cont_eq (c : UInt8) (v : Bool) (h : decide (c.toNat / 64 = 2) = v) : (bits .and .u8 (c.toNat : Int) 192 == 128) = v := by
  have := cont_bit c v h
  simp only [bne] at this
  cases v <;> simpa using this
theorem ext_take (s : ByteArray) (k : Nat) : (s.extract 0 k).data.toList = s.data.toList.take k := by
  rw [ByteArray.data_extract, Array.toList_extract]; simp
theorem ext_drop (s : ByteArray) (k : Nat) : (s.extract k s.size).data.toList = s.data.toList.drop k := by
  rw [ByteArray.data_extract, Array.toList_extract]
  have h : s.data.toList.length = s.size := Array.length_toList
  rw [← h, List.extract_eq_take_drop, List.take_of_length_le (by rw [List.length_drop]; exact Nat.le_refl _)]
theorem str_append (s t : ByteArray) : (s ++ t).data.toList = s.data.toList ++ t.data.toList := by
  simp
theorem runes_at' (s : ByteArray) (n : Int) (w : World) (hs : s.size ≤ maxLen) (h : uRunesI s.data.toList = n) :
    Calls Try.prog 12 #[.string s] w fun e w' => e = .returned (.int .i64 n) ∧ Below w.heap.size w w' := by
  subst h; exact runes_any s w hs

set_option maxRecDepth 100000 in
set_option maxHeartbeats 1000000 in
theorem joins_main (s t : ByteArray) (c : Int) (w : World) (hs : s.size ≤ 300) (ht : t.size ≤ 300) (m n : Nat) (hm : uRunes s.data.toList = some m) (hn : uRunes t.data.toList = some n) :
    Calls Try.prog 8 #[.string s, .string t, .int .i64 c] w fun e w' => e = .returned (.bool true) ∧ Below w.heap.size w w' := by
  have HM := Lib.hid hm
  have HN := Lib.hid hn
  have hsm : s.size ≤ maxLen := by unfold maxLen; omega
  have htm : t.size ≤ maxLen := by unfold maxLen; omega
  clear hm hn
  go_enter Try.func8, Try.ntmps8
  go_wp2_with fail
  refine (awake_true _).mono ?_
  rintro e w1 ⟨rfl, hb1⟩
  go_wp2_with fail
  refine (good_any s _ true hsm (by rw [HM.out]; rfl)).mono ?_
  rintro e w2 ⟨rfl, hb2⟩
  have hB2 := below_chain hb1 hb2
  clear hb1 hb2
  go_wp2_with fail
  refine (good_any t _ true htm (by rw [HN.out]; rfl)).mono ?_
  rintro e w3 ⟨rfl, hb3⟩
  have hB3 := below_chain hB2 hb3
  clear hB2 hb3
  go_wp2_with fail
  obtain ⟨k, hk, hke⟩ := cut_is c s.size hs
  rw [hke]
  have HKE := Lib.hid hke
  clear hke HKE
  have hm300 : m ≤ 300 := by have h1 := uRunes_le HM.out; rw [Array.length_toList] at h1; have h2 : s.data.size = s.size := rfl; omega
  have hn300 : n ≤ 300 := by have h1 := uRunes_le HN.out; rw [Array.length_toList] at h1; have h2 : t.data.size = t.size := rfl; omega
  refine (runes_at' (s ++ t) ((m : Int) + (n : Int)) _ (by rw [ByteArray.size_append]; unfold maxLen; omega) (by unfold uRunesI; rw [str_append, uRunes_join HM.out HN.out]; simp)).mono ?_
  rintro e w4 ⟨rfl, hb4⟩
  have hB4 := below_chain hB3 hb4
  clear hB3 hb4
  go_wp2_with fail
  refine (runes_at' s (m : Int) _ hsm (by unfold uRunesI; rw [HM.out])).mono ?_
  rintro e w5 ⟨rfl, hb5⟩
  have hB5 := below_chain hB4 hb5
  clear hB4 hb5
  go_wp2_with fail
  refine (runes_at' t (n : Int) _ htm (by unfold uRunesI; rw [HN.out])).mono ?_
  rintro e w6 ⟨rfl, hb6⟩
  have hB6 := below_chain hB5 hb6
  clear hB5 hb6
  obtain ⟨hcut1, hcut2⟩ := uRunes_cut HM.out k (by rw [Array.length_toList]; exact hk)
  have HC1 := Lib.hid hcut1
  have HC2 := Lib.hid hcut2
  clear hcut1 hcut2
  by_cases hlt : k < s.size
  · have hlt' : (k : Int) < (s.size : Int) := by omega
    cases hcb : decide (s[k].toNat / 64 = 2) with
    | true =>
      have hbit := cont_eq s[k] true hcb
      have hno := HC1.out ⟨s[k], by rw [List.getElem?_eq_getElem (by simpa using hlt)]; rfl, of_decide_eq_true hcb⟩
      have HA := Lib.hid (show uRunes (s.extract 0 k).data.toList = none by rw [ext_take]; exact hno.1)
      have HD := Lib.hid (show uRunes (s.extract k s.size).data.toList = none by rw [ext_drop]; exact hno.2)
      clear hcb hno
      go_wp2_with fail
      refine (good_any (s.extract 0 k) _ false (by rw [ByteArray.size_extract]; unfold maxLen; omega) (by rw [HA.out]; rfl)).mono ?_
      rintro e w7 ⟨rfl, hb7⟩
      have hB7 := below_chain hB6 hb7
      clear hB6 hb7
      go_wp2_with fail
      refine (good_any (s.extract k s.size) _ false (by rw [ByteArray.size_extract]; unfold maxLen; omega) (by rw [HD.out]; rfl)).mono ?_
      rintro e w8 ⟨rfl, hb8⟩
      have hB8 := below_chain hB7 hb8
      clear hB7 hb8
      go_wp2
      go_ret
      exact ⟨rfl, hB8⟩
    | false =>
      have hbit := cont_eq s[k] false hcb
      obtain ⟨m1, n1, h1, h2, h3⟩ := HC2.out (by
        intro x hx
        rw [List.getElem?_eq_getElem (by simpa using hlt)] at hx
        have hx' : s[k] = x := Option.some.inj hx
        rw [← hx']
        exact of_decide_eq_false hcb)
      have HA := Lib.hid (show uRunes (s.extract 0 k).data.toList = some m1 by rw [ext_take]; exact h1)
      have HD := Lib.hid (show uRunes (s.extract k s.size).data.toList = some n1 by rw [ext_drop]; exact h2)
      have HSUM := Lib.hid (show (((m1 : Int) + (n1 : Int)) == (m : Int)) = true by simp; omega)
      have b1 : m1 ≤ 300 := by omega
      have b2 : n1 ≤ 300 := by omega
      have hBd := hB6.drew
      clear hcb h1 h2 h3 hB6
      go_wp2_with fail
      have hk0 : (0 : Int) ≤ (k : Int) := by omega
      have hk1 : (k : Int) ≤ (s.size : Int) := by omega
      go_region_held3 (fun _ => True) (exact trivial) (first
        | (go_at_call_of 11 (s.extract 0 k); refine (good_any (s.extract 0 k) _ true (by rw [ByteArray.size_extract]; unfold maxLen; omega) (by rw [HA.out]; rfl)).mono ?_; rintro e w' ⟨rfl, hb⟩; have hB1' := below_chain hBd hb; clear hb)
        | (go_at_call_of 11 (s.extract k s.size); refine (good_any (s.extract k s.size) _ true (by rw [ByteArray.size_extract]; unfold maxLen; omega) (by rw [HD.out]; rfl)).mono ?_; rintro e w' ⟨rfl, hb⟩; have hB2' := below_chain hB1' hb; clear hb)
        | (go_at_call_of 12 (s.extract 0 k); refine (runes_at' (s.extract 0 k) (m1 : Int) _ (by rw [ByteArray.size_extract]; unfold maxLen; omega) (by unfold uRunesI; rw [HA.out])).mono ?_; rintro e w' ⟨rfl, hb⟩; have hB3' := below_chain hB2' hb; clear hb)
        | (go_at_call_of 12 (s.extract k s.size); refine (runes_at' (s.extract k s.size) (n1 : Int) _ (by rw [ByteArray.size_extract]; unfold maxLen; omega) (by unfold uRunesI; rw [HD.out])).mono ?_; rintro e w' ⟨rfl, hb⟩; have hB4' := below_chain hB3' hb; clear hb)
        | (go_at_call_of 12 s; refine (runes_at' s (m : Int) _ hsm (by unfold uRunesI; rw [HM.out])).mono ?_; rintro e w' ⟨rfl, hb⟩; have hB5' := below_chain hB4' hb; clear hb))
      go_wp2
      go_ret
      exact ⟨ret_b (by rw [wrap_small _ (by omega) (by omega)]; exact HSUM.out), by assumption⟩
  · obtain ⟨m1, n1, h1, h2, h3⟩ := HC2.out (by
      intro x hx
      rw [List.getElem?_eq_none (by rw [Array.length_toList]; show s.size ≤ k; omega)] at hx
      cases hx)
    have HA := Lib.hid (show uRunes (s.extract 0 k).data.toList = some m1 by rw [ext_take]; exact h1)
    have HD := Lib.hid (show uRunes (s.extract k s.size).data.toList = some n1 by rw [ext_drop]; exact h2)
    have HSUM := Lib.hid (show (((m1 : Int) + (n1 : Int)) == (m : Int)) = true by simp; omega)
    have b1 : m1 ≤ 300 := by omega
    have b2 : n1 ≤ 300 := by omega
    have hBd := hB6.drew
    clear h1 h2 h3 hB6
    go_wp2_with fail
    have hk0 : (0 : Int) ≤ (k : Int) := by omega
    have hk1 : (k : Int) ≤ (s.size : Int) := by omega
    go_region_held3 (fun _ => True) (exact trivial) (first
      | (go_at_call_of 11 (s.extract 0 k); refine (good_any (s.extract 0 k) _ true (by rw [ByteArray.size_extract]; unfold maxLen; omega) (by rw [HA.out]; rfl)).mono ?_; rintro e w' ⟨rfl, hb⟩; have hB1' := below_chain hBd hb; clear hb)
      | (go_at_call_of 11 (s.extract k s.size); refine (good_any (s.extract k s.size) _ true (by rw [ByteArray.size_extract]; unfold maxLen; omega) (by rw [HD.out]; rfl)).mono ?_; rintro e w' ⟨rfl, hb⟩; have hB2' := below_chain hB1' hb; clear hb)
      | (go_at_call_of 12 (s.extract 0 k); refine (runes_at' (s.extract 0 k) (m1 : Int) _ (by rw [ByteArray.size_extract]; unfold maxLen; omega) (by unfold uRunesI; rw [HA.out])).mono ?_; rintro e w' ⟨rfl, hb⟩; have hB3' := below_chain hB2' hb; clear hb)
      | (go_at_call_of 12 (s.extract k s.size); refine (runes_at' (s.extract k s.size) (n1 : Int) _ (by rw [ByteArray.size_extract]; unfold maxLen; omega) (by unfold uRunesI; rw [HD.out])).mono ?_; rintro e w' ⟨rfl, hb⟩; have hB4' := below_chain hB3' hb; clear hb)
      | (go_at_call_of 12 s; refine (runes_at' s (m : Int) _ hsm (by unfold uRunesI; rw [HM.out])).mono ?_; rintro e w' ⟨rfl, hb⟩; have hB5' := below_chain hB4' hb; clear hb))
    go_wp2
    go_ret
    exact ⟨ret_b (by rw [wrap_small _ (by omega) (by omega)]; exact HSUM.out), by assumption⟩

set_option maxRecDepth 100000 in
set_option maxHeartbeats 1000000 in
theorem joins_true (s t : ByteArray) (c : Int) (w : World) (hsm : s.size ≤ maxLen) (htm : t.size ≤ maxLen) :
    Calls Try.prog 8 #[.string s, .string t, .int .i64 c] w fun e w' => e = .returned (.bool true) ∧ Below w.heap.size w w' := by
  by_cases hs : s.size ≤ 300
  · by_cases ht : t.size ≤ 300
    · cases hm : uRunes s.data.toList with
      | none =>
        have HM := Lib.hid hm
        clear hm
        go_enter Try.func8, Try.ntmps8
        go_wp2_with fail
        refine (awake_true _).mono ?_
        rintro e w1 ⟨rfl, hb1⟩
        go_wp2_with fail
        refine (good_any s _ false hsm (by rw [HM.out]; rfl)).mono ?_
        rintro e w2 ⟨rfl, hb2⟩
        have hB2 := below_chain hb1 hb2
        clear hb1 hb2
        go_wp2
        go_ret
        exact ⟨rfl, hB2⟩
      | some m =>
        cases hn : uRunes t.data.toList with
        | none =>
          have HM := Lib.hid hm
          have HN := Lib.hid hn
          clear hm hn
          go_enter Try.func8, Try.ntmps8
          go_wp2_with fail
          refine (awake_true _).mono ?_
          rintro e w1 ⟨rfl, hb1⟩
          go_wp2_with fail
          refine (good_any s _ true hsm (by rw [HM.out]; rfl)).mono ?_
          rintro e w2 ⟨rfl, hb2⟩
          have hB2 := below_chain hb1 hb2
          clear hb1 hb2
          go_wp2_with fail
          refine (good_any t _ false htm (by rw [HN.out]; rfl)).mono ?_
          rintro e w3 ⟨rfl, hb3⟩
          have hB3 := below_chain hB2 hb3
          clear hB2 hb3
          go_wp2
          go_ret
          exact ⟨rfl, hB3⟩
        | some n => exact joins_main s t c w hs ht m n hm hn
    · have ht' : (300 : Int) < (t.size : Int) := by omega
      go_enter Try.func8, Try.ntmps8
      go_wp2_with fail
      refine (awake_true _).mono ?_
      rintro e w1 ⟨rfl, hb1⟩
      go_wp2
      go_ret
      exact ⟨rfl, hb1⟩
  · have hs' : (300 : Int) < (s.size : Int) := by omega
    go_enter Try.func8, Try.ntmps8
    go_wp2_with fail
    refine (awake_true _).mono ?_
    rintro e w1 ⟨rfl, hb1⟩
    go_wp2
    go_ret
    exact ⟨rfl, hb1⟩

theorem joins_own : ownKnob Try.prog.godebug = none := by kernel_rfl

set_option maxRecDepth 100000 in
theorem joins_lifted (os : Os) (started : os.Started) (H : Type) (enc : TypeId × Value → H) :
    ReturnsInHanded {} Try.checked os 8 .any (Rows.utfJoinsSpec.pre6 enc Try.prog Try.f8 Rows.utfJoinsRow.domain false) (Rows.utfJoinsSpec.post enc Try.prog Try.f8 false true false false) := by
  refine returnsInHanded_of_change (C := Try.checked) joins_own started (by kernel_rfl) Try.func8
    (ChangeSpec.witness6 (enc := enc) (C := Try.checked) false ⟨#[], #[.string ByteArray.empty, .string ByteArray.empty, .int .i64 0], []⟩ 8 (by kernel_rfl) (by kernel_rfl) (by kernel_rfl) (by kernel_rfl)) ?_
  intro W base args ds gs before hval0 hW hcnd _
  have hval : ∀ (j : Nat) t v, Try.f8.params[j]? = some t → args[j]? = some v → Value.okWide Try.prog W .any base t v := hval0
  have hW' := hW
  obtain ⟨p, q, hA0, hV, rfl, hfz, hnd⟩ := hW
  have hA : DataW.TrodAll enc Try.prog W 0 (fun _ => true) true Try.f8.params.toList args.toList ds p := hA0
  rw [Try.params8] at hA hval
  obtain ⟨v0, vs0, d0, ds0, p0, q0, hargs, rfl, rfl, h0, r0⟩ := trodAll_cons hA
  obtain ⟨v1, vs1, d1, ds1, p1, q1, rfl, rfl, rfl, h1, r1⟩ := trodAll_cons r0
  obtain ⟨v2, vs2, d2, ds2, p2, q2, rfl, rfl, rfl, h2, r2⟩ := trodAll_cons r1
  obtain ⟨rfl, rfl, rfl⟩ := trodAll_nil r2
  obtain rfl : args = #[v0, v1, v2] := by cases args; simp_all
  obtain ⟨rfl, rfl⟩ := trodVars_none hV
  obtain ⟨a0, rfl, rfl, rfl, w0⟩ := open_string Try.underlying9 (hval 0 9 v0 rfl rfl) h0
  obtain ⟨a1, rfl, rfl, rfl, w1⟩ := open_string Try.underlying9 (hval 1 9 v1 rfl rfl) h1
  obtain ⟨a2, rfl, rfl, rfl, w2⟩ := open_int Try.underlying3 (hval 2 3 v2 rfl rfl) h2
  clear hA0 hval0
  simp only [List.append_nil] at hW'
  refine (joins_true a0 a1 a2 W w0 w1).mono fun e W' ⟨he, bel⟩ => ?_
  subst he
  exact ⟨_, rfl, _, _, _, [], [], [], hW', trodAll_mk1 (shut_bool Try.underlying4 _), (trodAll_cons_mk (shut_string Try.underlying9 w0) (trodAll_cons_mk (shut_string Try.underlying9 w1) (trodAll_cons_mk (shut_int Try.underlying3 w2) trodAll_mk0))), rfl, bel.frame _, fun h => by cases h⟩

theorem joins_holds : Rows.UtfJoinsSaid :=
  OpenClaim.holds_of_wide 8 Try.f8 rfl rfl rfl rfl rfl rfl rfl ⟨rfl, rfl, rfl, rfl, rfl⟩ rfl rfl rfl rfl rfl (by kernel_rfl) Try.func8 (by kernel_rfl)
    (of_decide_eq_true (by kernel_rfl)) (by unfold Func.isWrapper; first | (rw [if_pos (by decide +kernel)]; kernel_rfl) | (rw [if_neg (by decide +kernel)]; exact ⟨rfl, rfl⟩))
    (fun os started H enc _ => joins_lifted os started H enc)
#print axioms joins_holds

end Go.Proofs.Ytomdkkmfgeajgaa
