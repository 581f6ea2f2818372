/-
  The statement UtfBack of the stage utf: for every two texts the call answers true.
  Conditions: none.
-/
import Derived.Test.YtomdkkmfgeajgaaUtfW
import Derived.Test.YtomdkkmfgeajgaaUtfN
import Derived.ProofKit
import Derived.OpenShut
import Derived.ShutString
namespace Go.Proofs.Ytomdkkmfgeajgaa
open Go.ChangeShapes Go.WideShapes Go.ChangeAt Go.RowKit
open Go.ChangeMaps (open_string shut_string)

theorem back_chain {w a b : World} (h : Below w.heap.size w a) (k : Below a.heap.size a b) : Below w.heap.size w b := h.trans (k.mono h.size)
theorem flat_len : ∀ l : List UInt8, (l.flatMap uEnc).length ≤ 6 * l.length
  | [] => by simp
  | c :: l => by
    have := uEnc_len c
    have := flat_len l
    rw [List.flatMap_cons, List.length_append, List.length_cons]; omega
theorem uQuote_len (l : List UInt8) : (uQuote l).length ≤ 6 * l.length + 2 := by
  have := flat_len l
  simp only [uQuote, List.length_append, List.length_cons, List.length_nil]; omega

set_option maxRecDepth 100000 in
set_option maxHeartbeats 1000000 in
theorem back_main (s t q : ByteArray) (w : World) (hs : s.size ≤ 300) (ht : t.size ≤ 300) (n : Nat) (hn : uRunes s.data.toList = some n) (hq : q.data.toList = uQuote s.data.toList) :
    Calls Try.prog 6 #[.string s, .string t] w fun e w' => e = .returned (.bool true) ∧ Below w.heap.size w w' := by
  have hqs : q.size ≤ 1802 := by
    have h1 := uQuote_len s.data.toList
    rw [← hq, Array.length_toList, Array.length_toList] at h1
    have h2 : q.data.size = q.size := rfl
    have h3 : s.data.size = s.size := rfl
    omega
  have HN := Lib.hid hn
  have HQ := Lib.hid hq
  have hsm : s.size ≤ maxLen := by unfold maxLen; omega
  have hqm : q.size ≤ maxLen := by unfold maxLen; omega
  have hge : ∀ k (hk : k < q.size), (32 : Int) ≤ ((q[k]'hk).toNat : Int) := by
    intro k hk
    have h1 : q[k] ∈ q.data.toList := Array.getElem_mem_toList (xs := q.data) hk
    rw [hq] at h1
    have := uQuote_ge _ _ h1
    omega
  have HGE := Lib.hid hge
  clear hn hq hge
  go_enter Try.func6, Try.ntmps6
  go_wp2_with fail
  refine (awake_true _).mono ?_
  rintro e w1 ⟨rfl, hb1⟩
  go_wp2_with fail
  refine (quote_at s q _ (by omega) (by rw [HN.out]; rfl) HQ.out).mono ?_
  rintro e w2 ⟨rfl, hb2⟩
  have hB2 := back_chain hb1 hb2
  clear hb1 hb2
  go_wp2_with fail
  refine (unquote_at (q ++ t) s q.size _ (by rw [ByteArray.size_append]; omega) (by
    have e1 : (q ++ t).data.toList = q.data.toList ++ t.data.toList := by simp
    have e2 : q.size = (uQuote s.data.toList).length := by rw [← HQ.out, Array.length_toList]; rfl
    rw [e1, e2, HQ.out]; exact uUnq_quote HN.out _)).mono ?_
  rintro e w3 ⟨rfl, hb3⟩
  have hB3 := back_chain hB2 hb3
  clear hB2 hb3
  go_wp2_with fail
  go_loopw [10] (fun i wr => ∃ k : Nat, k ≤ q.size ∧ i = .int .i64 k ∧ Below w.heap.size w wr) (fun i _ => q.size - (intOf i).toNat)
  case atStart => exact ⟨0, by omega, rfl, hB3⟩
  case round =>
    clear hB3
    obtain ⟨k, hk, rfl, hbel⟩ := hrel
    by_cases hlt : k < q.size
    · have hlt' : (k : Int) < (q.size : Int) := by omega
      have hb32 := HGE.out k hlt
      go_wp2
      go_roundw
      case rel => exact ⟨k + 1, by omega, by go_num, hbel⟩
      case measure => simp [intOf]; omega
    · go_wp2_with fail
      refine (good_any s _ true hsm (by rw [HN.out]; rfl)).mono ?_
      rintro e w4 ⟨rfl, hb4⟩
      have hB4 := back_chain hbel hb4
      clear hbel hb4
      go_wp2_with fail
      refine (good_any q _ true hqm (by rw [HQ.out]; exact uQuote_good HN.out)).mono ?_
      rintro e w5 ⟨rfl, hb5⟩
      have hB5 := back_chain hB4 hb5
      clear hB4 hb5
      go_wp2
      go_ret
      exact ⟨rfl, hB5⟩

set_option maxRecDepth 100000 in
set_option maxHeartbeats 1000000 in
theorem back_true (s t : ByteArray) (w : World) (hsm : s.size ≤ maxLen) (_htm : t.size ≤ maxLen) :
    Calls Try.prog 6 #[.string s, .string t] w fun e w' => e = .returned (.bool true) ∧ Below w.heap.size w w' := by
  by_cases hs : s.size ≤ 300
  · by_cases ht : t.size ≤ 300
    · cases hn : uRunes s.data.toList with
      | none =>
        have HN := Lib.hid hn
        clear hn
        go_enter Try.func6, Try.ntmps6
        go_wp2_with fail
        refine (awake_true _).mono ?_
        rintro e w1 ⟨rfl, hb1⟩
        go_wp2_with fail
        refine (quote_no s _ hsm (by rw [HN.out]; rfl)).mono ?_
        rintro e w2 ⟨rfl, hb2⟩
        have hB2 := back_chain hb1 hb2
        clear hb1 hb2
        go_wp2_with fail
        refine (good_any s _ false hsm (by rw [HN.out]; rfl)).mono ?_
        rintro e w3 ⟨rfl, hb3⟩
        have hB3 := back_chain hB2 hb3
        clear hB2 hb3
        go_wp2
        go_ret
        exact ⟨rfl, hB3⟩
      | some n => exact back_main s t ⟨(uQuote s.data.toList).toArray⟩ w hs ht n hn (by simp)
    · have ht' : (300 : Int) < (t.size : Int) := by omega
      go_enter Try.func6, Try.ntmps6
      go_wp2_with fail
      refine (awake_true _).mono ?_
      rintro e w1 ⟨rfl, hb1⟩
      go_wp2
      go_ret
      exact ⟨rfl, hb1⟩
  · have hs' : (300 : Int) < (s.size : Int) := by omega
    go_enter Try.func6, Try.ntmps6
    go_wp2_with fail
    refine (awake_true _).mono ?_
    rintro e w1 ⟨rfl, hb1⟩
    go_wp2
    go_ret
    exact ⟨rfl, hb1⟩

theorem back_own : ownKnob Try.prog.godebug = none := by kernel_rfl

set_option maxRecDepth 100000 in
theorem back_lifted (os : Os) (started : os.Started) (H : Type) (enc : TypeId × Value → H) :
    ReturnsInHanded {} Try.checked os 6 .any (Rows.utfBackSpec.pre6 enc Try.prog Try.f6 Rows.utfBackRow.domain false) (Rows.utfBackSpec.post enc Try.prog Try.f6 false true false false) := by
  refine returnsInHanded_of_change (C := Try.checked) back_own started (by kernel_rfl) Try.func6
    (ChangeSpec.witness6 (enc := enc) (C := Try.checked) false ⟨#[], #[.string ByteArray.empty, .string ByteArray.empty], []⟩ 8 (by kernel_rfl) (by kernel_rfl) (by kernel_rfl) (by kernel_rfl)) ?_
  intro W base args ds gs before hval0 hW hcnd _
  have hval : ∀ (j : Nat) t v, Try.f6.params[j]? = some t → args[j]? = some v → Value.okWide Try.prog W .any base t v := hval0
  have hW' := hW
  obtain ⟨p, q, hA0, hV, rfl, hfz, hnd⟩ := hW
  have hA : DataW.TrodAll enc Try.prog W 0 (fun _ => true) true Try.f6.params.toList args.toList ds p := hA0
  rw [Try.params6] at hA hval
  obtain ⟨v0, vs0, d0, ds0, p0, q0, hargs, rfl, rfl, h0, r0⟩ := trodAll_cons hA
  obtain ⟨v1, vs1, d1, ds1, p1, q1, rfl, rfl, rfl, h1, r1⟩ := trodAll_cons r0
  obtain ⟨rfl, rfl, rfl⟩ := trodAll_nil r1
  obtain rfl : args = #[v0, v1] := by cases args; simp_all
  obtain ⟨rfl, rfl⟩ := trodVars_none hV
  obtain ⟨a0, rfl, rfl, rfl, w0⟩ := open_string Try.underlying9 (hval 0 9 v0 rfl rfl) h0
  obtain ⟨a1, rfl, rfl, rfl, w1⟩ := open_string Try.underlying9 (hval 1 9 v1 rfl rfl) h1
  clear hA0 hval0
  simp only [List.append_nil] at hW'
  refine (back_true a0 a1 W w0 w1).mono fun e W' ⟨he, bel⟩ => ?_
  subst he
  exact ⟨_, rfl, _, _, _, [], [], [], hW', trodAll_mk1 (shut_bool Try.underlying4 _), (trodAll_cons_mk (shut_string Try.underlying9 w0) (trodAll_cons_mk (shut_string Try.underlying9 w1) trodAll_mk0)), rfl, bel.frame _, fun h => by cases h⟩

theorem back_holds : Rows.UtfBackSaid :=
  OpenClaim.holds_of_wide 6 Try.f6 rfl rfl rfl rfl rfl rfl rfl ⟨rfl, rfl, rfl, rfl, rfl⟩ rfl rfl rfl rfl rfl (by kernel_rfl) Try.func6 (by kernel_rfl)
    (of_decide_eq_true (by kernel_rfl)) (by unfold Func.isWrapper; first | (rw [if_pos (by decide +kernel)]; kernel_rfl) | (rw [if_neg (by decide +kernel)]; exact ⟨rfl, rfl⟩))
    (fun os started H enc _ => back_lifted os started H enc)
#print axioms back_holds

end Go.Proofs.Ytomdkkmfgeajgaa
