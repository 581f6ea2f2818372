/-
  The statement UtfReads of the stage utf: for every text the call answers true.
  Conditions: none.
-/
import Derived.Test.YtomdkkmfgeajgaaUtfW
import Derived.Test.YtomdkkmfgeajgaaRefF
import Derived.ProofKit
import Derived.OpenShut
import Derived.ShutString
namespace Go.Proofs.Ytomdkkmfgeajgaa
open Go.ChangeShapes Go.WideShapes Go.ChangeAt Go.RowKit
open Go.ChangeMaps (open_string shut_string)

theorem reads_chain {w a b : World} (h : Below w.heap.size w a) (k : Below a.heap.size a b) : Below w.heap.size w b := h.trans (k.mono h.size)
def StrsAt (w : World) (b : Nat) (l : List ByteArray) : Prop := w.heap[b]? = some (.cells (l.map Value.string).toArray 9 (0, 0))
theorem StrsAt.cell {w : World} {b : Nat} {l : List ByteArray} (h : StrsAt w b l) (k : Nat) (hk : k < l.length) : w.cell? ⟨b, k, none⟩ = some (.string l[k]) := by
  unfold StrsAt at h
  simp only [World.cell?, h]
  simp [List.getElem?_map, List.getElem?_eq_getElem hk]
theorem StrsAt.below {w w' : World} {b B : Nat} {l : List ByteArray} (h : StrsAt w b l) (hb : Below B w w') (hB : b < B) : StrsAt w' b l := by
  unfold StrsAt; rw [hb.block b hB]; exact h
theorem StrsAt.new (w : World) (l : List ByteArray) : StrsAt (w.alloc (.cells (l.map Value.string).toArray 9)) w.heap.size l := by
  show (w.heap.push _)[w.heap.size]? = _
  simp
/-- Both readers give one answer. -/
theorem reads_same (z : ByteArray) (hz : 4 * z.size + 8 ≤ 140737488355328) : ∃ (o : ByteArray) (n x : Int), (∀ w, Calls Try.prog 13 #[.string z] w fun e w' => e = .returned (.tuple #[.string o, .int .i64 n, .int .i64 x]) ∧ Below w.heap.size w w') ∧
    (∀ w, Calls Try.prog 18 #[.string z] w fun e w' => e = .returned (.tuple #[.string o, .int .i64 n, .int .i64 x]) ∧ Below w.heap.size w w') := by
  cases hu : uUnq z.data.toList with
  | none =>
    refine ⟨⟨#[]⟩, 0, 2, fun w => ?_, fun w => ?_⟩
    · refine (unquote_any z w hz).mono ?_
      rintro e w' ⟨hb, h1⟩
      rw [hu] at h1
      exact ⟨h1, hb⟩
    · refine (refUnquote_any z w hz).mono ?_
      rintro e w' ⟨hb, h1⟩
      rw [hu] at h1
      exact ⟨h1, hb⟩
  | some p =>
    obtain ⟨o, n⟩ := p
    refine ⟨⟨o.toArray⟩, n, 0, fun w => ?_, fun w => ?_⟩
    · refine (unquote_any z w hz).mono ?_
      rintro e w' ⟨hb, h1⟩
      rw [hu] at h1
      exact ⟨h1, hb⟩
    · refine (refUnquote_any z w hz).mono ?_
      rintro e w' ⟨hb, h1⟩
      rw [hu] at h1
      exact ⟨h1, hb⟩

set_option maxRecDepth 100000 in
set_option maxHeartbeats 1000000 in
theorem reads_main (s : ByteArray) (w : World) (hs : s.size ≤ 300) :
    Calls Try.prog 5 #[.string s] w fun e w' => e = .returned (.bool true) ∧ Below w.heap.size w w' := by
  have hs' : (s.size : Int) ≤ 300 := by omega
  go_enter Try.func5, Try.ntmps5
  go_wp2_with fail
  refine (awake_true _).mono ?_
  rintro e w1 ⟨rfl, hb1⟩
  go_wp2_with fail
  have hst0 : StrsAt (w1.alloc (.cells #[.string s, .string ((ByteArray.mk #[34]) ++ s), .string ((ByteArray.mk #[34]) ++ s ++ (ByteArray.mk #[34]))] 9)) w1.heap.size [s, (ByteArray.mk #[34]) ++ s, (ByteArray.mk #[34]) ++ s ++ (ByteArray.mk #[34])] := by
    show (w1.heap.push _)[w1.heap.size]? = _
    simp
  have hbW := hb1.alloc hb1.size (.cells #[.string s, .string ((ByteArray.mk #[34]) ++ s), .string ((ByteArray.mk #[34]) ++ s ++ (ByteArray.mk #[34]))] 9)
  generalize w1.alloc (.cells #[.string s, .string ((ByteArray.mk #[34]) ++ s), .string ((ByteArray.mk #[34]) ++ s ++ (ByteArray.mk #[34]))] 9) = W0 at hst0 hbW ⊢
  generalize w1.heap.size = M at hst0 ⊢
  have hall : ∀ z ∈ [s, (ByteArray.mk #[34]) ++ s, (ByteArray.mk #[34]) ++ s ++ (ByteArray.mk #[34])], 4 * z.size + 8 ≤ 140737488355328 := by
    have h1 : ((ByteArray.mk #[34]) : ByteArray).size = 1 := rfl
    intro z hz
    simp only [List.mem_cons, List.not_mem_nil, or_false] at hz
    rcases hz with rfl | rfl | rfl <;> (try simp only [ByteArray.size_append]) <;> omega
  obtain ⟨T, hT⟩ : ∃ T, T = [s, (ByteArray.mk #[34]) ++ s, (ByteArray.mk #[34]) ++ s ++ (ByteArray.mk #[34])] := ⟨_, rfl⟩
  have hTl : T.length = 3 := by rw [hT]; rfl
  rw [← hT] at hst0 hall
  have HALL := Lib.hid hall
  have HTL := Lib.hid hTl
  clear hb1 hall hT hTl
  go_loopw [4] (fun i wr => ∃ k : Nat, k ≤ 3 ∧ i = .int .i64 k ∧ StrsAt wr M T ∧ Below w.heap.size w wr) (fun i _ => 3 - (intOf i).toNat)
  case atStart => exact ⟨0, by omega, rfl, hst0, hbW⟩
  case round =>
    clear hst0 hbW
    obtain ⟨k, hk, rfl, hst, hbel⟩ := hrel
    by_cases hlt : k < 3
    · have hlt' : (k : Int) < 3 := by omega
      have hkT : k < T.length := by rw [HTL.out]; exact hlt
      have hcell := hst.cell k hkT
      obtain ⟨o, n, x, hq⟩ := reads_same T[k] (HALL.out _ (List.getElem_mem hkT))
      generalize T[k] = z at hcell hq
      have HQ1 := Lib.hid hq.1
      have HQ2 := Lib.hid hq.2
      have HS := Lib.hid hst
      have hMs : M < wr.heap.size := lt_of_block hst
      clear hq hst
      go_wp2_with fail
      refine (HQ1.out _).mono ?_
      rintro e w2 ⟨rfl, hb2⟩
      have hcell2 : w2.cell? ⟨M, k, none⟩ = some (.string z) := by rw [hb2.cell (p := ⟨M, k, none⟩) hMs]; exact hcell
      have hz2 := hb2.size
      clear hcell
      go_wp2_with fail
      refine (HQ2.out _).mono ?_
      rintro e w3 ⟨rfl, hb3⟩
      have hb23 : Below wr.heap.size wr w3 := hb2.trans (hb3.mono hz2)
      have R : StrsAt w3 M T ∧ Below w.heap.size w w3 := ⟨HS.out.below hb23 hMs, hbel.trans (hb23.mono hbel.size)⟩
      clear hb2 hb3 hz2 hcell2 hb23
      go_wp2
      all_goals
        go_roundw
        case rel => exact ⟨k + 1, by omega, by go_num, R.1, R.2⟩
        case measure => simp [intOf]; omega
    · go_wp2
      go_ret
      exact ⟨rfl, hbel⟩

set_option maxRecDepth 100000 in
set_option maxHeartbeats 400000 in
theorem reads_true (s : ByteArray) (w : World) (_hsm : s.size ≤ maxLen) :
    Calls Try.prog 5 #[.string s] w fun e w' => e = .returned (.bool true) ∧ Below w.heap.size w w' := by
  by_cases hs : s.size ≤ 300
  · exact reads_main s w hs
  · have hs' : (300 : Int) < (s.size : Int) := by omega
    go_enter Try.func5, Try.ntmps5
    go_wp2_with fail
    refine (awake_true _).mono ?_
    rintro e w1 ⟨rfl, hb1⟩
    go_wp2
    go_ret
    exact ⟨rfl, hb1⟩

theorem reads_own : ownKnob Try.prog.godebug = none := by kernel_rfl

set_option maxRecDepth 100000 in
theorem reads_lifted (os : Os) (started : os.Started) (H : Type) (enc : TypeId × Value → H) :
    ReturnsInHanded {} Try.checked os 5 .any (Rows.utfReadsSpec.pre6 enc Try.prog Try.f5 Rows.utfReadsRow.domain false) (Rows.utfReadsSpec.post enc Try.prog Try.f5 false true false false) := by
  refine returnsInHanded_of_change (C := Try.checked) reads_own started (by kernel_rfl) Try.func5
    (ChangeSpec.witness6 (enc := enc) (C := Try.checked) false ⟨#[], #[.string ByteArray.empty], []⟩ 8 (by kernel_rfl) (by kernel_rfl) (by kernel_rfl) (by kernel_rfl)) ?_
  intro W base args ds gs before hval0 hW hcnd _
  have hval : ∀ (j : Nat) t v, Try.f5.params[j]? = some t → args[j]? = some v → Value.okWide Try.prog W .any base t v := hval0
  have hW' := hW
  obtain ⟨p, q, hA0, hV, rfl, hfz, hnd⟩ := hW
  have hA : DataW.TrodAll enc Try.prog W 0 (fun _ => true) true Try.f5.params.toList args.toList ds p := hA0
  rw [Try.params5] at hA hval
  obtain ⟨v0, vs0, d0, ds0, p0, q0, hargs, rfl, rfl, h0, r0⟩ := trodAll_cons hA
  obtain ⟨rfl, rfl, rfl⟩ := trodAll_nil r0
  obtain rfl : args = #[v0] := by cases args; simp_all
  obtain ⟨rfl, rfl⟩ := trodVars_none hV
  obtain ⟨a0, rfl, rfl, rfl, w0⟩ := open_string Try.underlying9 (hval 0 9 v0 rfl rfl) h0
  clear hA0 hval0
  simp only [List.append_nil] at hW'
  refine (reads_true a0 W w0).mono fun e W' ⟨he, bel⟩ => ?_
  subst he
  exact ⟨_, rfl, _, _, _, [], [], [], hW', trodAll_mk1 (shut_bool Try.underlying4 _), (trodAll_cons_mk (shut_string Try.underlying9 w0) trodAll_mk0), rfl, bel.frame _, fun h => by cases h⟩

theorem reads_holds : Rows.UtfReadsSaid :=
  OpenClaim.holds_of_wide 5 Try.f5 rfl rfl rfl rfl rfl rfl rfl ⟨rfl, rfl, rfl, rfl, rfl⟩ rfl rfl rfl rfl rfl (by kernel_rfl) Try.func5 (by kernel_rfl)
    (of_decide_eq_true (by kernel_rfl)) (by unfold Func.isWrapper; first | (rw [if_pos (by decide +kernel)]; kernel_rfl) | (rw [if_neg (by decide +kernel)]; exact ⟨rfl, rfl⟩))
    (fun os started H enc _ => reads_lifted os started H enc)
#print axioms reads_holds

end Go.Proofs.Ytomdkkmfgeajgaa
