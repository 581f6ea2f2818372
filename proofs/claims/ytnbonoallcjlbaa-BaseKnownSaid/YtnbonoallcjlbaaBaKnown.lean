/-
  The statement BaseKnown of the stage b64: the call answers true.
  Conditions: none.
-/
import Derived.Test.YtnbonoallcjlbaaBaO
import Derived.Lib.SlBytesConst
namespace Go.Proofs.Ytnbonoallcjlbaa
open Go.ChangeShapes Go.WideShapes Go.ChangeAt Go.RowKit

def badL : List ByteArray := [⟨#[65]⟩, ⟨#[65, 65, 65, 65, 65]⟩, ⟨#[65, 66]⟩, ⟨#[65, 65, 66]⟩, ⟨#[47, 120]⟩, ⟨#[65, 65, 61, 61]⟩, ⟨#[65, 32, 65]⟩, ⟨#[65, 10]⟩, ⟨#[45, 119]⟩, ⟨#[95, 119]⟩, ⟨#[65, 65, 61]⟩, ⟨#[128, 128]⟩]
theorem bad_all : ∀ k : Fin 12, got false (badL.getD k.val ⟨#[]⟩).data.toList = none ∧ (badL.getD k.val ⟨#[]⟩).size ≤ 5 := by decide +kernel
theorem bad_at (k : Nat) (h : k < 12) : ∃ s : ByteArray, (badL.map Value.string)[k]? = some (.string s) ∧ got false s.data.toList = none ∧ s.size ≤ 5 := by
  have hl : k < badL.length := h
  have := bad_all ⟨k, h⟩
  refine ⟨badL.getD k ⟨#[]⟩, ?_, this⟩
  rw [List.getElem?_map, List.getElem?_eq_getElem hl, List.getD_eq_getElem?_getD, List.getElem?_eq_getElem hl]
  rfl
/-- Bytes of a constant text, laid as a row that bears the mark of one. -/
theorem bys_newF (w : World) (l : List UInt8) (fr : Nat × Nat) (h : l.length ≤ 100000) : Bys (w.alloc (.cells (byteVals l).toArray 5 fr)) (.slice (some ⟨w.heap.size, 0, none⟩) l.length l.length) l := by
  refine ⟨_, _, rfl, ⟨Nat.le_refl _, by unfold maxLen; omega, fun h => by cases h⟩, .inr ⟨w.heap.size, 0, rfl, by simp, fun i hi => ?_⟩⟩
  have hb : (w.alloc (.cells (byteVals l).toArray 5 fr)).heap[w.heap.size]? = some (.cells (byteVals l).toArray 5 fr) := by
    show (w.heap.push _)[w.heap.size]? = _
    simp
  simp only [World.cell?, hb]
  simp [byteVals, List.getElem?_eq_getElem hi]
set_option maxRecDepth 100000 in
set_option maxHeartbeats 4000000 in
theorem bknown_true (w : World) : Calls Try.prog 3 #[] w fun e w' => e = .returned (.bool true) ∧ Below w.heap.size w w' := by
  go_enter Try.func3, Try.ntmps3
  go_wp2_with fail
  refine (awake5_true _).mono ?_
  rintro e w1 ⟨rfl, hb1⟩
  go_wp2_with fail
  generalize hW0 : w1.alloc _ = W0
  have hst : W0.heap[w1.heap.size]? = some (.cells (badL.map Value.string).toArray 9 (0, 0)) := by
    subst hW0
    show (w1.heap.push _)[w1.heap.size]? = _
    simp [badL]
  have hb0 : Below w.heap.size w W0 := by subst hW0; exact hb1.alloc hb1.size _
  have hsz0 : w1.heap.size < W0.heap.size := by subst hW0; simp
  generalize w1.heap.size = M at hst hsz0 ⊢
  have HST := Lib.hid hst
  have HB0 := Lib.hid hb0
  have HSZ0 := Lib.hid hsz0
  clear hb1 hst hb0 hsz0 hW0
  go_loopw [2] (fun i wr => ∃ k : Nat, k ≤ 12 ∧ i = .int .i64 k ∧ Below W0.heap.size W0 wr) (fun i _ => 12 - (intOf i).toNat)
  case atStart => exact ⟨0, by omega, rfl, Below.refl _ _⟩
  case round =>
    obtain ⟨k, hk, rfl, hbr⟩ := hrel
    have HBR := Lib.hid hbr
    clear hbr
    by_cases hlt : k < 12
    · have hlt' : (k : Int) < 12 := by omega
      obtain ⟨s, hs1, hs2, hs3⟩ := bad_at k hlt
      have hce : wr.cell? ⟨M, k, none⟩ = some (.string s) := by
        rw [World.cell?_of_block (HBR.out.block M HSZ0.out)]
        simp only [World.cell?, HST.out]
        simpa using hs1
      have HS2 := Lib.hid hs2
      clear hs1 hs2
      go_wp2_with fail
      refine (get_std s wr (by omega)).mono ?_
      rintro e w2 ⟨hb2, hr2⟩
      rw [HS2.out] at hr2
      have e2 : e = _ := hr2
      subst e2
      have HB2 := Lib.hid hb2
      clear hr2 hb2
      go_wp2
      go_roundw
      case rel => exact ⟨k + 1, by omega, rfl, bchain HBR.out HB2.out⟩
      case measure => simp [intOf]; omega
    · have hlt' : ¬ (k : Int) < 12 := by omega
      go_wp2_with fail
      refine (get_url ⟨#[47, 119]⟩ wr (by decide)).mono ?_
      rintro e w2 ⟨hb2, hr2⟩
      rw [show got true (⟨#[47, 119]⟩ : ByteArray).data.toList = none by decide +kernel] at hr2
      have e2 : e = _ := hr2
      subst e2
      have HB2 := Lib.hid hb2
      clear hr2 hb2
      go_wp2_with fail
      refine (get_url ⟨#[43, 65]⟩ w2 (by decide)).mono ?_
      rintro e w3 ⟨hb3, hr3⟩
      rw [show got true (⟨#[43, 65]⟩ : ByteArray).data.toList = none by decide +kernel] at hr3
      have e3 : e = _ := hr3
      subst e3
      have HB3 := Lib.hid hb3
      clear hr3 hb3
      go_wp2_with fail
      refine (get_url ⟨#[45, 95, 45, 95]⟩ w3 (by decide)).mono ?_
      rintro e w4 ⟨hb4, hr4⟩
      rw [show got true (⟨#[45, 95, 45, 95]⟩ : ByteArray).data.toList = some [251, 255, 191] by decide +kernel] at hr4
      obtain ⟨v4, rfl, ho4⟩ := hr4
      have HO4 := Lib.hid ho4.bys
      have HB4 := Lib.hid hb4
      clear ho4 hb4
      go_wp2_with fail
      refine (get_std ⟨#[]⟩ w4 (by decide)).mono ?_
      rintro e w5 ⟨hb5, hr5⟩
      rw [show got false (⟨#[]⟩ : ByteArray).data.toList = some [] by decide +kernel] at hr5
      obtain ⟨v5, rfl, ho5⟩ := hr5
      obtain ⟨a5, c5, rfl, _⟩ := ho5.bys
      have HB5 := Lib.hid hb5
      clear ho5 hb5
      have s4 := (HO4.out.below HB5.out).toStr
      have kc := fun (w : World) (C : Array Value) (n c : Nat) => Lib.run_convert_bytes_const (P := Try.prog) w 24 5 C n c Try.underlying24 Try.underlying5
      go_wp2_with fail
      refine (put_std (.slice none 0 0) [] w5 (by decide) ⟨none, 0, rfl, ⟨by decide, by decide, fun _ => rfl⟩, .inl rfl⟩).mono ?_
      rintro e w6 ⟨rfl, hb6⟩
      rw [show put false [] = [] from rfl]
      have HB6 := Lib.hid hb6
      clear hb6 s4
      go_wp2_with fail
      refine (put_std _ [102, 111, 111, 98, 97, 114] _ (by decide) (bys_newF w6 [102, 111, 111, 98, 97, 114] _ (by decide))).mono ?_
      rintro e w7 ⟨rfl, hb7⟩
      rw [show put false [102, 111, 111, 98, 97, 114] = [90, 109, 57, 118, 89, 109, 70, 121] by decide +kernel]
      have HB7 := Lib.hid (bchain ((Below.refl _ w6).alloc (Nat.le_refl _) _) hb7)
      clear hb7
      go_wp2_with fail
      refine (put_std _ [102, 111, 111, 98] _ (by decide) (bys_newF w7 [102, 111, 111, 98] _ (by decide))).mono ?_
      rintro e w8 ⟨rfl, hb8⟩
      rw [show put false [102, 111, 111, 98] = [90, 109, 57, 118, 89, 103] by decide +kernel]
      have HB8 := Lib.hid (bchain ((Below.refl _ w7).alloc (Nat.le_refl _) _) hb8)
      clear hb8
      go_wp2_with fail
      refine (put_std _ [102, 111] _ (by decide) (bys_newF w8 [102, 111] _ (by decide))).mono ?_
      rintro e w9 ⟨rfl, hb9⟩
      rw [show put false [102, 111] = [90, 109, 56] by decide +kernel]
      have HB9 := Lib.hid (bchain ((Below.refl _ w8).alloc (Nat.le_refl _) _) hb9)
      clear hb9
      have h09 := bchain (bchain (bchain (bchain (bchain (bchain (bchain (bchain HBR.out HB2.out) HB3.out) HB4.out) HB5.out) HB6.out) HB7.out) HB8.out) HB9.out
      have HE := Lib.hid (HB0.out.trans (h09.mono HB0.out.size))
      clear h09
      go_wp2
      go_ret
      exact ⟨rfl, HE.out⟩

theorem bknown_own : ownKnob Try.prog.godebug = none := by kernel_rfl

set_option maxRecDepth 100000 in
theorem bknown_lifted (os : Os) (started : os.Started) (H : Type) (enc : TypeId × Value → H) :
    ReturnsInHanded {} Try.checked os 3 .any (Rows.baseKnownSpec.pre6 enc Try.prog Try.f3 Rows.baseKnownRow.domain false) (Rows.baseKnownSpec.post enc Try.prog Try.f3 false true false false) := by
  refine returnsInHanded_of_change (C := Try.checked) bknown_own started (by kernel_rfl) Try.func3
    (ChangeSpec.witness6 (enc := enc) (C := Try.checked) false ⟨#[], #[], []⟩ 8 (by kernel_rfl) (by kernel_rfl) (by kernel_rfl) (by kernel_rfl)) ?_
  intro W base args ds gs before hval0 hW hcnd _
  have hW' := hW
  obtain ⟨p, q, hA0, hV, rfl, hfz, hnd⟩ := hW
  have hA : DataW.TrodAll enc Try.prog W 0 (fun _ => true) true Try.f3.params.toList args.toList ds p := hA0
  rw [Try.params3] at hA
  obtain ⟨rfl, rfl, rfl⟩ := trodAll_none hA
  obtain ⟨rfl, rfl⟩ := trodVars_none hV
  clear hA0 hval0
  simp only [List.append_nil] at hW'
  refine (bknown_true  W ).mono fun e W' ⟨he, bel⟩ => ?_
  subst he
  exact ⟨_, rfl, _, _, _, [], [], [], hW', trodAll_mk1 (shut_bool Try.underlying4 _), trodAll_mk0, rfl, bel.frame _, fun h => by cases h⟩

theorem bknown_holds : Rows.BaseKnownSaid :=
  OpenClaim.holds_of_wide 3 Try.f3 rfl rfl rfl rfl rfl rfl rfl ⟨rfl, rfl, rfl, rfl, rfl⟩ rfl rfl rfl rfl rfl (by kernel_rfl) Try.func3 (by kernel_rfl)
    (of_decide_eq_true (by kernel_rfl)) (by unfold Func.isWrapper; first | (rw [if_pos (by decide +kernel)]; kernel_rfl) | (rw [if_neg (by decide +kernel)]; exact ⟨rfl, rfl⟩))
    (fun os started H enc _ => bknown_lifted os started H enc)
#print axioms bknown_holds

end Go.Proofs.Ytnbonoallcjlbaa
