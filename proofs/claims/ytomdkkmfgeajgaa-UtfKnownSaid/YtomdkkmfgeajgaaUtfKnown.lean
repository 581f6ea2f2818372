/-
  The statement UtfKnown of the stage utf: whatever the memory, the call answers true.
  Conditions: none.
-/
import Derived.Test.YtomdkkmfgeajgaaUtfW
import Derived.ProofKit
namespace Go.Proofs.Ytomdkkmfgeajgaa
open Go.ChangeShapes Go.WideShapes Go.ChangeAt Go.RowKit

def badL : List ByteArray := [⟨#[192, 128]⟩, ⟨#[237, 160, 128]⟩, ⟨#[244, 144, 128, 128]⟩, ⟨#[226, 130]⟩, ⟨#[128]⟩, ⟨#[240, 128, 128, 128]⟩]
def noL : List ByteArray := [⟨#[]⟩, ⟨#[97]⟩, ⟨#[34]⟩, ⟨#[34, 97]⟩, ⟨#[34, 92, 34]⟩, ⟨#[34, 10, 34]⟩, ⟨#[34, 92, 120, 34]⟩, ⟨#[34, 92, 117, 49, 50, 34]⟩, ⟨#[34, 92, 117, 100, 56, 48, 48, 34]⟩, ⟨#[34, 92, 117, 100, 99, 48, 48, 34]⟩, ⟨#[34, 92, 117, 100, 56, 48, 48, 92, 117, 48, 48, 52, 49, 34]⟩, ⟨#[34, 255, 34]⟩]
def strVals (l : List ByteArray) : Array Value := (l.map Value.string).toArray
def StrAt (w : World) (b : Nat) (l : List ByteArray) : Prop := w.heap[b]? = some (.cells (strVals l) 9 (0, 0))
theorem StrAt.cell {w : World} {b : Nat} {l : List ByteArray} (h : StrAt w b l) (k : Nat) (hk : k < l.length) : w.cell? ⟨b, k, none⟩ = some (.string l[k]) := by
  unfold StrAt at h
  simp only [World.cell?, h]
  simp [strVals, List.getElem?_map, List.getElem?_eq_getElem hk]
theorem StrAt.below {w w' : World} {b B : Nat} {l : List ByteArray} (h : StrAt w b l) (hb : Below B w w') (hB : b < B) : StrAt w' b l := by
  unfold StrAt; rw [hb.block b hB]; exact h
theorem StrAt.new (w : World) (l : List ByteArray) : StrAt (w.alloc (.cells (strVals l) 9)) w.heap.size l := by
  show (w.heap.push _)[w.heap.size]? = _
  simp
theorem bad_all : ∀ k : Fin 6, (uRunes (badL[k.val]'(k.isLt)).data.toList) = none ∧ (badL[k.val]'(k.isLt)).size ≤ 100 := by decide
theorem no_all : ∀ k : Fin 12, (uUnq (noL[k.val]'(k.isLt)).data.toList) = none ∧ (noL[k.val]'(k.isLt)).size ≤ 100 := by decide

theorem bad_at (k : Nat) (hk : k < 6) : ∃ s, badL[k]'hk = s ∧ (uRunes s.data.toList) = none ∧ s.size ≤ 100 := ⟨_, rfl, bad_all ⟨k, hk⟩⟩
theorem no_at (k : Nat) (hk : k < 12) : ∃ s, noL[k]'hk = s ∧ (uUnq s.data.toList) = none ∧ s.size ≤ 100 := ⟨_, rfl, no_all ⟨k, hk⟩⟩

theorem runes_at (s : ByteArray) (n : Int) (w : World) (hs : s.size ≤ maxLen) (h : uRunesI s.data.toList = n) :
    Calls Try.prog 12 #[.string s] w fun e w' => e = .returned (.int .i64 n) ∧ Below w.heap.size w w' := by
  subst h; exact runes_any s w hs
set_option maxHeartbeats 400000 in
theorem less_any (a b : ByteArray) (v : Bool) (w : World) (h : Op.bytesLess a.toList b.toList = v) :
    Calls Try.prog 14 #[.string a, .string b] w fun e w' => e = .returned (.bool v) ∧ w = w' := by
  have H := Lib.hid h
  clear h
  go_enter Try.func14, Try.ntmps14
  go_wp2
  go_ret
  exact ⟨ret_b H.out, rfl⟩

set_option maxRecDepth 100000 in
set_option maxHeartbeats 1000000 in
theorem known_true (w : World) : Calls Try.prog 3 #[] w fun e w' => e = .returned (.bool true) ∧ Below w.heap.size w w' := by
  go_enter Try.func3, Try.ntmps3
  go_wp2_with fail
  refine (awake_true _).mono ?_
  rintro e w1 ⟨rfl, hb1⟩
  go_wp2_with fail
  have hst0 : StrAt (w1.alloc (.cells #[.string ⟨#[192, 128]⟩, .string ⟨#[237, 160, 128]⟩, .string ⟨#[244, 144, 128, 128]⟩, .string ⟨#[226, 130]⟩, .string ⟨#[128]⟩, .string ⟨#[240, 128, 128, 128]⟩] 9)) w1.heap.size badL := StrAt.new w1 badL
  have hbW := hb1.alloc hb1.size (.cells #[.string ⟨#[192, 128]⟩, .string ⟨#[237, 160, 128]⟩, .string ⟨#[244, 144, 128, 128]⟩, .string ⟨#[226, 130]⟩, .string ⟨#[128]⟩, .string ⟨#[240, 128, 128, 128]⟩] 9)
  have hM : w.heap.size ≤ w1.heap.size := hb1.size
  generalize w1.alloc (.cells #[.string ⟨#[192, 128]⟩, .string ⟨#[237, 160, 128]⟩, .string ⟨#[244, 144, 128, 128]⟩, .string ⟨#[226, 130]⟩, .string ⟨#[128]⟩, .string ⟨#[240, 128, 128, 128]⟩] 9) = W0 at hst0 hbW ⊢
  generalize w1.heap.size = M at hst0 hM ⊢
  clear hb1
  go_loopw [2] (fun i wr => ∃ k : Nat, k ≤ 6 ∧ i = .int .i64 k ∧ StrAt wr M badL ∧ Below w.heap.size w wr) (fun i _ => 6 - (intOf i).toNat)
  case atStart => exact ⟨0, by omega, rfl, hst0, hbW⟩
  case round =>
    clear hst0 hbW
    obtain ⟨k, hk, rfl, hst, hbel⟩ := hrel
    by_cases hlt : k < 6
    · have hlt' : (k : Int) < 6 := by omega
      obtain ⟨s, hsk, hsn, hsz⟩ := bad_at k hlt
      have hcell := hst.cell k hlt
      rw [hsk] at hcell
      have hsm : s.size ≤ maxLen := by unfold maxLen; omega
      have HN := Lib.hid hsn
      have HS := Lib.hid hst
      have HML := Lib.hid hsm
      have hMs : M < wr.heap.size := lt_of_block hst
      clear hsk hsn hsz hst hsm
      go_wp2_with fail
      refine (quote_no s _ HML.out (by rw [HN.out]; rfl)).mono ?_
      rintro e w2 ⟨rfl, hb2⟩
      have hcell2 : w2.cell? ⟨M, k, none⟩ = some (.string s) := by rw [hb2.cell (p := ⟨M, k, none⟩) hMs]; exact hcell
      have hz2 := hb2.size
      clear hcell
      go_wp2_with fail
      refine (good_any s _ false HML.out (by rw [HN.out]; rfl)).mono ?_
      rintro e w3 ⟨rfl, hb3⟩
      have hcell3 : w3.cell? ⟨M, k, none⟩ = some (.string s) := by rw [hb3.cell (p := ⟨M, k, none⟩) (Nat.lt_of_lt_of_le hMs hz2)]; exact hcell2
      have hz3 := hb3.size
      clear hcell2
      go_wp2_with fail
      refine (runes_at s (-1) _ HML.out (by unfold uRunesI; rw [HN.out])).mono ?_
      rintro e w4 ⟨rfl, hb4⟩
      have hb24 : Below wr.heap.size wr w4 := (hb2.trans (hb3.mono hz2)).trans (hb4.mono (Nat.le_trans hz2 hz3))
      have R : StrAt w4 M badL ∧ Below w.heap.size w w4 := ⟨HS.out.below hb24 hMs, hbel.trans (hb24.mono hbel.size)⟩
      clear hb2 hb3 hb4 hz2 hz3 hcell3 hb24
      go_wp2
      go_roundw
      case rel => exact ⟨k + 1, by omega, by go_num, R.1, R.2⟩
      case measure => simp [intOf]; omega
    · go_wp2_with fail
      have hst1 : StrAt (wr.alloc (.cells #[.string ⟨#[]⟩, .string ⟨#[97]⟩, .string ⟨#[34]⟩, .string ⟨#[34, 97]⟩, .string ⟨#[34, 92, 34]⟩, .string ⟨#[34, 10, 34]⟩, .string ⟨#[34, 92, 120, 34]⟩, .string ⟨#[34, 92, 117, 49, 50, 34]⟩, .string ⟨#[34, 92, 117, 100, 56, 48, 48, 34]⟩, .string ⟨#[34, 92, 117, 100, 99, 48, 48, 34]⟩, .string ⟨#[34, 92, 117, 100, 56, 48, 48, 92, 117, 48, 48, 52, 49, 34]⟩, .string ⟨#[34, 255, 34]⟩] 9)) wr.heap.size noL := StrAt.new wr noL
      have hbV := hbel.alloc hbel.size (.cells #[.string ⟨#[]⟩, .string ⟨#[97]⟩, .string ⟨#[34]⟩, .string ⟨#[34, 97]⟩, .string ⟨#[34, 92, 34]⟩, .string ⟨#[34, 10, 34]⟩, .string ⟨#[34, 92, 120, 34]⟩, .string ⟨#[34, 92, 117, 49, 50, 34]⟩, .string ⟨#[34, 92, 117, 100, 56, 48, 48, 34]⟩, .string ⟨#[34, 92, 117, 100, 99, 48, 48, 34]⟩, .string ⟨#[34, 92, 117, 100, 56, 48, 48, 92, 117, 48, 48, 52, 49, 34]⟩, .string ⟨#[34, 255, 34]⟩] 9)
      have hM1 : w.heap.size ≤ wr.heap.size := hbel.size
      generalize wr.alloc (.cells #[.string ⟨#[]⟩, .string ⟨#[97]⟩, .string ⟨#[34]⟩, .string ⟨#[34, 97]⟩, .string ⟨#[34, 92, 34]⟩, .string ⟨#[34, 10, 34]⟩, .string ⟨#[34, 92, 120, 34]⟩, .string ⟨#[34, 92, 117, 49, 50, 34]⟩, .string ⟨#[34, 92, 117, 100, 56, 48, 48, 34]⟩, .string ⟨#[34, 92, 117, 100, 99, 48, 48, 34]⟩, .string ⟨#[34, 92, 117, 100, 56, 48, 48, 92, 117, 48, 48, 52, 49, 34]⟩, .string ⟨#[34, 255, 34]⟩] 9) = W1 at hst1 hbV ⊢
      generalize wr.heap.size = M1 at hst1 hM1 ⊢
      clear hbel hst
      go_loopw [6] (fun i wr => ∃ k : Nat, k ≤ 12 ∧ i = .int .i64 k ∧ StrAt wr M1 noL ∧ Below w.heap.size w wr) (fun i _ => 12 - (intOf i).toNat)
      case atStart => exact ⟨0, by omega, rfl, hst1, hbV⟩
      case round =>
        clear hst1 hbV
        obtain ⟨k, hk, rfl, hst, hbel⟩ := hrel
        by_cases hlt : k < 12
        · have hlt' : (k : Int) < 12 := by omega
          obtain ⟨s, hsk, hsn, hsz⟩ := no_at k hlt
          have hcell := hst.cell k hlt
          rw [hsk] at hcell
          have HN := Lib.hid hsn
          have HS := Lib.hid hst
          have HML := Lib.hid hsz
          have hMs : M1 < wr.heap.size := lt_of_block hst
          clear hsk hsn hsz hst
          go_wp2_with fail
          refine (unquote_no s _ (by have := HML.out; omega) HN.out).mono ?_
          rintro e w2 ⟨rfl, hb2⟩
          have R : StrAt w2 M1 noL ∧ Below w.heap.size w w2 := ⟨HS.out.below hb2 hMs, hbel.trans (hb2.mono hbel.size)⟩
          clear hb2 hcell
          go_wp2
          go_roundw
          case rel => exact ⟨k + 1, by omega, by go_num, R.1, R.2⟩
          case measure => simp [intOf]; omega
        · clear hst
          go_wp2_with fail
          refine (unquote_at ⟨#[34, 92, 117, 68, 56, 51, 100, 92, 117, 100, 101, 48, 48, 92, 47, 92, 117, 48, 48, 101, 57, 34, 32, 114, 101, 115, 116]⟩ ⟨#[240, 159, 152, 128, 47, 195, 169]⟩ 22 _ (by decide) (by decide)).mono ?_
          rintro e w2 ⟨rfl, hb2⟩
          have hB2 := hbel.trans (hb2.mono hbel.size)
          clear hb2 hbel
          go_wp2_with fail
          refine (quote_at ⟨#[1, 8, 9, 10, 12, 13, 31, 127, 92, 195, 169]⟩ ⟨#[34, 92, 117, 48, 48, 48, 49, 92, 98, 92, 116, 92, 110, 92, 102, 92, 114, 92, 117, 48, 48, 49, 102, 127, 92, 92, 195, 169, 34]⟩ _ (by decide) (by decide) (by decide)).mono ?_
          rintro e w3 ⟨rfl, hb3⟩
          have hB3 := hB2.trans (hb3.mono hB2.size)
          clear hb3 hB2
          go_wp2_with fail
          refine (runes_at ⟨#[195, 169, 240, 159, 152, 128]⟩ 2 _ (by decide) (by decide)).mono ?_
          rintro e w4 ⟨rfl, hb4⟩
          have hB4 := hB3.trans (hb4.mono hB3.size)
          clear hb4 hB3
          go_wp2_with fail
          refine (less_any ⟨#[97]⟩ ⟨#[97, 98]⟩ true _ (by decide +kernel)).mono ?_
          rintro e w5 ⟨rfl, rfl⟩
          go_wp2_with fail
          refine (less_any ⟨#[239, 191, 191]⟩ ⟨#[240, 144, 128, 128]⟩ true _ (by decide +kernel)).mono ?_
          rintro e w6 ⟨rfl, rfl⟩
          go_wp2_with fail
          refine (less_any ⟨#[98]⟩ ⟨#[98]⟩ false _ (by decide +kernel)).mono ?_
          rintro e w7 ⟨rfl, rfl⟩
          go_wp2
          go_ret
          exact ⟨rfl, hB4⟩

theorem own : ownKnob Try.prog.godebug = none := by kernel_rfl

set_option maxRecDepth 100000 in
theorem known_lifted (os : Os) (started : os.Started) (H : Type) (enc : TypeId × Value → H) :
    ReturnsInHanded {} Try.checked os 3 .any (Rows.utfKnownSpec.pre6 enc Try.prog Try.f3 Rows.utfKnownRow.domain false) (Rows.utfKnownSpec.post enc Try.prog Try.f3 false true false false) := by
  refine returnsInHanded_of_change (C := Try.checked) own started (by kernel_rfl) Try.func3
    (ChangeSpec.witness6 (enc := enc) (C := Try.checked) false ⟨#[], #[], []⟩ 8 (by kernel_rfl) (by kernel_rfl) (by kernel_rfl) (by kernel_rfl)) ?_
  intro W base args ds gs before hval0 hW hcnd _
  have hW' := hW
  obtain ⟨p, q, hA0, hV, rfl, hfz, hnd⟩ := hW
  have hA : DataW.TrodAll enc Try.prog W 0 (fun _ => true) true Try.f3.params.toList args.toList ds p := hA0
  rw [Try.params3] at hA
  obtain ⟨rfl, rfl, rfl⟩ := trodAll_none hA
  obtain ⟨rfl, rfl⟩ := trodVars_none hV
  clear hA0 hval0
  simp only [List.append_nil] at hW'
  refine (known_true W).mono fun e W' ⟨he, bel⟩ => ?_
  subst he
  exact ⟨_, rfl, _, _, _, [], [], [], hW', trodAll_mk1 (shut_bool Try.underlying4 _), trodAll_mk0, rfl, bel.frame _, fun h => by cases h⟩

theorem known_holds : Rows.UtfKnownSaid :=
  OpenClaim.holds_of_wide 3 Try.f3 rfl rfl rfl rfl rfl rfl rfl ⟨rfl, rfl, rfl, rfl, rfl⟩ rfl rfl rfl rfl rfl (by kernel_rfl) Try.func3 (by kernel_rfl)
    (of_decide_eq_true (by kernel_rfl)) (by unfold Func.isWrapper; first | (rw [if_pos (by decide +kernel)]; kernel_rfl) | (rw [if_neg (by decide +kernel)]; exact ⟨rfl, rfl⟩))
    (fun os started H enc _ => known_lifted os started H enc)
#print axioms known_holds

end Go.Proofs.Ytomdkkmfgeajgaa
