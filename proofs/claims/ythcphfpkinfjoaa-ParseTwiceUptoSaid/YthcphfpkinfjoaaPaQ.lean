/-
  What the document tells of a number, of a key (the statements' own awake).
  Conditions: none.
-/
import Derived.Test.YthcphfpkinfjoaaPaP
import Derived.Test.YthcphfpkinfjoaaValQ
namespace Go.Proofs.Ythcphfpkinfjoaa
open Go.RowKit

theorem parse_no (s : ByteArray) (most : Int) (c : Nat) (w : World) (hs : 4 * s.size + 8 ≤ 1000000) (h : pParse s.data.toList most = .error c) :
    Calls Try.prog 26 #[.string s, .int .i64 most] w fun e w' => e = .returned (.tuple #[.agg #[.int .i64 0, .int .i64 0, .string ⟨#[]⟩, .slice none 0 0, .slice none 0 0], .int .i64 (c : Int)]) ∧ Below w.heap.size w w' :=
  (parse_any s most w hs).mono fun e w' ⟨h1, h2⟩ => by rw [h] at h2; exact ⟨h2.1, h1⟩
theorem parse_ok (s : ByteArray) (most : Int) (t : VT) (w : World) (hs : 4 * s.size + 8 ≤ 1000000) (h : pParse s.data.toList most = .ok t) :
    Calls Try.prog 26 #[.string s, .int .i64 most] w fun e w' => ∃ y, e = .returned (.tuple #[y, .int .i64 0]) ∧ VAt w'.heap.size w' t y ∧ Below w.heap.size w w' :=
  (parse_any s most w hs).mono fun e w' ⟨h1, h2⟩ => by rw [h] at h2; obtain ⟨y, h3, h4⟩ := h2; exact ⟨y, h3, h4, h1⟩
def aw3 : List (ByteArray × VT) := [(⟨#[97]⟩, jInt (-7)), (⟨#[98]⟩, jList [jBool 1, jNull])]
def awS1 : ByteArray := ⟨#[123, 34, 97, 34, 58, 49, 46, 48, 125]⟩
def awS2 : ByteArray := ⟨#[123, 34, 97, 34, 58, 49, 44, 34, 92, 117, 48, 48, 54, 49, 34, 58, 50, 125]⟩
def awS3 : ByteArray := ⟨#[32, 123, 34, 98, 34, 32, 58, 32, 91, 116, 114, 117, 101, 32, 44, 32, 110, 117, 108, 108, 93, 44, 32, 34, 97, 34, 58, 45, 55, 125, 10]⟩
theorem awP1 : pParse awS1.data.toList 100 = .error 3 := by kernel_rfl
theorem awP2 : pParse awS2.data.toList 100 = .error 4 := by kernel_rfl
theorem awP3 : pParse awS3.data.toList 100 = .ok (jMap aw3) := by kernel_rfl
theorem aw3_asc : Asc aw3 := by
  intro i j hij hj
  have h2 : j < 2 := hj
  have : i = 0 ∧ j = 1 := by omega
  obtain ⟨rfl, rfl⟩ := this
  show ltS ⟨#[97]⟩ ⟨#[98]⟩ = true
  decide +kernel
theorem aw3_good : GoodV (jMap aw3) := by
  rw [goodV_iff]
  refine ⟨by decide +kernel, ?_⟩
  unfold jMap
  rw [may_mapT]
  refine ⟨aw3_asc, fun x hx => ?_, fun x hx => ?_⟩
  · simp only [aw3, List.mem_cons, List.mem_nil_iff, or_false] at hx
    rcases hx with rfl | rfl <;> decide +kernel
  · simp only [aw3, List.mem_cons, List.mem_nil_iff, or_false] at hx
    rcases hx with rfl | rfl
    · simp [jInt, May, NodeOK]
    · simp [jList, jBool, jNull, May, MayL, NodeOK]
theorem aw3_int : intAtV (jMap aw3) ⟨#[97]⟩ = (-7, true) := by decide +kernel

set_option maxRecDepth 100000 in
set_option maxHeartbeats 2000000 in
theorem awake3_true (w : World) : Calls Try.prog 25 #[] w fun e w' => e = .returned (.bool true) ∧ Below w.heap.size w w' := by
  go_enter Try.func25, Try.ntmps25
  go_wp2_with fail
  refine (parse_no awS1 100 3 w (by decide) awP1).mono ?_
  rintro e w1 ⟨rfl, hb1⟩
  go_wp2_with fail
  generalize hW1 : w1.alloc _ = W1
  have hB1 : Below w.heap.size w W1 := by subst hW1; exact hb1.alloc hb1.size _
  clear hW1 hb1
  refine (parse_no awS2 100 4 W1 (by decide) awP2).mono ?_
  rintro e w2 ⟨rfl, hb2⟩
  go_wp2_with fail
  generalize hW2 : w2.alloc _ = W2
  have hB12 : Below W1.heap.size W1 W2 := by subst hW2; exact hb2.alloc hb2.size _
  have HB2 := Lib.hid (hB1.trans (hB12.mono hB1.size))
  clear hW2 hb2 hB12 hB1
  refine (parse_ok awS3 100 _ W2 (by decide) awP3).mono ?_
  rintro e w3 ⟨y, rfl, hy, hb3⟩
  obtain ⟨al, cl, am, cp, cx, rfl, -⟩ := (show VAt w3.heap.size w3 (.mk 5 0 ⟨#[]⟩ [] aw3) y from hy).mems
  have HY := Lib.hid hy
  have HB3 := Lib.hid (HB2.out.trans (hb3.mono HB2.out.size))
  clear hy hb3
  go_wp2_with fail
  generalize hW4 : w3.alloc _ = W4
  have hb4 : Below w3.heap.size w3 W4 := by subst hW4; exact (Below.refl _ w3).alloc (Nat.le_refl _) _
  have hq4 : W4.heap[w3.heap.size]? = some (.cells #[.int .i64 5, .int .i64 0, .string ⟨#[]⟩, .slice al 0 cl, .slice am aw3.length cp] 26 (0, 0)) := by subst hW4; exact World.alloc_heap_new w3 _
  clear hW4
  have h1 := intAt_any HY.out (fun _ => aw3_asc) ⟨#[97]⟩ W4 hb4 hb4.size
  rw [aw3_int] at h1
  refine h1.mono ?_
  rintro e w5 ⟨rfl, hb5⟩
  have hq5 := (hb5.block w3.heap.size (lt_of_block hq4)).trans hq4
  have HB35 := Lib.hid (show Below w3.heap.size w3 w5 from hb4.trans (hb5.mono hb4.size))
  obtain ⟨z0, z1, z2, z3, z4⟩ := c5of hq5
  have hl2 : ((aw3.length : Int) == 2) = true := rfl
  clear h1 hb4 hq4 hb5 hq5
  go_wp2_with fail
  refine (vgood_any HY.out w5 HB35.out HB35.out.size true (by simp [aw3_good])).mono ?_
  rintro e w6 ⟨rfl, hb6⟩
  go_wp2
  go_ret
  exact ⟨rfl, HB3.out.trans ((HB35.out.trans (hb6.mono HB35.out.size)).mono HB3.out.size)⟩
end Go.Proofs.Ythcphfpkinfjoaa
