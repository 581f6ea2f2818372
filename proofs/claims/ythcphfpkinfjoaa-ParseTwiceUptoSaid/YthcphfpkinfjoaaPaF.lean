/-
  The parser's steps that read literals and words.
  The parser's step that reads a word: null, true, false.
  Values put together: a list of values, a map of members, with their cells.
  Conditions: none.
-/
import Derived.Test.YthcphfpkinfjoaaPaC
import Derived.StillTailTactics
namespace Go.Proofs.Ythcphfpkinfjoaa
open Go.RowKit

set_option maxHeartbeats 400000 in
theorem textv_p (k : ByteArray) (w : World) : Calls Try.prog 14 #[.string k] w fun e w' => e = .returned (.agg #[.int .i64 3, .int .i64 0, .string k, .slice none 0 0, .slice none 0 0]) ∧ Below w.heap.size w w' := by
  go_enter Try.func14, Try.ntmps14
  go_wp2
  refine bodyPost_ret (v := .agg #[.int .i64 3, .int .i64 0, .string k, .slice none 0 0, .slice none 0 0]) (by simp [results, Try.results14, go_sem]) rfl ?_
  exact ⟨rfl, (Below.refl _ w).alloc (Nat.le_refl _) _⟩
theorem uBodyF_len : ∀ (f : Nat) (l x r : List UInt8), uBodyF f l = some (x, r) → x.length ≤ 4 * l.length ∧ r.length ≤ l.length
  | _, [], _, _, h => by simp [uBodyF] at h
  | 0, _ :: _, _, _, h => by simp [uBodyF] at h
  | f + 1, c :: t, x, r, h => by
    simp only [uBodyF] at h
    split at h
    · cases h
    split at h
    · simp only [Option.some.injEq, Prod.mk.injEq] at h
      obtain ⟨rfl, rfl⟩ := h
      simp
    split at h
    · rename_i q u hq
      simp only [Option.map_eq_some_iff, Prod.mk.injEq] at h
      obtain ⟨⟨y, z⟩, h1, h2, h3⟩ := h
      have h4 := uBodyF_len f u y z h1
      have h5 := uSym_len hq
      have h6 := uBytes_len q
      subst h2 h3
      simp only [List.length_append, List.length_cons]
      omega
    · cases h
theorem uUnq_len {l x : List UInt8} {n : Nat} (h : uUnq l = some (x, n)) : x.length ≤ 4 * l.length ∧ n ≤ l.length ∧ 1 ≤ n := by
  cases l with
  | nil => cases h
  | cons c t =>
    simp only [uUnq] at h
    split at h
    · simp only [Option.map_eq_some_iff, Prod.mk.injEq] at h
      obtain ⟨⟨y, z⟩, h1, h2, h3⟩ := h
      have h4 := uBodyF_len _ _ _ _ h1
      subst h2 h3
      simp only [List.length_cons]
      omega
    · cases h
theorem PCur.rest {w : World} {b : Nat} {s : ByteArray} {l : List UInt8} {d : Nat} (h : PCur w b s l d) : (s.extract (s.size - l.length) s.size).data.toList = l := by
  have := h.cut (l' := []) (Nat.zero_le _)
  simpa using this

set_option maxRecDepth 100000 in
set_option maxHeartbeats 2000000 in
theorem literal_no (b : Nat) (s : ByteArray) (l : List UInt8) (d : Nat) (w : World) (hs : 4 * s.size + 8 ≤ 140737488355328) (h : PCur w b s l d) (hu : uUnq l = none) :
    Calls Try.prog 112 #[.pointer (some ⟨b, 0, none⟩)] w fun e w' => e = .returned (.tuple #[.string ⟨#[]⟩, .int .i64 2]) ∧ Exc (fun x => x = b) w w' ∧ PCur w' b s l d := by
  have hbw := h.lt
  have HP := Lib.hid h
  obtain ⟨c0, c1, c2, f1, f2⟩ := h.cells
  have hle : ((s.size - l.length : Nat) : Int) ≤ (s.size : Int) := by omega
  have k0 := fun p => KidOf.cell hbw c0 p
  have k1 := fun p => KidOf.cell hbw c1 p
  have HU := Lib.hid (fun p : KidOf w => (unquote_any (s.extract (s.size - l.length) s.size) p.x (by rw [ByteArray.size_extract]; omega)).mono (R' := fun e w' => e = .returned (.tuple #[.string ⟨#[]⟩, .int .i64 0, .int .i64 2]) ∧ Below p.x.heap.size p.x w') (fun e w' hq => by
    obtain ⟨h1, h2⟩ := hq
    rw [h.rest, hu] at h2
    exact ⟨h2, h1⟩))
  obtain ⟨f0, hf0⟩ : ∃ f0, s.size - l.length = f0 := ⟨_, rfl⟩
  rw [hf0] at c1 hle k1 HU
  clear h hu c0 c1 c2 f1 f2 hf0
  go_enter Try.func112, Try.ntmps112
  go_wp2_with fail
  refine wp_region_below (by kernel_rfl) (by kernel_rfl) ?_
  repeat (go_big_quiet_step (first | (go_at_call 134; exact Calls.below_of (HU.out _))))
  refine wpQuiet_nil ?_
  rintro wz ⟨⟨_, hbz⟩, rfl⟩
  go_wp2
  refine bodyPost_ret (v := .tuple #[.string ⟨#[]⟩, .int .i64 2]) (by simp [results, Try.results112, go_sem]) rfl ?_
  exact ⟨rfl, Exc.ofAll hbz, HP.out.same (hbz.block b hbw)⟩
set_option maxRecDepth 100000 in
set_option maxHeartbeats 2000000 in
theorem literal_yes (b : Nat) (s : ByteArray) (l x : List UInt8) (n d : Nat) (w : World) (hs : 4 * s.size + 8 ≤ 140737488355328) (h : PCur w b s l d) (hu : uUnq l = some (x, n)) :
    Calls Try.prog 112 #[.pointer (some ⟨b, 0, none⟩)] w fun e w' => e = .returned (.tuple #[.string ⟨x.toArray⟩, .int .i64 0]) ∧ Exc (fun x => x = b) w w' ∧ PCur w' b s (l.drop n) d := by
  have hbw := h.lt
  obtain ⟨c0, c1, c2, f1, f2⟩ := h.cells
  have hle : ((s.size - l.length : Nat) : Int) ≤ (s.size : Int) := by omega
  have k0 := fun p => KidOf.cell hbw c0 p
  have k1 := fun p => KidOf.cell hbw c1 p
  have HN := Lib.hid (uUnq_len hu)
  have HP := Lib.hid h
  have HU := Lib.hid (fun p : KidOf w => (unquote_any (s.extract (s.size - l.length) s.size) p.x (by rw [ByteArray.size_extract]; omega)).mono (R' := fun e w' => e = .returned (.tuple #[.string ⟨x.toArray⟩, .int .i64 (n : Int), .int .i64 0]) ∧ Below p.x.heap.size p.x w') (fun e w' hq => by
    obtain ⟨h1, h2⟩ := hq
    rw [h.rest, hu] at h2
    exact ⟨h2, h1⟩))
  obtain ⟨f0, hf0⟩ : ∃ f0, s.size - l.length = f0 := ⟨_, rfl⟩
  rw [hf0] at c1 hle k1 HU
  have HF := Lib.hid hf0
  clear h hu c0 c1 c2 f1 f2 hf0
  go_enter Try.func112, Try.ntmps112
  go_wp2_with fail
  refine wp_region_below (by kernel_rfl) (by kernel_rfl) ?_
  repeat (go_big_quiet_step (first | (go_at_call 134; exact Calls.below_of (HU.out _))))
  refine wpQuiet_nil ?_
  rintro wz ⟨⟨_, hbz⟩, rfl⟩
  have HB := Lib.hid (show Below w.heap.size w wz from hbz)
  have HPZ := Lib.hid (HP.out.same (hbz.block b hbw))
  have hnl := HN.out.2.1
  have hsn : (n : Int) ≤ 1000000000000000 := by have := HP.out.1; omega
  have hsf : (f0 : Int) ≤ 1000000000000000 := by have := HF.out; omega
  obtain ⟨c0, c1, c2, f1, f2⟩ := HPZ.out.cells
  rw [HF.out] at c1
  clear hbz k0 k1
  go_wp2
  refine bodyPost_ret (v := .tuple #[.string ⟨x.toArray⟩, .int .i64 0]) (by simp [results, Try.results112, go_sem]) rfl ?_
  exact ⟨rfl, (Exc.ofAll HB.out).only (only_set _), HPZ.out.move n hnl _ (by rw [HF.out])⟩

set_option maxRecDepth 100000 in
set_option maxHeartbeats 2000000 in
theorem ptext_any (b : Nat) (s : ByteArray) (l : List UInt8) (d : Nat) (w : World) (hs : 4 * s.size + 8 ≤ 140737488355328) (h : PCur w b s l d) :
    Calls Try.prog 93 #[.pointer (some ⟨b, 0, none⟩)] w (PGot b s d w (pText l)) := by
  have hbw := h.lt
  have HS := Lib.hid hs
  have HP := Lib.hid h
  clear h hs
  go_enter Try.func93, Try.ntmps93
  go_wp2_with fail
  generalize hW0 : w.alloc _ = W0
  have hB0 : Below w.heap.size w W0 := by subst hW0; exact (Below.refl _ w).alloc (Nat.le_refl _) _
  have HV0 := Lib.hid (show W0.heap[w.heap.size]? = some (.cells #[.int .i64 0, .int .i64 0, .string ⟨#[]⟩, .slice none 0 0, .slice none 0 0] 26 (0, 0)) by subst hW0; exact World.alloc_heap_new w _)
  have HP0 := Lib.hid (show PCur W0 b s l d from HP.out.same (hB0.block b hbw))
  have HX0 := Lib.hid (Exc.ofAll (S := fun x => x = b) hB0)
  clear hW0 hB0
  cases hu : uUnq l with
  | none =>
    have HR := Lib.hid (show pText l = .error 2 by unfold pText; rw [hu])
    refine (literal_no b s l d W0 HS.out HP0.out hu).mono ?_
    rintro e w5 ⟨rfl, hx, hpl⟩
    have HPL := Lib.hid hpl
    clear hpl
    have hv5 := (hx.block w.heap.size (lt_of_block HV0.out) (by omega)).trans HV0.out
    have HV5 := Lib.hid hv5
    have HX5 := Lib.hid (HX0.out.trans hx)
    obtain ⟨g0, g1, g2, g3, g4⟩ := box5 hv5
    obtain ⟨r0, r1, r2, r3, r4⟩ := c5of hv5
    clear hx hv5 hu
    go_wp2
    have hp5 := put5 (.int .i64 0) (.int .i64 0) (.string ⟨#[]⟩) (.slice none 0 0) (.slice none 0 0) HV5.out
    have ho5 := put5_only (w := w5) (b := w.heap.size) (.int .i64 0) (.int .i64 0) (.string ⟨#[]⟩) (.slice none 0 0) (.slice none 0 0)
    generalize ((((w5.setCell _ _).setCell _ _).setCell _ _).setCell _ _).setCell _ _ = W9 at hp5 ho5 ⊢
    obtain ⟨z0, z1, z2, z3, z4⟩ := c5of hp5
    refine bodyPost_ret (v := .tuple #[vZ, .int .i64 2]) (by simp [results, Try.results93, go_sem, z0, z1, z2, z3, z4, vZ]) rfl ?_
    exact PGot.no HR.out (by decide) (HX5.out.box ho5 (Nat.le_refl _)) (HPL.out.live.same (ho5.block b (by omega)))
  | some p =>
    obtain ⟨x, n⟩ := p
    have HR := Lib.hid (show pText l = .ok (jText ⟨x.toArray⟩, l.drop n) by unfold pText; rw [hu])
    have HN := Lib.hid (show (⟨x.toArray⟩ : ByteArray).size ≤ sMax by
      have h1 := uUnq_len hu
      have h2 := HP.out.1
      have h3 := HS.out
      have h4 : (⟨x.toArray⟩ : ByteArray).size = x.length := List.size_toArray
      have h5 : sMax = 140737488355328 := rfl
      omega)
    refine (literal_yes b s l x n d W0 HS.out HP0.out hu).mono ?_
    rintro e w4 ⟨rfl, hx, hpc⟩
    generalize (⟨x.toArray⟩ : ByteArray) = k at HR HN ⊢
    have HV4 := Lib.hid ((hx.block w.heap.size (lt_of_block HV0.out) (by omega)).trans HV0.out)
    have HX4 := Lib.hid (HX0.out.trans hx)
    have HP4 := Lib.hid hpc
    clear hx hpc hu
    go_wp2_with fail
    refine (textv_p k w4).mono ?_
    rintro e w5 ⟨rfl, hb5⟩
    have hv5 := (hb5.block w.heap.size (lt_of_block HV4.out)).trans HV4.out
    have HV5 := Lib.hid hv5
    have HX5 := Lib.hid (HX4.out.trans (Exc.ofAll hb5))
    have HP5 := Lib.hid (HP4.out.same (hb5.block b HP4.out.lt))
    obtain ⟨g0, g1, g2, g3, g4⟩ := box5 hv5
    obtain ⟨r0, r1, r2, r3, r4⟩ := c5of hv5
    clear hb5 hv5
    go_wp2
    have hp5 := put5 (.int .i64 3) (.int .i64 0) (.string k) (.slice none 0 0) (.slice none 0 0) HV5.out
    have ho5 := put5_only (w := w5) (b := w.heap.size) (.int .i64 3) (.int .i64 0) (.string k) (.slice none 0 0) (.slice none 0 0)
    generalize ((((w5.setCell _ _).setCell _ _).setCell _ _).setCell _ _).setCell _ _ = W9 at hp5 ho5 ⊢
    obtain ⟨z0, z1, z2, z3, z4⟩ := c5of hp5
    refine bodyPost_ret (v := .tuple #[.agg #[.int .i64 3, .int .i64 0, .string k, .slice none 0 0, .slice none 0 0], .int .i64 0]) (by simp [results, Try.results93, go_sem, z0, z1, z2, z3, z4]) rfl ?_
    exact PGot.yes HR.out (HX5.out.box ho5 (Nat.le_refl _)) (VIn.flat (by decide) (by decide) HN.out) (HP5.out.same (ho5.block b (by omega)))
end Go.Proofs.Ythcphfpkinfjoaa

namespace Go.Proofs.Ythcphfpkinfjoaa
open Go.RowKit

set_option maxRecDepth 100000 in
set_option maxHeartbeats 1000000 in
theorem boolv_true (w : World) : Calls Try.prog 23 #[.bool true] w fun e w' => e = .returned (.agg #[.int .i64 1, .int .i64 1, .string ⟨#[]⟩, .slice none 0 0, .slice none 0 0]) ∧ Below w.heap.size w w' := by
  go_enter Try.func23, Try.ntmps23
  go_wp2
  refine bodyPost_ret (v := .agg #[.int .i64 1, .int .i64 1, .string ⟨#[]⟩, .slice none 0 0, .slice none 0 0]) (by simp [results, Try.results23, go_sem]) rfl ?_
  exact ⟨rfl, by repeat' first | exact Below.refl _ _ | (refine Below.setCell ?_ (by simp) _) | (refine Below.alloc ?_ (by simp) _)⟩
set_option maxRecDepth 100000 in
set_option maxHeartbeats 1000000 in
theorem boolv_false (w : World) : Calls Try.prog 23 #[.bool false] w fun e w' => e = .returned (.agg #[.int .i64 1, .int .i64 0, .string ⟨#[]⟩, .slice none 0 0, .slice none 0 0]) ∧ Below w.heap.size w w' := by
  go_enter Try.func23, Try.ntmps23
  go_wp2
  refine bodyPost_ret (v := .agg #[.int .i64 1, .int .i64 0, .string ⟨#[]⟩, .slice none 0 0, .slice none 0 0]) (by simp [results, Try.results23, go_sem]) rfl ?_
  exact ⟨rfl, by repeat' first | exact Below.refl _ _ | (refine Below.setCell ?_ (by simp) _) | (refine Below.alloc ?_ (by simp) _)⟩
def bNull : ByteArray := ⟨#[110, 117, 108, 108]⟩
def bTrue : ByteArray := ⟨#[116, 114, 117, 101]⟩
def bFalse : ByteArray := ⟨#[102, 97, 108, 115, 101]⟩
def wTab (w : World) (M : Nat) : Prop := w.heap[M]? = some (.cells #[.string ⟨#[110, 117, 108, 108]⟩, .int .i64 0, .int .i64 0, .string ⟨#[]⟩, .slice none 0 0, .slice none 0 0, .string ⟨#[116, 114, 117, 101]⟩, .int .i64 1, .int .i64 1, .string ⟨#[]⟩, .slice none 0 0, .slice none 0 0, .string ⟨#[102, 97, 108, 115, 101]⟩, .int .i64 1, .int .i64 0, .string ⟨#[]⟩, .slice none 0 0, .slice none 0 0] 135 (0, 0))
set_option maxRecDepth 100000 in
set_option maxHeartbeats 4000000 in
theorem word_any (b : Nat) (s : ByteArray) (l : List UInt8) (d : Nat) (w : World) (hs : 4 * s.size + 8 ≤ 140737488355328) (h : PCur w b s l d) :
    Calls Try.prog 96 #[.pointer (some ⟨b, 0, none⟩)] w (PGot b s d w (pWord l)) := by
  have hbw := h.lt
  have HP := Lib.hid h
  clear h
  go_enter Try.func96, Try.ntmps96
  go_wp2_with fail
  generalize hW0 : w.alloc _ = W0
  have hB0 : Below w.heap.size w W0 := by subst hW0; exact (Below.refl _ w).alloc (Nat.le_refl _) _
  have hv0 : W0.heap[w.heap.size]? = some (.cells #[.int .i64 0, .int .i64 0, .string ⟨#[]⟩, .slice none 0 0, .slice none 0 0] 26 (0, 0)) := by subst hW0; exact World.alloc_heap_new w _
  clear hW0
  refine (boolv_true W0).mono ?_
  rintro e w1 ⟨rfl, hb1⟩
  go_wp2_with fail
  refine (boolv_false w1).mono ?_
  rintro e w2 ⟨rfl, hb2⟩
  go_wp2_with fail
  generalize hW3 : w2.alloc _ = W3
  have hb02 : Below W0.heap.size W0 w2 := hb1.trans (hb2.mono hb1.size)
  have hb3 : Below w2.heap.size w2 W3 := by subst hW3; exact (Below.refl _ w2).alloc (Nat.le_refl _) _
  have HT := Lib.hid (show wTab W3 w2.heap.size by subst hW3; exact World.alloc_heap_new w2 _)
  have hb03 : Below W0.heap.size W0 W3 := hb02.trans (hb3.mono hb02.size)
  have HV3 := Lib.hid ((hb03.block w.heap.size (lt_of_block hv0)).trans hv0)
  have HB3 := Lib.hid (hB0.trans (hb03.mono hB0.size))
  have HP3 := Lib.hid (HP.out.same (HB3.out.block b hbw))
  have HM3 := Lib.hid (show w2.heap.size < W3.heap.size by subst hW3; simp)
  have HMW := Lib.hid (show w.heap.size < w2.heap.size from Nat.lt_of_lt_of_le (lt_of_block hv0) hb02.size)
  generalize w2.heap.size = M at HT HM3 HMW ⊢
  clear hW3 hb02 hb03 hb3 hb1 hb2 hB0 hv0
  go_loopw [14] (fun iv wr => ∃ k : Nat, k ≤ 3 ∧ iv = .int .i64 k ∧ Below W3.heap.size W3 wr ∧ (0 < k → wNull.isPrefixOf l = false) ∧ (1 < k → wTrue.isPrefixOf l = false) ∧ (2 < k → wFalse.isPrefixOf l = false)) (fun i _ => 3 - (intOf i).toNat)
  case atStart => exact ⟨0, by omega, rfl, Below.refl _ _, (fun h => absurd h (by omega)), (fun h => absurd h (by omega)), (fun h => absurd h (by omega))⟩
  case round =>
    obtain ⟨k, hk, rfl, hbr, hn0, hn1, hn2⟩ := hrel
    have HBR := Lib.hid hbr
    have HN0 := Lib.hid hn0
    have HN1 := Lib.hid hn1
    have HN2 := Lib.hid hn2
    have HPR := Lib.hid (HP3.out.same (hbr.block b HP3.out.lt))
    have hvr := (hbr.block w.heap.size (lt_of_block HV3.out)).trans HV3.out
    have HVR := Lib.hid hvr
    have htr : wTab wr M := (hbr.block M HM3.out).trans HT.out
    have HXR := Lib.hid (show Exc (fun x => x = b) w wr from Exc.ofAll (HB3.out.trans (hbr.mono HB3.out.size)))
    have hMr : M < wr.heap.size := Nat.lt_of_lt_of_le HM3.out hbr.size
    have hbr' : b < wr.heap.size := HPR.out.lt
    have hwr' : w.heap.size < wr.heap.size := lt_of_block hvr
    have hsz : (s.size : Int) ≤ 1000000000000000 := by omega
    unfold wTab at htr
    clear hbr hn0 hn1 hn2
    rcases (show k = 0 ∨ k = 1 ∨ k = 2 ∨ k = 3 by omega) with rfl | rfl | rfl | rfl
    · have t0 : wr.cell? ⟨M, 0, none⟩ = some (.string bNull) := by simp [World.cell?, htr, bNull]
      have t1 : wr.cell? ⟨M, 1, none⟩ = some (.int .i64 0) := by simp [World.cell?, htr]
      have t2 : wr.cell? ⟨M, 2, none⟩ = some (.int .i64 0) := by simp [World.cell?, htr]
      have t3 : wr.cell? ⟨M, 3, none⟩ = some (.string ⟨#[]⟩) := by simp [World.cell?, htr]
      have t4 : wr.cell? ⟨M, 4, none⟩ = some (.slice none 0 0) := by simp [World.cell?, htr]
      have t5 : wr.cell? ⟨M, 5, none⟩ = some (.slice none 0 0) := by simp [World.cell?, htr]
      obtain ⟨c0, c1, c2, f1, f2⟩ := HPR.out.cells
      obtain ⟨g0, g1, g2, g3, g4⟩ := box5 hvr
      obtain ⟨r0, r1, r2, r3, r4⟩ := c5of hvr
      have hbs : bNull.size = 4 := rfl
      obtain ⟨f0, hf0⟩ : ∃ f0, s.size - l.length = f0 := ⟨_, rfl⟩
      rw [hf0] at c1
      have HF := Lib.hid hf0
      have hfs : (f0 : Int) ≤ (s.size : Int) := by omega
      have hff : f0 ≤ s.size := by omega
      clear htr hvr hf0
      cases hp : (bNull.data.toList.isPrefixOf l) with
      | true =>
        have HR := Lib.hid (show pWord l = .ok (jNull, l.drop 4) by unfold pWord; rw [if_pos (show wNull.isPrefixOf l = true from hp)])
        have HLE := Lib.hid (show 4 ≤ l.length by
          rw [List.isPrefixOf_iff_prefix] at hp
          exact hp.length_le)
        have HI := Lib.hid (fun w => hasPrefix_is (s.extract f0 s.size) bNull true w (by rw [← HF.out, HPR.out.rest]; exact hp))
        clear hp
        go_wp2_with fail
        go_quiet (first | (go_at_call 115; refine Calls.quiet_same (HI.out _)))
        go_wp2_with fail
        generalize hWX : (wr.alloc _).drewN _ = wx
        have hbx : Below wr.heap.size wr wx := by subst hWX; exact ((Below.refl _ wr).alloc (Nat.le_refl _) _).trans ⟨rfl, rfl, rfl, Nat.le_refl _, fun _ _ => rfl⟩
        have hqx : wx.heap[wr.heap.size]? = some (.cells #[.string bNull, .int .i64 0, .int .i64 0, .string ⟨#[]⟩, .slice none 0 0, .slice none 0 0] 135 (0, 0)) := by subst hWX; exact World.alloc_heap_new wr _
        clear c0 c1 c2 f1 f2 g0 g1 g2 g3 g4 r0 r1 r2 r3 r4 t0 t1 t2 t3 t4 t5 hWX
        have hpx := HPR.out.same (hbx.block b hbr')
        have hvx := (hbx.block w.heap.size hwr').trans HVR.out
        have HPX := Lib.hid hpx
        have HVX := Lib.hid hvx
        have HXX := Lib.hid (HXR.out.trans (Exc.ofAll hbx))
        have HQX := Lib.hid hqx
        obtain ⟨c0, c1, c2, f1, f2⟩ := hpx.cells
        rw [HF.out] at c1
        obtain ⟨q0, q1, q2, q3, q4, q5⟩ := c6of hqx
        have hne1 : ¬ wr.heap.size = b := by omega
        have hne2 : ¬ w.heap.size = b := by omega
        have hne3 : ¬ b = w.heap.size := by omega
        have hne4 : ¬ b = wr.heap.size := by omega
        clear hpx hvx hqx hbx
        go_still_tail 10, (by kernel_rfl)
        change wpList _ _ _ _ _ wx.drew
        generalize hWY : wx.drew = wy
        have HPY := Lib.hid (show PCur wy b s l d by subst hWY; exact HPX.out)
        have HVY := Lib.hid (show wy.heap[w.heap.size]? = some (.cells #[.int .i64 0, .int .i64 0, .string ⟨#[]⟩, .slice none 0 0, .slice none 0 0] 26 (0, 0)) by subst hWY; exact HVX.out)
        have HXY := Lib.hid (show Exc (fun x => x = b) w wy by subst hWY; exact HXX.out.drew)
        have hqy : wy.heap[wr.heap.size]? = some (.cells #[.string bNull, .int .i64 0, .int .i64 0, .string ⟨#[]⟩, .slice none 0 0, .slice none 0 0] 135 (0, 0)) := by subst hWY; exact HQX.out
        obtain ⟨c0, c1, c2, f1, f2⟩ := HPY.out.cells
        rw [HF.out] at c1
        obtain ⟨q0, q1, q2, q3, q4, q5⟩ := c6of hqy
        obtain ⟨g0, g1, g2, g3, g4⟩ := box5 HVY.out
        obtain ⟨r0, r1, r2, r3, r4⟩ := c5of HVY.out
        clear hWY hqy
        go_wp2
        have hp5 := put5 (.int .i64 0) (.int .i64 0) (.string ⟨#[]⟩) (.slice none 0 0) (.slice none 0 0) (show (wy.setCell ⟨b, 1, none⟩ (.int .i64 ((f0 : Int) + 4))).heap[w.heap.size]? = _ from (setCell_other _ hne2).trans HVY.out)
        have ho5 := put5_only (w := wy.setCell ⟨b, 1, none⟩ (.int .i64 ((f0 : Int) + 4))) (b := w.heap.size) (.int .i64 0) (.int .i64 0) (.string ⟨#[]⟩) (.slice none 0 0) (.slice none 0 0)
        generalize (((((wy.setCell _ _).setCell _ _).setCell _ _).setCell _ _).setCell _ _).setCell _ _ = W9 at hp5 ho5 ⊢
        obtain ⟨z0, z1, z2, z3, z4⟩ := c5of hp5
        refine bodyPost_ret (v := .tuple #[.agg #[.int .i64 0, .int .i64 0, .string ⟨#[]⟩, .slice none 0 0, .slice none 0 0], .int .i64 0]) (by simp [results, Try.results96, go_sem, z0, z1, z2, z3, z4]) rfl ?_
        exact PGot.yes HR.out ((HXY.out.only (only_set _)).box ho5 (Nat.le_refl _)) (VIn.flat (by decide) (by decide) (by decide)) ((HPY.out.move 4 HLE.out _ (by rw [HF.out]; rfl)).same (ho5.block b hne3))
      | false =>
        have HI := Lib.hid (fun w => hasPrefix_is (s.extract f0 s.size) bNull false w (by rw [← HF.out, HPR.out.rest]; exact hp))
        have HNP := Lib.hid (show wNull.isPrefixOf l = false from hp)
        clear hp
        go_wp2_with fail
        go_quiet (first | (go_at_call 115; refine Calls.quiet_same (HI.out _)))
        go_wp2
        go_roundw
        case rel => exact ⟨1, by omega, rfl, (HBR.out.alloc HBR.out.size _).trans ⟨rfl, rfl, rfl, Nat.le_refl _, fun _ _ => rfl⟩, (fun _ => HNP.out), (fun h => absurd h (by omega)), (fun h => absurd h (by omega))⟩
        case measure => simp [intOf]
    · have t0 : wr.cell? ⟨M, 6, none⟩ = some (.string bTrue) := by simp [World.cell?, htr, bTrue]
      have t1 : wr.cell? ⟨M, 7, none⟩ = some (.int .i64 1) := by simp [World.cell?, htr]
      have t2 : wr.cell? ⟨M, 8, none⟩ = some (.int .i64 1) := by simp [World.cell?, htr]
      have t3 : wr.cell? ⟨M, 9, none⟩ = some (.string ⟨#[]⟩) := by simp [World.cell?, htr]
      have t4 : wr.cell? ⟨M, 10, none⟩ = some (.slice none 0 0) := by simp [World.cell?, htr]
      have t5 : wr.cell? ⟨M, 11, none⟩ = some (.slice none 0 0) := by simp [World.cell?, htr]
      obtain ⟨c0, c1, c2, f1, f2⟩ := HPR.out.cells
      obtain ⟨g0, g1, g2, g3, g4⟩ := box5 hvr
      obtain ⟨r0, r1, r2, r3, r4⟩ := c5of hvr
      have hbs : bTrue.size = 4 := rfl
      obtain ⟨f0, hf0⟩ : ∃ f0, s.size - l.length = f0 := ⟨_, rfl⟩
      rw [hf0] at c1
      have HF := Lib.hid hf0
      have hfs : (f0 : Int) ≤ (s.size : Int) := by omega
      have hff : f0 ≤ s.size := by omega
      clear htr hvr hf0
      cases hp : (bTrue.data.toList.isPrefixOf l) with
      | true =>
        have HR := Lib.hid (show pWord l = .ok (jBool 1, l.drop 4) by unfold pWord; rw [if_neg (by rw [HN0.out (by omega)]; decide), if_pos (show wTrue.isPrefixOf l = true from hp)])
        have HLE := Lib.hid (show 4 ≤ l.length by
          rw [List.isPrefixOf_iff_prefix] at hp
          exact hp.length_le)
        have HI := Lib.hid (fun w => hasPrefix_is (s.extract f0 s.size) bTrue true w (by rw [← HF.out, HPR.out.rest]; exact hp))
        clear hp
        go_wp2_with fail
        go_quiet (first | (go_at_call 115; refine Calls.quiet_same (HI.out _)))
        go_wp2_with fail
        generalize hWX : (wr.alloc _).drewN _ = wx
        have hbx : Below wr.heap.size wr wx := by subst hWX; exact ((Below.refl _ wr).alloc (Nat.le_refl _) _).trans ⟨rfl, rfl, rfl, Nat.le_refl _, fun _ _ => rfl⟩
        have hqx : wx.heap[wr.heap.size]? = some (.cells #[.string bTrue, .int .i64 1, .int .i64 1, .string ⟨#[]⟩, .slice none 0 0, .slice none 0 0] 135 (0, 0)) := by subst hWX; exact World.alloc_heap_new wr _
        clear c0 c1 c2 f1 f2 g0 g1 g2 g3 g4 r0 r1 r2 r3 r4 t0 t1 t2 t3 t4 t5 hWX
        have hpx := HPR.out.same (hbx.block b hbr')
        have hvx := (hbx.block w.heap.size hwr').trans HVR.out
        have HPX := Lib.hid hpx
        have HVX := Lib.hid hvx
        have HXX := Lib.hid (HXR.out.trans (Exc.ofAll hbx))
        have HQX := Lib.hid hqx
        obtain ⟨c0, c1, c2, f1, f2⟩ := hpx.cells
        rw [HF.out] at c1
        obtain ⟨q0, q1, q2, q3, q4, q5⟩ := c6of hqx
        have hne1 : ¬ wr.heap.size = b := by omega
        have hne2 : ¬ w.heap.size = b := by omega
        have hne3 : ¬ b = w.heap.size := by omega
        have hne4 : ¬ b = wr.heap.size := by omega
        clear hpx hvx hqx hbx
        go_still_tail 10, (by kernel_rfl)
        change wpList _ _ _ _ _ wx.drew
        generalize hWY : wx.drew = wy
        have HPY := Lib.hid (show PCur wy b s l d by subst hWY; exact HPX.out)
        have HVY := Lib.hid (show wy.heap[w.heap.size]? = some (.cells #[.int .i64 0, .int .i64 0, .string ⟨#[]⟩, .slice none 0 0, .slice none 0 0] 26 (0, 0)) by subst hWY; exact HVX.out)
        have HXY := Lib.hid (show Exc (fun x => x = b) w wy by subst hWY; exact HXX.out.drew)
        have hqy : wy.heap[wr.heap.size]? = some (.cells #[.string bTrue, .int .i64 1, .int .i64 1, .string ⟨#[]⟩, .slice none 0 0, .slice none 0 0] 135 (0, 0)) := by subst hWY; exact HQX.out
        obtain ⟨c0, c1, c2, f1, f2⟩ := HPY.out.cells
        rw [HF.out] at c1
        obtain ⟨q0, q1, q2, q3, q4, q5⟩ := c6of hqy
        obtain ⟨g0, g1, g2, g3, g4⟩ := box5 HVY.out
        obtain ⟨r0, r1, r2, r3, r4⟩ := c5of HVY.out
        clear hWY hqy
        go_wp2
        have hp5 := put5 (.int .i64 1) (.int .i64 1) (.string ⟨#[]⟩) (.slice none 0 0) (.slice none 0 0) (show (wy.setCell ⟨b, 1, none⟩ (.int .i64 ((f0 : Int) + 4))).heap[w.heap.size]? = _ from (setCell_other _ hne2).trans HVY.out)
        have ho5 := put5_only (w := wy.setCell ⟨b, 1, none⟩ (.int .i64 ((f0 : Int) + 4))) (b := w.heap.size) (.int .i64 1) (.int .i64 1) (.string ⟨#[]⟩) (.slice none 0 0) (.slice none 0 0)
        generalize (((((wy.setCell _ _).setCell _ _).setCell _ _).setCell _ _).setCell _ _).setCell _ _ = W9 at hp5 ho5 ⊢
        obtain ⟨z0, z1, z2, z3, z4⟩ := c5of hp5
        refine bodyPost_ret (v := .tuple #[.agg #[.int .i64 1, .int .i64 1, .string ⟨#[]⟩, .slice none 0 0, .slice none 0 0], .int .i64 0]) (by simp [results, Try.results96, go_sem, z0, z1, z2, z3, z4]) rfl ?_
        exact PGot.yes HR.out ((HXY.out.only (only_set _)).box ho5 (Nat.le_refl _)) (VIn.flat (by decide) (by decide) (by decide)) ((HPY.out.move 4 HLE.out _ (by rw [HF.out]; rfl)).same (ho5.block b hne3))
      | false =>
        have HI := Lib.hid (fun w => hasPrefix_is (s.extract f0 s.size) bTrue false w (by rw [← HF.out, HPR.out.rest]; exact hp))
        have HNP := Lib.hid (show wTrue.isPrefixOf l = false from hp)
        clear hp
        go_wp2_with fail
        go_quiet (first | (go_at_call 115; refine Calls.quiet_same (HI.out _)))
        go_wp2
        go_roundw
        case rel => exact ⟨2, by omega, rfl, (HBR.out.alloc HBR.out.size _).trans ⟨rfl, rfl, rfl, Nat.le_refl _, fun _ _ => rfl⟩, (fun _ => HN0.out (by omega)), (fun _ => HNP.out), (fun h => absurd h (by omega))⟩
        case measure => simp [intOf]
    · have t0 : wr.cell? ⟨M, 12, none⟩ = some (.string bFalse) := by simp [World.cell?, htr, bFalse]
      have t1 : wr.cell? ⟨M, 13, none⟩ = some (.int .i64 1) := by simp [World.cell?, htr]
      have t2 : wr.cell? ⟨M, 14, none⟩ = some (.int .i64 0) := by simp [World.cell?, htr]
      have t3 : wr.cell? ⟨M, 15, none⟩ = some (.string ⟨#[]⟩) := by simp [World.cell?, htr]
      have t4 : wr.cell? ⟨M, 16, none⟩ = some (.slice none 0 0) := by simp [World.cell?, htr]
      have t5 : wr.cell? ⟨M, 17, none⟩ = some (.slice none 0 0) := by simp [World.cell?, htr]
      obtain ⟨c0, c1, c2, f1, f2⟩ := HPR.out.cells
      obtain ⟨g0, g1, g2, g3, g4⟩ := box5 hvr
      obtain ⟨r0, r1, r2, r3, r4⟩ := c5of hvr
      have hbs : bFalse.size = 5 := rfl
      obtain ⟨f0, hf0⟩ : ∃ f0, s.size - l.length = f0 := ⟨_, rfl⟩
      rw [hf0] at c1
      have HF := Lib.hid hf0
      have hfs : (f0 : Int) ≤ (s.size : Int) := by omega
      have hff : f0 ≤ s.size := by omega
      clear htr hvr hf0
      cases hp : (bFalse.data.toList.isPrefixOf l) with
      | true =>
        have HR := Lib.hid (show pWord l = .ok (jBool 0, l.drop 5) by unfold pWord; rw [if_neg (by rw [HN0.out (by omega)]; decide), if_neg (by rw [HN1.out (by omega)]; decide), if_pos (show wFalse.isPrefixOf l = true from hp)])
        have HLE := Lib.hid (show 5 ≤ l.length by
          rw [List.isPrefixOf_iff_prefix] at hp
          exact hp.length_le)
        have HI := Lib.hid (fun w => hasPrefix_is (s.extract f0 s.size) bFalse true w (by rw [← HF.out, HPR.out.rest]; exact hp))
        clear hp
        go_wp2_with fail
        go_quiet (first | (go_at_call 115; refine Calls.quiet_same (HI.out _)))
        go_wp2_with fail
        generalize hWX : (wr.alloc _).drewN _ = wx
        have hbx : Below wr.heap.size wr wx := by subst hWX; exact ((Below.refl _ wr).alloc (Nat.le_refl _) _).trans ⟨rfl, rfl, rfl, Nat.le_refl _, fun _ _ => rfl⟩
        have hqx : wx.heap[wr.heap.size]? = some (.cells #[.string bFalse, .int .i64 1, .int .i64 0, .string ⟨#[]⟩, .slice none 0 0, .slice none 0 0] 135 (0, 0)) := by subst hWX; exact World.alloc_heap_new wr _
        clear c0 c1 c2 f1 f2 g0 g1 g2 g3 g4 r0 r1 r2 r3 r4 t0 t1 t2 t3 t4 t5 hWX
        have hpx := HPR.out.same (hbx.block b hbr')
        have hvx := (hbx.block w.heap.size hwr').trans HVR.out
        have HPX := Lib.hid hpx
        have HVX := Lib.hid hvx
        have HXX := Lib.hid (HXR.out.trans (Exc.ofAll hbx))
        have HQX := Lib.hid hqx
        obtain ⟨c0, c1, c2, f1, f2⟩ := hpx.cells
        rw [HF.out] at c1
        obtain ⟨q0, q1, q2, q3, q4, q5⟩ := c6of hqx
        have hne1 : ¬ wr.heap.size = b := by omega
        have hne2 : ¬ w.heap.size = b := by omega
        have hne3 : ¬ b = w.heap.size := by omega
        have hne4 : ¬ b = wr.heap.size := by omega
        clear hpx hvx hqx hbx
        go_still_tail 10, (by kernel_rfl)
        change wpList _ _ _ _ _ wx.drew
        generalize hWY : wx.drew = wy
        have HPY := Lib.hid (show PCur wy b s l d by subst hWY; exact HPX.out)
        have HVY := Lib.hid (show wy.heap[w.heap.size]? = some (.cells #[.int .i64 0, .int .i64 0, .string ⟨#[]⟩, .slice none 0 0, .slice none 0 0] 26 (0, 0)) by subst hWY; exact HVX.out)
        have HXY := Lib.hid (show Exc (fun x => x = b) w wy by subst hWY; exact HXX.out.drew)
        have hqy : wy.heap[wr.heap.size]? = some (.cells #[.string bFalse, .int .i64 1, .int .i64 0, .string ⟨#[]⟩, .slice none 0 0, .slice none 0 0] 135 (0, 0)) := by subst hWY; exact HQX.out
        obtain ⟨c0, c1, c2, f1, f2⟩ := HPY.out.cells
        rw [HF.out] at c1
        obtain ⟨q0, q1, q2, q3, q4, q5⟩ := c6of hqy
        obtain ⟨g0, g1, g2, g3, g4⟩ := box5 HVY.out
        obtain ⟨r0, r1, r2, r3, r4⟩ := c5of HVY.out
        clear hWY hqy
        go_wp2
        have hp5 := put5 (.int .i64 1) (.int .i64 0) (.string ⟨#[]⟩) (.slice none 0 0) (.slice none 0 0) (show (wy.setCell ⟨b, 1, none⟩ (.int .i64 ((f0 : Int) + 5))).heap[w.heap.size]? = _ from (setCell_other _ hne2).trans HVY.out)
        have ho5 := put5_only (w := wy.setCell ⟨b, 1, none⟩ (.int .i64 ((f0 : Int) + 5))) (b := w.heap.size) (.int .i64 1) (.int .i64 0) (.string ⟨#[]⟩) (.slice none 0 0) (.slice none 0 0)
        generalize (((((wy.setCell _ _).setCell _ _).setCell _ _).setCell _ _).setCell _ _).setCell _ _ = W9 at hp5 ho5 ⊢
        obtain ⟨z0, z1, z2, z3, z4⟩ := c5of hp5
        refine bodyPost_ret (v := .tuple #[.agg #[.int .i64 1, .int .i64 0, .string ⟨#[]⟩, .slice none 0 0, .slice none 0 0], .int .i64 0]) (by simp [results, Try.results96, go_sem, z0, z1, z2, z3, z4]) rfl ?_
        exact PGot.yes HR.out ((HXY.out.only (only_set _)).box ho5 (Nat.le_refl _)) (VIn.flat (by decide) (by decide) (by decide)) ((HPY.out.move 5 HLE.out _ (by rw [HF.out]; rfl)).same (ho5.block b hne3))
      | false =>
        have HI := Lib.hid (fun w => hasPrefix_is (s.extract f0 s.size) bFalse false w (by rw [← HF.out, HPR.out.rest]; exact hp))
        have HNP := Lib.hid (show wFalse.isPrefixOf l = false from hp)
        clear hp
        go_wp2_with fail
        go_quiet (first | (go_at_call 115; refine Calls.quiet_same (HI.out _)))
        go_wp2
        go_roundw
        case rel => exact ⟨3, by omega, rfl, (HBR.out.alloc HBR.out.size _).trans ⟨rfl, rfl, rfl, Nat.le_refl _, fun _ _ => rfl⟩, (fun _ => HN0.out (by omega)), (fun _ => HN1.out (by omega)), (fun _ => HNP.out)⟩
        case measure => simp [intOf]
    · have HR := Lib.hid (show pWord l = .error 2 by unfold pWord; rw [if_neg (by rw [HN0.out (by omega)]; decide), if_neg (by rw [HN1.out (by omega)]; decide), if_neg (by rw [HN2.out (by omega)]; decide)])
      obtain ⟨g0, g1, g2, g3, g4⟩ := box5 hvr
      obtain ⟨r0, r1, r2, r3, r4⟩ := c5of hvr
      clear htr hvr
      go_wp2
      have hp5 := put5 (.int .i64 0) (.int .i64 0) (.string ⟨#[]⟩) (.slice none 0 0) (.slice none 0 0) HVR.out
      have ho5 := put5_only (w := wr) (b := w.heap.size) (.int .i64 0) (.int .i64 0) (.string ⟨#[]⟩) (.slice none 0 0) (.slice none 0 0)
      generalize ((((wr.setCell _ _).setCell _ _).setCell _ _).setCell _ _).setCell _ _ = W9 at hp5 ho5 ⊢
      obtain ⟨z0, z1, z2, z3, z4⟩ := c5of hp5
      refine bodyPost_ret (v := .tuple #[vZ, .int .i64 2]) (by simp [results, Try.results96, go_sem, z0, z1, z2, z3, z4, vZ]) rfl ?_
      exact PGot.no HR.out (by decide) (HXR.out.box ho5 (Nat.le_refl _)) (HPR.out.live.same (ho5.block b (by omega)))
end Go.Proofs.Ythcphfpkinfjoaa

namespace Go.Proofs.Ythcphfpkinfjoaa
open Go.RowKit

theorem info_v5 : (Try.prog.info? 26).map (fun i => (i.zero, i.size, i.bytes)) = some (some (.agg #[.int .i64 0, .int .i64 0, .string ⟨#[]⟩, .slice none 0 0, .slice none 0 0]), 5, 80) := by kernel_rfl
theorem ownsRow_src {w : World} {base e n : Nat} {v : Value} {xs : List Value} {k : Nat} (h : w.ownsRow base e k v n xs) (hn : 0 < n) : ∃ g cap, v = .slice (some ⟨g, 0, none⟩) n cap ∧ base ≤ g ∧ g < w.heap.size ∧ ∀ j u, xs[j]? = some u → w.cell? ((⟨g, 0, none⟩ : Addr).add j) = some u := by
  have hl := h.1
  obtain ⟨g, cap, rfl, h1, h2, _, _, h5⟩ := ownsRow_cell h hn
  refine ⟨g, cap, rfl, h1, h2, fun j u hj => ?_⟩
  have hjl := (List.getElem?_eq_some_iff.1 hj).1
  rw [addr_off, Nat.zero_add, h5 j (by omega)]
  exact hj
set_option maxRecDepth 100000 in
set_option maxHeartbeats 1000000 in
theorem cloneV_some (base e n : Nat) (got : Value) (xs : List Value) (w : World) (hown : w.ownsRow base e 5 got n xs) (hn : 0 < n) (hn1 : n ≤ 100000000) (hp : ∀ u ∈ xs, u.oneCell' = true) :
    Calls Try.prog 34 #[got] w fun e w' => ∃ v, e = .returned v ∧ w'.ownsRow w.heap.size 26 5 v n xs ∧ Below w.heap.size w w' := by
  obtain ⟨i0, hi, hz0, hz1, hz2⟩ := info_parts info_v5
  have HL := Lib.hid hown.1
  obtain ⟨g, cap, rfl, _, _, hc⟩ := ownsRow_src hown hn
  have HC := Lib.hid hc
  have HP := Lib.hid hp
  clear hc hp hown
  have q24 : ∀ (w : World) (a : Option Addr) (n c n' c' : Nat), (binOp .eql 23 (.slice a n c) (.slice none n' c')).run Try.prog w = .ok (.bool a.isNone) w := fun w a n c n' c' => Lib.run_eql_slice_nil w _ _ a n c n' c' Try.underlying23
  go_enter Try.func34, Try.ntmps34
  go_wp2_with (at_builtin; (refine wpList_append_own _ rfl _ _ 23 rfl w.heap.size 26 i0 _ 5 80 Try.underlying23 hi hz0 hz1 hz2 rfl (by decide) _ _ _ rfl (World.ownsRow_made w #[] 0 (Nat.le_refl _) (Nat.zero_le _) (by simp)) ⟨g, 0, none⟩ n cap xs rfl HL.out (fun j u hj => Lib.cell?_alloc_some _ (HC.out j u hj)) HP.out ?qc4 ?qc5 ?qc6 ?_))
  case qc4 => rw [Nat.zero_add]; unfold maxLen; omega
  case qc5 => omega
  case qc6 => simp
  intro v' w1 hown hgrow hnil
  go_wp2
  go_ret
  exact ⟨v', rfl, by simpa using hown, ((Below.refl _ w).alloc (Nat.le_refl _) _).grown hgrow (by simp) (by intro k hk; simp [Value.ownBlock] at hk; omega)⟩
set_option maxRecDepth 100000 in
theorem cloneV_nil (w : World) :
    Calls Try.prog 34 #[.slice none 0 0] w fun e w' => e = .returned (.slice none 0 0) ∧ w = w' := by
  have q24 : ∀ (w : World) (a : Option Addr) (n c n' c' : Nat), (binOp .eql 23 (.slice a n c) (.slice none n' c')).run Try.prog w = .ok (.bool a.isNone) w := fun w a n c n' c' => Lib.run_eql_slice_nil w _ _ a n c n' c' Try.underlying23
  go_enter Try.func34, Try.ntmps34
  go_wp2
  go_ret
  exact ⟨rfl, rfl⟩
set_option maxRecDepth 100000 in
set_option maxHeartbeats 1000000 in
theorem listv_some (base e n : Nat) (got : Value) (xs : List Value) (w : World) (hown : w.ownsRow base e 5 got n xs) (hn : 0 < n) (hn1 : n ≤ 100000000) (hp : ∀ u ∈ xs, u.oneCell' = true) :
    Calls Try.prog 11 #[got] w fun e w' => ∃ v, e = .returned (.agg #[.int .i64 4, .int .i64 0, .string ⟨#[]⟩, v, .slice none 0 0]) ∧ w'.ownsRow w.heap.size 26 5 v n xs ∧ Below w.heap.size w w' := by
  obtain ⟨_, _, rfl, _⟩ := ownsRow_slice hown
  have HO := Lib.hid hown
  have HP := Lib.hid hp
  clear hown hp
  go_enter Try.func11, Try.ntmps11
  go_wp2_with fail
  generalize hW1 : w.alloc _ = W1
  have hv1 : W1.heap[w.heap.size]? = some (.cells #[.int .i64 0, .int .i64 0, .string ⟨#[]⟩, .slice none 0 0, .slice none 0 0] 26 (0, 0)) := by subst hW1; exact World.alloc_heap_new w _
  have hb1 : Below w.heap.size w W1 := by subst hW1; exact (Below.refl _ w).alloc (Nat.le_refl _) _
  have hz1 : w.heap.size < W1.heap.size := by subst hW1; simp
  clear hW1
  refine (cloneV_some base e n _ xs W1 (ownsRow_keep HO.out hb1) hn hn1 HP.out).mono ?_
  rintro e' w2 ⟨v, rfl, hown2, hb2⟩
  obtain ⟨av, cv, rfl, _⟩ := ownsRow_slice hown2
  have hv2 := (hb2.block w.heap.size hz1).trans hv1
  have HV2 := Lib.hid hv2
  have HBW := Lib.hid (hb1.trans (hb2.mono hb1.size))
  have HOW9 := Lib.hid (ownsRow_set (b := w.heap.size) (i := 4) (u := .slice none 0 0) (ownsRow_set (b := w.heap.size) (i := 3) (u := .slice av n cv) (ownsRow_set (b := w.heap.size) (i := 2) (u := .string ⟨#[]⟩) (ownsRow_set (b := w.heap.size) (i := 1) (u := .int .i64 0) (ownsRow_set (b := w.heap.size) (i := 0) (u := .int .i64 4) hown2 hz1) hz1) hz1) hz1) hz1)
  obtain ⟨r0, r1, r2, r3, r4⟩ := c5of hv2
  obtain ⟨g0, g1, g2, g3, g4⟩ := box5 hv2
  clear hv1 hb1 hv2 hown2 hb2
  go_wp2
  have hp5 := put5 (.int .i64 4) (.int .i64 0) (.string ⟨#[]⟩) (.slice av n cv) (.slice none 0 0) HV2.out
  have hpb := put5_below (.int .i64 4) (.int .i64 0) (.string ⟨#[]⟩) (.slice av n cv) (.slice none 0 0) HBW.out (b := w.heap.size) (by omega)
  have HOWF := Lib.hid HOW9.out
  generalize ((((w2.setCell _ _).setCell _ _).setCell _ _).setCell _ _).setCell _ _ = W9 at hp5 hpb HOWF ⊢
  obtain ⟨z0, z1, z2, z3, z4⟩ := c5of hp5
  refine bodyPost_ret (v := .agg #[.int .i64 4, .int .i64 0, .string ⟨#[]⟩, .slice av n cv, .slice none 0 0]) (by simp [results, Try.results11, go_sem, z0, z1, z2, z3, z4]) rfl ?_
  exact ⟨_, rfl, ownsRow_base HOWF.out (by omega), hpb⟩
set_option maxRecDepth 100000 in
set_option maxHeartbeats 1000000 in
theorem listv_nil (w : World) :
    Calls Try.prog 11 #[.slice none 0 0] w fun e w' => e = .returned (.agg #[.int .i64 4, .int .i64 0, .string ⟨#[]⟩, .slice none 0 0, .slice none 0 0]) ∧ Below w.heap.size w w' := by
  go_enter Try.func11, Try.ntmps11
  go_wp2_with fail
  generalize hW1 : w.alloc _ = W1
  have hv1 : W1.heap[w.heap.size]? = some (.cells #[.int .i64 0, .int .i64 0, .string ⟨#[]⟩, .slice none 0 0, .slice none 0 0] 26 (0, 0)) := by subst hW1; exact World.alloc_heap_new w _
  have HB1 := Lib.hid (show Below w.heap.size w W1 by subst hW1; exact (Below.refl _ w).alloc (Nat.le_refl _) _)
  clear hW1
  refine (cloneV_nil W1).mono ?_
  rintro e' w2 ⟨rfl, rfl⟩
  have HV2 := Lib.hid hv1
  obtain ⟨r0, r1, r2, r3, r4⟩ := c5of hv1
  obtain ⟨g0, g1, g2, g3, g4⟩ := box5 hv1
  clear hv1
  go_wp2
  have hp5 := put5 (.int .i64 4) (.int .i64 0) (.string ⟨#[]⟩) (.slice none 0 0) (.slice none 0 0) HV2.out
  have hpb := put5_below (.int .i64 4) (.int .i64 0) (.string ⟨#[]⟩) (.slice none 0 0) (.slice none 0 0) HB1.out (b := w.heap.size) (by omega)
  generalize ((((W1.setCell _ _).setCell _ _).setCell _ _).setCell _ _).setCell _ _ = W9 at hp5 hpb ⊢
  obtain ⟨z0, z1, z2, z3, z4⟩ := c5of hp5
  refine bodyPost_ret (v := .agg #[.int .i64 4, .int .i64 0, .string ⟨#[]⟩, .slice none 0 0, .slice none 0 0]) (by simp [results, Try.results11, go_sem, z0, z1, z2, z3, z4]) rfl ?_
  exact ⟨rfl, hpb⟩

end Go.Proofs.Ythcphfpkinfjoaa
