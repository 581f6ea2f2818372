/-
  Package value's Map of few members.
  Conditions: fewer than twenty members.
-/
import Derived.Test.YthcphfpkinfjoaaValK
namespace Go.Proofs.Ythcphfpkinfjoaa
open Go.RowKit

/-- Members in memory. -/
def MAt (n₀ : Nat) (w : World) (m : List (ByteArray × VT)) (sv : Value) (cm : Nat → Nat → Value) : Prop :=
  RowAt n₀ w 6 sv m.length cm ∧ (∀ i (h : i < m.length), cm i 0 = .string m[i].1 ∧ m[i].1.size ≤ sMax) ∧ (∀ i (h : i < m.length), VAt n₀ w m[i].2 (.agg #[cm i 1, cm i 2, cm i 3, cm i 4, cm i 5]))
def memD (m : List (ByteArray × VT)) (i : Nat) : ByteArray × VT := m.getD i (⟨#[]⟩, VT0)
def keyD (m : List (ByteArray × VT)) (i : Nat) : ByteArray := (memD m i).1
theorem memD_at (m : List (ByteArray × VT)) (i : Nat) (h : i < m.length) : memD m i = m[i] := by simp [memD, h]
theorem MAt.mems {n₀ : Nat} {w : World} {m : List (ByteArray × VT)} {sv : Value} {cm : Nat → Nat → Value} (h : MAt n₀ w m sv cm) : Mems cm (keyD m) m.length :=
  ⟨fun x hx => by rw [(h.2.1 x hx).1, keyD, memD_at m x hx], fun x hx => (h.2.2 x hx).form6⟩

set_option maxHeartbeats 400000 in
theorem mapOf_any (ao : Option Addr) (n cap : Nat) (w : World) : Calls Try.prog 38 #[.slice ao n cap] w fun e w' => e = .returned (.agg #[.int .i64 5, .int .i64 0, .string ⟨#[]⟩, .slice none 0 0, .slice ao n cap]) ∧ Below w.heap.size w w' := by
  go_enter Try.func38, Try.ntmps38
  go_wp2
  refine bodyPost_ret (v := .agg #[.int .i64 5, .int .i64 0, .string ⟨#[]⟩, .slice none 0 0, .slice ao n cap]) (by simp [results, Try.results38, go_sem]) rfl ?_
  exact ⟨rfl, (Below.refl _ w).alloc (Nat.le_refl _) _⟩

theorem kept_mem (key : Nat → ByteArray) (S : List Nat) : ∀ i, i ≤ S.length → ∀ x ∈ kept key S i, x ∈ S
  | 0, _ => by intro x hx; simp [kept] at hx
  | i + 1, h => by
    intro x hx
    simp only [kept] at hx
    split at hx
    · rcases List.mem_append.1 hx with hx | hx
      · exact kept_mem key S i (by omega) x hx
      · simp at hx; subst hx; rw [List.getElem?_eq_getElem (by omega)]; exact List.getElem_mem _
    · exact kept_mem key S i (by omega) x hx

/-- A value made of members that a call owns. -/
theorem made_at {n₀ base : Nat} {w w2 : World} {m : List (ByteArray × VT)} {sv v : Value} {cm : Nat → Nat → Value} {D : List Nat} (h : MAt n₀ w m sv cm) (hb : Below n₀ w w2) (hz : n₀ ≤ w2.heap.size) (hown : w2.ownsRow base 28 6 v D.length (flat6 cm D)) (hD : ∀ x ∈ D, x < m.length) (hDl : D.length ≤ 1000000) :
    VAt w2.heap.size w2 (.mk 5 0 ⟨#[]⟩ [] (D.map (memD m))) (.agg #[.int .i64 5, .int .i64 0, .string ⟨#[]⟩, .slice none 0 0, v]) := by
  have hs : (⟨#[]⟩ : ByteArray).size ≤ sMax := by decide
  have hel : ∀ i (hi : i < (D.map (memD m)).length), ∃ h1 : i < D.length, (D.map (memD m))[i] = m[D[i]]'(hD _ (List.getElem_mem h1)) := fun i hi => ⟨by simpa using hi, by simp [memD, hD _ (List.getElem_mem (show i < D.length by simpa using hi))]⟩
  refine VAt.mk (cl := fun _ _ => undef) (cm := fun i j => cm (D.getD i 0) j) rfl rfl hs (.inl ⟨rfl, none, 0, rfl, by decide, fun _ => rfl⟩) ?_ (fun i h => absurd h (Nat.not_lt_zero _)) ?_ ?_
  · rcases Nat.eq_zero_or_pos D.length with h0 | h0
    · left
      refine ⟨by simpa using h0, ?_⟩
      obtain ⟨_, ⟨rfl, _⟩ | ⟨g, cap, cur, rfl, hg, hh, r⟩⟩ := hown
      · exact ⟨none, 0, rfl, by decide, fun _ => rfl⟩
      · exact ⟨_, cap, by rw [h0], r.2.1, by simp⟩
    · right
      obtain ⟨g, cap, rfl, h2, h3, h4, h5⟩ := rowOwn_of hown h0 rfl
      have h6 := h5
      refine ⟨g, 0, cap, by simpa using h0, by simpa using h3, ⟨by have : sMax = 140737488355328 := rfl; simp; omega, h4⟩, by simp, h6.lt, fun i j hi hj => ?_⟩
      simp at hi
      obtain ⟨a0, a1, a2, a3, a4, a5⟩ := h6.at hi
      simp only [Nat.zero_add]
      have e : D.getD i 0 = D[i] := by simp [hi]
      rw [e]
      rcases (show j = 0 ∨ j = 1 ∨ j = 2 ∨ j = 3 ∨ j = 4 ∨ j = 5 by omega) with rfl | rfl | rfl | rfl | rfl | rfl
      · exact a0
      · exact a1
      · exact a2
      · exact a3
      · exact a4
      · exact a5
  · intro i hi
    obtain ⟨h1, e⟩ := hel i hi
    rw [e]
    have e2 : D.getD i 0 = D[i] := by simp [h1]
    simp only [e2]
    exact h.2.1 _ _
  · intro i hi
    obtain ⟨h1, e⟩ := hel i hi
    rw [e]
    have e2 : D.getD i 0 = D[i] := by simp [h1]
    simp only [e2]
    exact ((h.2.2 _ (hD _ (List.getElem_mem h1))).keep hb).mono hz

theorem ownsRow_set {W : World} {base e size n b i : Nat} {v u : Value} {xs : List Value} (h : W.ownsRow base e size v n xs) (hb : b < base) : (W.setCell ⟨b, i, none⟩ u).ownsRow base e size v n xs := by
  obtain ⟨h0, h1 | ⟨g, cap, cur, rfl, hg, hh, r⟩⟩ := h
  · exact ⟨h0, .inl h1⟩
  · exact ⟨h0, .inr ⟨g, cap, cur, rfl, hg, (Below.heap_setCell W ⟨b, i, none⟩ u g (show g ≠ b by omega)).trans hh, r⟩⟩

/-- The members that a map holds, out of the sorted numbers. -/
def mapL (m : List (ByteArray × VT)) (S : List Nat) : List (ByteArray × VT) := (kept (keyD m) S S.length).map (memD m)

set_option maxRecDepth 100000 in
set_option maxHeartbeats 2000000 in
theorem map_small {n₀ : Nat} {m : List (ByteArray × VT)} {b off cap : Nat} {cm : Nat → Nat → Value} {w : World} (h : MAt n₀ w m (.slice (some ⟨b, off, none⟩) m.length cap) cm) (hz : n₀ ≤ w.heap.size) (hn0 : 0 < m.length) (hn : m.length < 20) :
    Calls Try.prog 13 #[.slice (some ⟨b, off, none⟩) m.length cap] w fun e w' => ∃ x S, e = .returned x ∧ Sorted (keyD m) m.length S ∧ VAt w'.heap.size w' (.mk 5 0 ⟨#[]⟩ [] (mapL m S)) x ∧ Below w.heap.size w w' := by
  have HM := Lib.hid h
  have HMS := Lib.hid h.mems
  have hrow := h.1
  have HF := Lib.hid (fun i hi => (h.2.2 i hi).form6)
  have HKK := Lib.hid (fun i hi => (h.2.1 i hi).1)
  have HC := Lib.hid (show ∀ i j, i < m.length → j < 6 → w.cell? ⟨b, off + i * 6 + j, none⟩ = some (cm i j) by
    intro i j hi hj
    obtain ⟨b', off', hh, _, hc⟩ := hrow.at hi
    cases hh
    exact hc j hj)
  have HZ := Lib.hid hz
  clear h hrow hz
  go_enter Try.func13, Try.ntmps13
  go_wp2_with fail
  generalize hW1 : w.alloc _ = W1
  have hv1 : W1.heap[w.heap.size]? = some (.cells #[.int .i64 0, .int .i64 0, .string ⟨#[]⟩, .slice none 0 0, .slice none 0 0] 26 (0, 0)) := by subst hW1; exact World.alloc_heap_new w _
  have hb1 : Below w.heap.size w W1 := by subst hW1; exact (Below.refl _ w).alloc (Nat.le_refl _) _
  have hz1 : W1.heap.size = w.heap.size + 1 := by subst hW1; simp
  have HC1 := Lib.hid (show ∀ i j, i < m.length → j < 6 → W1.cell? ⟨b, off + i * 6 + j, none⟩ = some (cm i j) by
    intro i j hi hj; subst hW1; exact Lib.cell?_alloc_some _ (HC.out i j hi hj))
  have HV1 := Lib.hid hv1
  have HB1 := Lib.hid hb1
  clear hW1 hv1 hb1
  refine (clone_any cm b off m.length cap W1 hn0 (by omega) HC1.out (fun i hi => ⟨HF.out i hi, _, HKK.out i hi⟩)).mono ?_
  rintro e w2 ⟨g, cap', rfl, hg, hc', hcm, hrow2, hb2⟩
  have HR2 := Lib.hid hrow2
  have HB2 := Lib.hid hb2
  clear hrow2 hb2
  go_wp2_with fail
  refine (sortStable_small cm (keyD m) m.length HMS.out g cap' w2 HR2.out hn).mono ?_
  rintro e w3 ⟨rfl, hbut, S, hS, hrow3⟩
  have hSl : S.length = m.length := by have := hS.1.length_eq; simpa using this
  have HS := Lib.hid hS
  have HR3 := Lib.hid hrow3
  have HBT := Lib.hid hbut
  have HSL := Lib.hid hSl
  clear hS hrow3 hbut
  go_wp2_with fail
  have hlast := lastOf_any cm (keyD m) m.length HMS.out g cap' S w3 (fun x hx => by have := HS.out.1.mem_iff.1 hx; simpa using this) HR3.out (by omega)
  rw [hSl] at hlast
  refine hlast.mono ?_
  rintro e w4 ⟨v, rfl, hown, hb4⟩
  have HOW := Lib.hid hown
  have HB4 := Lib.hid hb4
  obtain ⟨av, nv, cv, rfl⟩ : ∃ a n c, v = .slice a n c := by
    obtain ⟨_, ⟨rfl, _⟩ | ⟨g', cap2, cur, rfl, _⟩⟩ := hown
    · exact ⟨_, _, _, rfl⟩
    · exact ⟨_, _, _, rfl⟩
  clear hown hb4 hlast hSl
  go_wp2_with fail
  refine (mapOf_any av nv cv w4).mono ?_
  rintro e w5 ⟨rfl, hb5⟩
  have hB23 : Below W1.heap.size W1 w3 := HB2.out.trans (HBT.out.below hg HB2.out.size)
  have hB14 : Below W1.heap.size W1 w4 := hB23.trans (HB4.out.mono hB23.size)
  have hB15 : Below W1.heap.size W1 w5 := hB14.trans (hb5.mono hB14.size)
  have hv5 := (hB15.block w.heap.size (by omega)).trans HV1.out
  have HV5 := Lib.hid hv5
  have HBW := Lib.hid (HB1.out.trans (hB15.mono HB1.out.size))
  have hw3 : w.heap.size < w3.heap.size := by have := hB23.size; omega
  have HOW9 := Lib.hid (ownsRow_set (b := w.heap.size) (i := 4) (u := .slice av nv cv) (ownsRow_set (b := w.heap.size) (i := 3) (u := .slice none 0 0) (ownsRow_set (b := w.heap.size) (i := 2) (u := .string ⟨#[]⟩) (ownsRow_set (b := w.heap.size) (i := 1) (u := .int .i64 0) (ownsRow_set (b := w.heap.size) (i := 0) (u := .int .i64 5) (ownsRow_keep HOW.out hb5) hw3) hw3) hw3) hw3) hw3)
  obtain ⟨r0, r1, r2, r3, r4⟩ := c5of hv5
  have f0 : w5.frozen? ⟨w.heap.size, 0, none⟩ = false := by simp [World.frozen?, hv5]
  have f1 : w5.frozen? ⟨w.heap.size, 1, none⟩ = false := by simp [World.frozen?, hv5]
  have f2 : w5.frozen? ⟨w.heap.size, 2, none⟩ = false := by simp [World.frozen?, hv5]
  have f3 : w5.frozen? ⟨w.heap.size, 3, none⟩ = false := by simp [World.frozen?, hv5]
  have f4 : w5.frozen? ⟨w.heap.size, 4, none⟩ = false := by simp [World.frozen?, hv5]
  clear hv5 hB15 hB14 hB23 hb5
  go_wp2
  have hp5 := put5 (.int .i64 5) (.int .i64 0) (.string ⟨#[]⟩) (.slice none 0 0) (.slice av nv cv) HV5.out
  have hpb := put5_below (.int .i64 5) (.int .i64 0) (.string ⟨#[]⟩) (.slice none 0 0) (.slice av nv cv) HBW.out (b := w.heap.size) (by omega)
  have HOWF := Lib.hid HOW9.out
  generalize ((((w5.setCell _ _).setCell _ _).setCell _ _).setCell _ _).setCell _ _ = W9 at hp5 hpb HOWF ⊢
  obtain ⟨z0, z1, z2, z3, z4⟩ := c5of hp5
  have hfin := made_at (n₀ := n₀) (w2 := W9) HM.out (hpb.mono HZ.out) (by have := HZ.out; have := hpb.size; omega) HOWF.out (fun x hx => by
    have h1 := kept_mem (keyD m) S m.length (by have := HSL.out; omega) x hx
    have := HS.out.1.mem_iff.1 h1; simpa using this) (by have := kept_len (keyD m) S m.length; omega)
  refine bodyPost_ret (v := .agg #[.int .i64 5, .int .i64 0, .string ⟨#[]⟩, .slice none 0 0, .slice av nv cv]) (by simp [results, Try.results13, go_sem, z0, z1, z2, z3, z4]) rfl ?_
  exact ⟨_, S, rfl, HS.out, by unfold mapL; rw [HSL.out]; exact hfin, hpb⟩
end Go.Proofs.Ythcphfpkinfjoaa
