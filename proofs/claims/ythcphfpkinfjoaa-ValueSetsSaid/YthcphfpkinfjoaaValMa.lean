/-
  Package value's Map of any members.
  Conditions: none.
-/
import Derived.Test.YthcphfpkinfjoaaValSt
import Derived.Test.YthcphfpkinfjoaaValMx
namespace Go.Proofs.Ythcphfpkinfjoaa
open Go.RowKit

set_option maxRecDepth 100000 in
set_option maxHeartbeats 2000000 in
theorem map_some {n₀ : Nat} {m : List (ByteArray × VT)} {b off cap : Nat} {cm : Nat → Nat → Value} {w : World} (h : MAt n₀ w m (.slice (some ⟨b, off, none⟩) m.length cap) cm) (hz : n₀ ≤ w.heap.size) (hn0 : 0 < m.length) (hn : m.length ≤ 1000000) :
    Calls Try.prog 13 #[.slice (some ⟨b, off, none⟩) m.length cap] w fun e w' => ∃ x L, e = .returned x ∧ IsMap m L ∧ VAt w'.heap.size w' (.mk 5 0 ⟨#[]⟩ [] L) x ∧ Below w.heap.size w w' := by
  have HM := Lib.hid h
  have HMS := Lib.hid h.mems
  have hrow := h.1
  have HF := Lib.hid (fun i hi => (h.2.2 i hi).form6)
  have HKK := Lib.hid (fun i hi => (h.2.1 i hi).1)
  have HC := Lib.hid (show ∀ i j, i < m.length → j < 6 → w.cell? ⟨b, off + i * 6 + j, none⟩ = some (cm i j) by
    intro i j hi hj
    obtain ⟨b', off', hh, _, hc⟩ := hrow.at hi
    cases hh
    exact hc j hj)
  have HZ := Lib.hid hz
  clear h hrow hz
  go_enter Try.func13, Try.ntmps13
  go_wp2_with fail
  generalize hW1 : w.alloc _ = W1
  have hv1 : W1.heap[w.heap.size]? = some (.cells #[.int .i64 0, .int .i64 0, .string ⟨#[]⟩, .slice none 0 0, .slice none 0 0] 26 (0, 0)) := by subst hW1; exact World.alloc_heap_new w _
  have hb1 : Below w.heap.size w W1 := by subst hW1; exact (Below.refl _ w).alloc (Nat.le_refl _) _
  have hz1 : W1.heap.size = w.heap.size + 1 := by subst hW1; simp
  have HC1 := Lib.hid (show ∀ i j, i < m.length → j < 6 → W1.cell? ⟨b, off + i * 6 + j, none⟩ = some (cm i j) by
    intro i j hi hj; subst hW1; exact Lib.cell?_alloc_some _ (HC.out i j hi hj))
  have HV1 := Lib.hid hv1
  have HB1 := Lib.hid hb1
  clear hW1 hv1 hb1
  refine (clone_any cm b off m.length cap W1 hn0 (by omega) HC1.out (fun i hi => ⟨HF.out i hi, _, HKK.out i hi⟩)).mono ?_
  rintro e w2 ⟨g, cap', rfl, hg, hc', hcm, hrow2, hb2⟩
  have HR2 := Lib.hid hrow2
  have HB2 := Lib.hid hb2
  clear hrow2 hb2
  go_wp2_with fail
  refine (sortStable_any cm (keyD m) m.length HMS.out g cap' w2 HR2.out hn).mono ?_
  rintro e w3 ⟨rfl, hbut, S, hS, hrow3⟩
  have hSl : S.length = m.length := by have := hS.1.length_eq; simpa using this
  have HS := Lib.hid hS
  have HR3 := Lib.hid hrow3
  have HBT := Lib.hid hbut
  have HSL := Lib.hid hSl
  clear hS hrow3 hbut
  go_wp2_with fail
  have hlast := lastOf_any cm (keyD m) m.length HMS.out g cap' S w3 (fun x hx => by have := HS.out.1.mem_iff.1 hx; simpa using this) HR3.out (by omega)
  rw [hSl] at hlast
  refine hlast.mono ?_
  rintro e w4 ⟨v, rfl, hown, hb4⟩
  have HOW := Lib.hid hown
  have HB4 := Lib.hid hb4
  obtain ⟨av, nv, cv, rfl⟩ : ∃ a n c, v = .slice a n c := by
    obtain ⟨_, ⟨rfl, _⟩ | ⟨g', cap2, cur, rfl, _⟩⟩ := hown
    · exact ⟨_, _, _, rfl⟩
    · exact ⟨_, _, _, rfl⟩
  clear hown hb4 hlast hSl
  go_wp2_with fail
  refine (mapOf_any av nv cv w4).mono ?_
  rintro e w5 ⟨rfl, hb5⟩
  have hB23 : Below W1.heap.size W1 w3 := HB2.out.trans (HBT.out.below hg HB2.out.size)
  have hB14 : Below W1.heap.size W1 w4 := hB23.trans (HB4.out.mono hB23.size)
  have hB15 : Below W1.heap.size W1 w5 := hB14.trans (hb5.mono hB14.size)
  have hv5 := (hB15.block w.heap.size (by omega)).trans HV1.out
  have HV5 := Lib.hid hv5
  have HBW := Lib.hid (HB1.out.trans (hB15.mono HB1.out.size))
  have hw3 : w.heap.size < w3.heap.size := by have := hB23.size; omega
  have HOW9 := Lib.hid (ownsRow_set (b := w.heap.size) (i := 4) (u := .slice av nv cv) (ownsRow_set (b := w.heap.size) (i := 3) (u := .slice none 0 0) (ownsRow_set (b := w.heap.size) (i := 2) (u := .string ⟨#[]⟩) (ownsRow_set (b := w.heap.size) (i := 1) (u := .int .i64 0) (ownsRow_set (b := w.heap.size) (i := 0) (u := .int .i64 5) (ownsRow_keep HOW.out hb5) hw3) hw3) hw3) hw3) hw3)
  obtain ⟨r0, r1, r2, r3, r4⟩ := c5of hv5
  have f0 : w5.frozen? ⟨w.heap.size, 0, none⟩ = false := by simp [World.frozen?, hv5]
  have f1 : w5.frozen? ⟨w.heap.size, 1, none⟩ = false := by simp [World.frozen?, hv5]
  have f2 : w5.frozen? ⟨w.heap.size, 2, none⟩ = false := by simp [World.frozen?, hv5]
  have f3 : w5.frozen? ⟨w.heap.size, 3, none⟩ = false := by simp [World.frozen?, hv5]
  have f4 : w5.frozen? ⟨w.heap.size, 4, none⟩ = false := by simp [World.frozen?, hv5]
  clear hv5 hB15 hB14 hB23 hb5
  go_wp2
  have hp5 := put5 (.int .i64 5) (.int .i64 0) (.string ⟨#[]⟩) (.slice none 0 0) (.slice av nv cv) HV5.out
  have hpb := put5_below (.int .i64 5) (.int .i64 0) (.string ⟨#[]⟩) (.slice none 0 0) (.slice av nv cv) HBW.out (b := w.heap.size) (by omega)
  have HOWF := Lib.hid HOW9.out
  generalize ((((w5.setCell _ _).setCell _ _).setCell _ _).setCell _ _).setCell _ _ = W9 at hp5 hpb HOWF ⊢
  obtain ⟨z0, z1, z2, z3, z4⟩ := c5of hp5
  have hfin := made_at (n₀ := n₀) (w2 := W9) HM.out (hpb.mono HZ.out) (by have := HZ.out; have := hpb.size; omega) HOWF.out (fun x hx => by
    have h1 := kept_mem (keyD m) S m.length (by have := HSL.out; omega) x hx
    have := HS.out.1.mem_iff.1 h1; simpa using this) (by have := kept_len (keyD m) S m.length; omega)
  refine bodyPost_ret (v := .agg #[.int .i64 5, .int .i64 0, .string ⟨#[]⟩, .slice none 0 0, .slice av nv cv]) (by simp [results, Try.results13, go_sem, z0, z1, z2, z3, z4]) rfl ?_
  exact ⟨_, mapL m S, rfl, mapL_isMap HS.out, by unfold mapL; rw [HSL.out]; exact hfin, hpb⟩

set_option maxRecDepth 100000 in
set_option maxHeartbeats 1000000 in
theorem clone_none (ao : Option Addr) (cap : Nat) (w : World) :
    Calls Try.prog 35 #[.slice ao 0 cap] w fun e w' => ∃ ao' cap', e = .returned (.slice ao' 0 cap') ∧ Below w.heap.size w w' := by
  obtain ⟨i0, hi, hz0, hz1, hz2⟩ := info_parts info_mem
  have q24 : ∀ (w : World) (a : Option Addr) (n c n' c' : Nat), (binOp .eql 24 (.slice a n c) (.slice none n' c')).run Try.prog w = .ok (.bool a.isNone) w := fun w a n c n' c' => Lib.run_eql_slice_nil w _ _ a n c n' c' Try.underlying24
  cases ao with
  | none =>
    go_enter Try.func35, Try.ntmps35
    go_wp2
    go_ret
    exact ⟨_, _, rfl, Below.refl _ _⟩
  | some a0 =>
    go_enter Try.func35, Try.ntmps35
    go_wp2_with (at_builtin; (refine wpList_append_own _ rfl _ _ 24 rfl w.heap.size 28 i0 _ 6 96 Try.underlying24 hi hz0 hz1 hz2 rfl (by decide) _ _ _ rfl (World.ownsRow_made w #[] 0 (Nat.le_refl _) (Nat.zero_le _) (by simp)) a0 0 cap [] rfl rfl (by intro j u h; simp at h) (by intro u h; cases h) (by decide) (by decide) (by simp) ?_))
    intro v' w1 hown hgrow hnil
    go_wp2
    go_ret
    obtain ⟨_, ⟨rfl, _⟩ | ⟨g, c', cur, rfl, _⟩⟩ := hown
    · exact ⟨_, _, rfl, ((Below.refl _ w).alloc (Nat.le_refl _) _).grown hgrow (by simp) (by intro k hk; simp [Value.ownBlock] at hk; omega)⟩
    · exact ⟨_, _, rfl, ((Below.refl _ w).alloc (Nat.le_refl _) _).grown hgrow (by simp) (by intro k hk; simp [Value.ownBlock] at hk; omega)⟩

set_option maxRecDepth 100000 in
set_option maxHeartbeats 1000000 in
theorem isort_none (ao : Option Addr) (cap : Nat) (fv : Value) (w : World) :
    Calls Try.prog 86 #[.slice ao 0 cap, .int .i64 0, .int .i64 0, fv] w fun e w' => e = .returned (.tuple #[]) ∧ w = w' := by
  go_enter Try.func86, Try.ntmps86
  go_wp2_with fail
  go_loopw [8] (fun iv wr => iv = .int .i64 1 ∧ wr = w) (fun _ _ => 0)
  case atStart => exact ⟨rfl, rfl⟩
  case round =>
    obtain ⟨rfl, rfl⟩ := hrel
    go_wp2
    go_end0
    exact ⟨rfl, rfl⟩
set_option maxRecDepth 100000 in
set_option maxHeartbeats 1000000 in
theorem stable_none (ao : Option Addr) (cap : Nat) (fv : Value) (w : World) :
    Calls Try.prog 61 #[.slice ao 0 cap, .int .i64 0, fv] w fun e w' => e = .returned (.tuple #[]) ∧ w = w' := by
  go_enter Try.func61, Try.ntmps61
  go_wp2_with fail
  go_loopw [7, 8] (fun a b wr => a = .int .i64 0 ∧ b = .int .i64 20 ∧ wr = w) (fun _ _ _ => 0)
  case atStart => exact ⟨rfl, rfl, rfl⟩
  case round =>
    obtain ⟨rfl, rfl, rfl⟩ := hrel
    go_wp2_with fail
    refine (isort_none ao cap fv wr).mono ?_
    rintro e w1 ⟨rfl, rfl⟩
    go_wp2_with fail
    go_loopw [6] (fun a wq => a = .int .i64 20 ∧ wq = wr) (fun _ _ => 0)
    case atStart => exact ⟨rfl, rfl⟩
    case round =>
      obtain ⟨rfl, rfl⟩ := hrel
      go_wp2
      go_end0
      exact ⟨rfl, rfl⟩
set_option maxRecDepth 100000 in
theorem sortStable_none (ao : Option Addr) (cap : Nat) (fv : Value) (w : World) :
    Calls Try.prog 36 #[.slice ao 0 cap, fv] w fun e w' => e = .returned (.tuple #[]) ∧ w = w' := by
  go_enter Try.func36, Try.ntmps36
  go_wp2_with fail
  refine (stable_none ao cap fv w).mono ?_
  rintro e w1 ⟨rfl, rfl⟩
  go_wp2
  go_end0
  exact ⟨rfl, rfl⟩
set_option maxRecDepth 100000 in
set_option maxHeartbeats 1000000 in
theorem lastOf_none (ao : Option Addr) (cap : Nat) (w : World) :
    Calls Try.prog 39 #[.slice ao 0 cap] w fun e w' => e = .returned (.slice none 0 0) ∧ w = w' := by
  go_enter Try.func39, Try.ntmps39
  go_wp2_with fail
  go_loopw [3, 8] (fun ov iv wr => ov = .slice none 0 0 ∧ iv = .int .i64 0 ∧ wr = w) (fun _ _ _ => 0)
  case atStart => exact ⟨rfl, rfl, rfl⟩
  case round =>
    obtain ⟨rfl, rfl, rfl⟩ := hrel
    go_wp2
    go_ret
    exact ⟨rfl, rfl⟩

def VTm0 : VT := .mk 5 0 ⟨#[]⟩ [] []
theorem VTm0.at (n₀ : Nat) (w : World) : VAt n₀ w VTm0 (.agg #[.int .i64 5, .int .i64 0, .string ⟨#[]⟩, .slice none 0 0, .slice none 0 0]) :=
  .mk (cl := fun _ _ => undef) (cm := fun _ _ => undef) rfl rfl (by decide) (.inl ⟨rfl, none, 0, rfl, by decide, fun _ => rfl⟩) (.inl ⟨rfl, none, 0, rfl, by decide, fun _ => rfl⟩) (fun i h => absurd h (Nat.not_lt_zero _)) (fun i h => absurd h (Nat.not_lt_zero _)) (fun i h => absurd h (Nat.not_lt_zero _))

set_option maxRecDepth 100000 in
set_option maxHeartbeats 2000000 in
theorem map_none (ao : Option Addr) (cap : Nat) (w : World) :
    Calls Try.prog 13 #[.slice ao 0 cap] w fun e w' => e = .returned (.agg #[.int .i64 5, .int .i64 0, .string ⟨#[]⟩, .slice none 0 0, .slice none 0 0]) ∧ Below w.heap.size w w' := by
  go_enter Try.func13, Try.ntmps13
  go_wp2_with fail
  generalize hW1 : w.alloc _ = W1
  have hv1 : W1.heap[w.heap.size]? = some (.cells #[.int .i64 0, .int .i64 0, .string ⟨#[]⟩, .slice none 0 0, .slice none 0 0] 26 (0, 0)) := by subst hW1; exact World.alloc_heap_new w _
  have hb1 : Below w.heap.size w W1 := by subst hW1; exact (Below.refl _ w).alloc (Nat.le_refl _) _
  have hz1 : W1.heap.size = w.heap.size + 1 := by subst hW1; simp
  have HV1 := Lib.hid hv1
  have HB1 := Lib.hid hb1
  clear hW1 hv1 hb1
  refine (clone_none ao cap W1).mono ?_
  rintro e w2 ⟨ao', cap', rfl, hb2⟩
  have HB2 := Lib.hid hb2
  clear hb2
  go_wp2_with fail
  refine (sortStable_none ao' cap' _ w2).mono ?_
  rintro e w3 ⟨rfl, rfl⟩
  go_wp2_with fail
  refine (lastOf_none ao' cap' w2).mono ?_
  rintro e w4 ⟨rfl, rfl⟩
  go_wp2_with fail
  refine (mapOf_any none 0 0 w2).mono ?_
  rintro e w5 ⟨rfl, hb5⟩
  have hB15 : Below W1.heap.size W1 w5 := HB2.out.trans (hb5.mono HB2.out.size)
  have hv5 := (hB15.block w.heap.size (by omega)).trans HV1.out
  have HV5 := Lib.hid hv5
  have HBW := Lib.hid (HB1.out.trans (hB15.mono HB1.out.size))
  obtain ⟨r0, r1, r2, r3, r4⟩ := c5of hv5
  have f0 : w5.frozen? ⟨w.heap.size, 0, none⟩ = false := by simp [World.frozen?, hv5]
  have f1 : w5.frozen? ⟨w.heap.size, 1, none⟩ = false := by simp [World.frozen?, hv5]
  have f2 : w5.frozen? ⟨w.heap.size, 2, none⟩ = false := by simp [World.frozen?, hv5]
  have f3 : w5.frozen? ⟨w.heap.size, 3, none⟩ = false := by simp [World.frozen?, hv5]
  have f4 : w5.frozen? ⟨w.heap.size, 4, none⟩ = false := by simp [World.frozen?, hv5]
  clear hv5 hB15 hb5
  go_wp2
  have hp5 := put5 (.int .i64 5) (.int .i64 0) (.string ⟨#[]⟩) (.slice none 0 0) (.slice none 0 0) HV5.out
  have hpb := put5_below (.int .i64 5) (.int .i64 0) (.string ⟨#[]⟩) (.slice none 0 0) (.slice none 0 0) HBW.out (b := w.heap.size) (by omega)
  generalize ((((w5.setCell _ _).setCell _ _).setCell _ _).setCell _ _).setCell _ _ = W9 at hp5 hpb ⊢
  obtain ⟨z0, z1, z2, z3, z4⟩ := c5of hp5
  refine bodyPost_ret (v := .agg #[.int .i64 5, .int .i64 0, .string ⟨#[]⟩, .slice none 0 0, .slice none 0 0]) (by simp [results, Try.results13, go_sem, z0, z1, z2, z3, z4]) rfl ?_
  exact ⟨rfl, hpb⟩

theorem isMap_nil : IsMap [] [] := ⟨fun _ _ _ h => absurd h (Nat.not_lt_zero _), fun _ => rfl⟩
/-- Map, of any members. -/
theorem map_all {n₀ : Nat} {w0 : World} {m : List (ByteArray × VT)} {sv : Value} {cm : Nat → Nat → Value} (h : MAt n₀ w0 m sv cm) (w : World) (hw : Below n₀ w0 w) (hz : n₀ ≤ w.heap.size) (hn : m.length ≤ 1000000) :
    Calls Try.prog 13 #[sv] w fun e w' => ∃ x L, e = .returned x ∧ IsMap m L ∧ VAt w'.heap.size w' (.mk 5 0 ⟨#[]⟩ [] L) x ∧ Below w.heap.size w w' := by
  have h' : MAt n₀ w m sv cm := ⟨h.1.below hw, h.2.1, fun i hi => (h.2.2 i hi).keep hw⟩
  rcases h'.1 with ⟨h0, ao, cap, rfl, _⟩ | ⟨b, off, cap, h0, h1, h2, rfl, h4, h5⟩
  · obtain rfl : m = [] := List.eq_nil_of_length_eq_zero h0
    refine (map_none ao cap w).mono ?_
    rintro e w' ⟨rfl, hb⟩
    exact ⟨_, [], rfl, isMap_nil, VTm0.at _ _, hb⟩
  · exact map_some h' hz h0 hn
end Go.Proofs.Ythcphfpkinfjoaa
