/-
  A map of members, with its cells.
  The parser's steps for a list and for a map.
  The parser's step 'value', and Parse itself.
  Package parse's Parse of any text of up to a quarter of a million bytes.
  What the document tells of a number, of a key (the statements' own awake).
  Conditions: none.
-/
import Derived.Test.YthcphfpkinfjoaaPaF
import Derived.Test.YthcphfpkinfjoaaValMa
import Derived.Test.YthcphfpkinfjoaaPaL
import Derived.Lib.Walk
import Derived.Lib.AppendZerosOnto
import Derived.Deep.RegionHeld3
namespace Go.Proofs.Ythcphfpkinfjoaa
open Go.RowKit

set_option maxRecDepth 100000 in
set_option maxHeartbeats 2000000 in
theorem map_cells {n₀ : Nat} {m : List (ByteArray × VT)} {b off cap : Nat} {cm : Nat → Nat → Value} {w : World} (h : MAt n₀ w m (.slice (some ⟨b, off, none⟩) m.length cap) cm) (hz : n₀ ≤ w.heap.size) (hn0 : 0 < m.length) (hn : m.length ≤ 1000000) :
    Calls Try.prog 13 #[.slice (some ⟨b, off, none⟩) m.length cap] w fun e w' => ∃ v D, e = .returned (.agg #[.int .i64 5, .int .i64 0, .string ⟨#[]⟩, .slice none 0 0, v]) ∧ (∀ x ∈ D, x < m.length) ∧ D.map (memD m) = mapM m ∧ w'.ownsRow w.heap.size 28 6 v D.length (flat6 cm D) ∧ Below w.heap.size w w' := by
  have HM := Lib.hid h
  have HMS := Lib.hid h.mems
  have hrow := h.1
  have HF := Lib.hid (fun i hi => (h.2.2 i hi).form6)
  have HKK := Lib.hid (fun i hi => (h.2.1 i hi).1)
  have HC := Lib.hid (show ∀ i j, i < m.length → j < 6 → w.cell? ⟨b, off + i * 6 + j, none⟩ = some (cm i j) by
    intro i j hi hj
    obtain ⟨b', off', hh, _, hc⟩ := hrow.at hi
    cases hh
    exact hc j hj)
  have HZ := Lib.hid hz
  clear h hrow hz
  go_enter Try.func13, Try.ntmps13
  go_wp2_with fail
  generalize hW1 : w.alloc _ = W1
  have hv1 : W1.heap[w.heap.size]? = some (.cells #[.int .i64 0, .int .i64 0, .string ⟨#[]⟩, .slice none 0 0, .slice none 0 0] 26 (0, 0)) := by subst hW1; exact World.alloc_heap_new w _
  have hb1 : Below w.heap.size w W1 := by subst hW1; exact (Below.refl _ w).alloc (Nat.le_refl _) _
  have hz1 : W1.heap.size = w.heap.size + 1 := by subst hW1; simp
  have HC1 := Lib.hid (show ∀ i j, i < m.length → j < 6 → W1.cell? ⟨b, off + i * 6 + j, none⟩ = some (cm i j) by
    intro i j hi hj; subst hW1; exact Lib.cell?_alloc_some _ (HC.out i j hi hj))
  have HV1 := Lib.hid hv1
  have HB1 := Lib.hid hb1
  clear hW1 hv1 hb1
  refine (clone_any cm b off m.length cap W1 hn0 (by omega) HC1.out (fun i hi => ⟨HF.out i hi, _, HKK.out i hi⟩)).mono ?_
  rintro e w2 ⟨g, cap', rfl, hg, hc', hcm, hrow2, hb2⟩
  have HR2 := Lib.hid hrow2
  have HB2 := Lib.hid hb2
  clear hrow2 hb2
  go_wp2_with fail
  refine (sortStable_any cm (keyD m) m.length HMS.out g cap' w2 HR2.out hn).mono ?_
  rintro e w3 ⟨rfl, hbut, S, hS, hrow3⟩
  have hSl : S.length = m.length := by have := hS.1.length_eq; simpa using this
  have HS := Lib.hid hS
  have HR3 := Lib.hid hrow3
  have HBT := Lib.hid hbut
  have HSL := Lib.hid hSl
  clear hS hrow3 hbut
  go_wp2_with fail
  have hlast := lastOf_any cm (keyD m) m.length HMS.out g cap' S w3 (fun x hx => by have := HS.out.1.mem_iff.1 hx; simpa using this) HR3.out (by omega)
  rw [hSl] at hlast
  refine hlast.mono ?_
  rintro e w4 ⟨v, rfl, hown, hb4⟩
  have HOW := Lib.hid hown
  have HB4 := Lib.hid hb4
  obtain ⟨av, nv, cv, rfl⟩ : ∃ a n c, v = .slice a n c := by
    obtain ⟨_, ⟨rfl, _⟩ | ⟨g', cap2, cur, rfl, _⟩⟩ := hown
    · exact ⟨_, _, _, rfl⟩
    · exact ⟨_, _, _, rfl⟩
  clear hown hb4 hlast hSl
  go_wp2_with fail
  refine (mapOf_any av nv cv w4).mono ?_
  rintro e w5 ⟨rfl, hb5⟩
  have hB23 : Below W1.heap.size W1 w3 := HB2.out.trans (HBT.out.below hg HB2.out.size)
  have hB14 : Below W1.heap.size W1 w4 := hB23.trans (HB4.out.mono hB23.size)
  have hB15 : Below W1.heap.size W1 w5 := hB14.trans (hb5.mono hB14.size)
  have hv5 := (hB15.block w.heap.size (by omega)).trans HV1.out
  have HV5 := Lib.hid hv5
  have HBW := Lib.hid (HB1.out.trans (hB15.mono HB1.out.size))
  have hw3 : w.heap.size < w3.heap.size := by have := hB23.size; omega
  have HOW9 := Lib.hid (ownsRow_set (b := w.heap.size) (i := 4) (u := .slice av nv cv) (ownsRow_set (b := w.heap.size) (i := 3) (u := .slice none 0 0) (ownsRow_set (b := w.heap.size) (i := 2) (u := .string ⟨#[]⟩) (ownsRow_set (b := w.heap.size) (i := 1) (u := .int .i64 0) (ownsRow_set (b := w.heap.size) (i := 0) (u := .int .i64 5) (ownsRow_keep HOW.out hb5) hw3) hw3) hw3) hw3) hw3)
  obtain ⟨r0, r1, r2, r3, r4⟩ := c5of hv5
  have f0 : w5.frozen? ⟨w.heap.size, 0, none⟩ = false := by simp [World.frozen?, hv5]
  have f1 : w5.frozen? ⟨w.heap.size, 1, none⟩ = false := by simp [World.frozen?, hv5]
  have f2 : w5.frozen? ⟨w.heap.size, 2, none⟩ = false := by simp [World.frozen?, hv5]
  have f3 : w5.frozen? ⟨w.heap.size, 3, none⟩ = false := by simp [World.frozen?, hv5]
  have f4 : w5.frozen? ⟨w.heap.size, 4, none⟩ = false := by simp [World.frozen?, hv5]
  clear hv5 hB15 hB14 hB23 hb5
  go_wp2
  have hp5 := put5 (.int .i64 5) (.int .i64 0) (.string ⟨#[]⟩) (.slice none 0 0) (.slice av nv cv) HV5.out
  have hpb := put5_below (.int .i64 5) (.int .i64 0) (.string ⟨#[]⟩) (.slice none 0 0) (.slice av nv cv) HBW.out (b := w.heap.size) (by omega)
  have HOWF := Lib.hid HOW9.out
  generalize ((((w5.setCell _ _).setCell _ _).setCell _ _).setCell _ _).setCell _ _ = W9 at hp5 hpb HOWF ⊢
  obtain ⟨z0, z1, z2, z3, z4⟩ := c5of hp5
  refine bodyPost_ret (v := .agg #[.int .i64 5, .int .i64 0, .string ⟨#[]⟩, .slice none 0 0, .slice av nv cv]) (by simp [results, Try.results13, go_sem, z0, z1, z2, z3, z4]) rfl ?_
  exact ⟨_, _, rfl, fun x hx => by
    have h1 := kept_mem (keyD m) S m.length (by have := HSL.out; omega) x hx
    have := HS.out.1.mem_iff.1 h1; simpa using this, by
      have h1 := isMap_mapM (mapL_isMap HS.out)
      unfold mapL at h1; rw [HSL.out] at h1; exact h1, ownsRow_base HOWF.out (by omega), hpb⟩
end Go.Proofs.Ythcphfpkinfjoaa

namespace Go.Proofs.Ythcphfpkinfjoaa
open Go.RowKit Go.Maps

theorem rList_in (f d : Nat) (t : List UInt8) : rList (pIn 93 (pItems f d t) t) = match pSkip t with
    | [] => rList (pItems f d t)
    | x :: r => if x.toNat = 93 then .ok (jList [], r) else rList (pItems f d t) := by
  unfold pIn
  cases pSkip t with
  | nil => rfl
  | cons x r =>
    simp only
    by_cases h : x.toNat = 93
    · rw [if_pos h, if_pos h]; rfl
    · rw [if_neg h, if_neg h]
theorem rMap_in (f d : Nat) (t : List UInt8) : rMap (pIn 125 (pMems f d [] t) t) = match pSkip t with
    | [] => rMap (pMems f d [] t)
    | x :: r => if x.toNat = 125 then .ok (jMap [], r) else rMap (pMems f d [] t) := by
  unfold pIn
  cases pSkip t with
  | nil => rfl
  | cons x r =>
    simp only
    by_cases h : x.toNat = 125
    · rw [if_pos h, if_pos h]; rfl
    · rw [if_neg h, if_neg h]

set_option maxRecDepth 100000 in
set_option maxHeartbeats 4000000 in
theorem plist_any {b : Nat} {s : ByteArray} {d f : Nat} {c : UInt8} {t : List UInt8} {w : World} (hP : PCur w b s (c :: t) d) (hd : d ≤ 50) (hf : 2 * t.length + 1 < f) (hs : 4 * s.size + 8 ≤ 1000000)
    (hv : ∀ f' d' l' w, f' < f → d' ≤ 50 → 2 * l'.length < f' → PCur w b s l' d' → Calls Try.prog 49 #[.pointer (some ⟨b, 0, none⟩)] w (PGot b s d' w (pVal f' d' l'))) :
    Calls Try.prog 91 #[.pointer (some ⟨b, 0, none⟩)] w (PGot b s d w (pBr d (rList (pIn 93 (pItems f (d + 1) t) t)))) := by
  have hbw := hP.lt
  have HP := Lib.hid hP
  have HV := Lib.hid hv
  have HS := Lib.hid hs
  have HF := Lib.hid hf
  clear hP hv hf
  go_enter Try.func91, Try.ntmps91
  go_wp2_with fail
  generalize hW2 : (w.alloc _).alloc _ = W2
  have hz2 : W2.heap.size = w.heap.size + 2 := by subst hW2; simp
  have hb2 : Below w.heap.size w W2 := by subst hW2; exact ((Below.refl _ w).alloc (Nat.le_refl _) _).alloc (by simp) _
  have HBX := Lib.hid (show W2.heap[w.heap.size]? = some (.cells #[.int .i64 0, .int .i64 0, .string ⟨#[]⟩, .slice none 0 0, .slice none 0 0] 26 (0, 0)) by
    subst hW2
    exact (((Below.refl (w.heap.size + 1) _).alloc (by simp) _).block w.heap.size (Nat.lt_succ_self _)).trans (World.alloc_heap_new w _))
  have HEL := Lib.hid (show W2.heap[w.heap.size + 1]? = some (.cells #[.pointer (some ⟨b, 0, none⟩), .slice none 0 0] 128 (0, 0)) by
    subst hW2
    have := World.alloc_heap_new (w.alloc (.cells #[.int .i64 0, .int .i64 0, .string ⟨#[]⟩, .slice none 0 0, .slice none 0 0] 26)) (.cells #[.pointer (some ⟨b, 0, none⟩), .slice none 0 0] 128)
    rw [World.size_alloc] at this
    exact this)
  have HZ2 := Lib.hid hz2
  have HX2 := Lib.hid (show Exc (fun x => x = b) w W2 from Exc.ofAll hb2)
  have HP2 := Lib.hid (HP.out.same (hb2.block b hbw))
  have HE := Lib.hid (show ESt W2.heap.size b (w.heap.size + 1) s d [] (c :: t) W2 from ⟨Nat.le_refl _, by omega, by omega, by omega, HP2.out, by have := HP2.out.1; simp only [List.length_nil]; omega, _, [], HEL.out, World.ownsRow_nil _ _ _ _, .nil, fun _ => rfl⟩)
  obtain ⟨B, hB⟩ : ∃ B, W2.heap.size = B := ⟨_, rfl⟩
  rw [hB] at HE HZ2
  have HB := Lib.hid hB
  clear hW2 hz2 hb2 hB
  refine (withinE_any HE.out hd HF.out HS.out HV.out).mono ?_
  intro e w3 hI
  obtain ⟨hx3, hI⟩ := hI
  have hbx3 := (hx3.block w.heap.size (by have := HB.out; have := HZ2.out; omega) (by have := HZ2.out; omega)).trans HBX.out
  have HX3 := Lib.hid (show Exc (fun x => x = b) w w3 from ⟨hx3.os.trans HX2.out.os, hx3.tape.trans HX2.out.tape, hx3.output.trans HX2.out.output, Nat.le_trans HX2.out.size hx3.size, fun k hk hkb => (hx3.block k (by have := HX2.out.size; omega) (by have := HZ2.out; omega)).trans (HX2.out.block k hk hkb)⟩)
  have HBX3 := Lib.hid hbx3
  obtain ⟨g0, g1, g2, g3, g4⟩ := box5 hbx3
  obtain ⟨r0, r1, r2, r3, r4⟩ := c5of hbx3
  cases hr : pBr d (pIn 93 (pItems f (d + 1) t) t) with
  | error cc =>
    rw [hr] at hI
    obtain ⟨rfl, hc, hlv⟩ := hI
    have hc' : ((cc : Int) != 0) = true := by simp; omega
    have HR := Lib.hid (show pBr d (rList (pIn 93 (pItems f (d + 1) t) t)) = .error cc by
      unfold pBr at hr ⊢
      by_cases h50 : d = 50
      · rw [if_pos h50] at hr ⊢; cases hr; rfl
      · rw [if_neg h50] at hr ⊢; rw [hr]; rfl)
    have HLV := Lib.hid hlv
    clear hr hx3 hbx3 hlv
    go_wp2
    have hp5 := put5 (.int .i64 0) (.int .i64 0) (.string ⟨#[]⟩) (.slice none 0 0) (.slice none 0 0) HBX3.out
    have ho5 := put5_only (w := w3) (b := w.heap.size) (.int .i64 0) (.int .i64 0) (.string ⟨#[]⟩) (.slice none 0 0) (.slice none 0 0)
    generalize ((((w3.setCell _ _).setCell _ _).setCell _ _).setCell _ _).setCell _ _ = W9 at hp5 ho5 ⊢
    obtain ⟨z0, z1, z2, z3, z4⟩ := c5of hp5
    refine bodyPost_ret (v := .tuple #[vZ, .int .i64 (cc : Int)]) (by simp [results, Try.results91, go_sem, z0, z1, z2, z3, z4, vZ]) rfl ?_
    exact PGot.no HR.out hc (HX3.out.box ho5 (Nat.le_refl _)) (HLV.out.same (ho5.block b (by omega)))
  | ok p =>
    obtain ⟨vs, l3⟩ := p
    rw [hr] at hI
    obtain ⟨rfl, hE3⟩ := hI
    have HR := Lib.hid (show pBr d (rList (pIn 93 (pItems f (d + 1) t) t)) = .ok (jList vs, l3) by
      unfold pBr at hr ⊢
      by_cases h50 : d = 50
      · rw [if_pos h50] at hr; cases hr
      · rw [if_neg h50] at hr ⊢; rw [hr]; rfl)
    obtain ⟨q0, _, _, _, q4, q5, got, xs, hel3, hrow3, hcs3, hnil3⟩ := hE3
    have HP3 := Lib.hid q4
    have HRW := Lib.hid hrow3
    have HCS := Lib.hid hcs3
    have HLN := Lib.hid (show vs.length ≤ 1000000 by omega)
    obtain ⟨e0, e1, e2⟩ := c2of hel3
    clear hr hx3 hbx3 q4 q5 hel3 hcs3
    go_wp2_with fail
    clear e0 e1 e2 r0 r1 r2 r3 r4 g0 g1 g2 g3 g4
    cases vs with
    | nil =>
      obtain rfl := hnil3 rfl
      refine (listv_nil w3).mono ?_
      rintro e w4 ⟨rfl, hb4⟩
      have hbx4 := (hb4.block w.heap.size (lt_of_block HBX3.out)).trans HBX3.out
      have HBX4 := Lib.hid hbx4
      have HX4 := Lib.hid (HX3.out.trans (Exc.ofAll hb4))
      have HP4 := Lib.hid (HP3.out.same (hb4.block b HP3.out.lt))
      obtain ⟨g0, g1, g2, g3, g4⟩ := box5 hbx4
      obtain ⟨r0, r1, r2, r3, r4⟩ := c5of hbx4
      clear hb4 hbx4 hrow3 hnil3
      go_wp2
      have hp5 := put5 (.int .i64 4) (.int .i64 0) (.string ⟨#[]⟩) (.slice none 0 0) (.slice none 0 0) HBX4.out
      have ho5 := put5_only (w := w4) (b := w.heap.size) (.int .i64 4) (.int .i64 0) (.string ⟨#[]⟩) (.slice none 0 0) (.slice none 0 0)
      generalize ((((w4.setCell _ _).setCell _ _).setCell _ _).setCell _ _).setCell _ _ = W9 at hp5 ho5 ⊢
      obtain ⟨z0, z1, z2, z3, z4⟩ := c5of hp5
      refine bodyPost_ret (v := .tuple #[.agg #[.int .i64 4, .int .i64 0, .string ⟨#[]⟩, .slice none 0 0, .slice none 0 0], .int .i64 0]) (by simp [results, Try.results91, go_sem, z0, z1, z2, z3, z4]) rfl ?_
      exact PGot.yes HR.out (HX4.out.box ho5 (Nat.le_refl _)) (VIn.flat (by decide) (by decide) (by decide)) (HP4.out.same (ho5.block b (by omega)))
    | cons v0 vs0 =>
      refine (listv_some _ _ _ got xs w3 HRW.out (by simp) (by have := HLN.out; omega) HCS.out.plain).mono ?_
      rintro e w4 ⟨v, rfl, hown4, hb4⟩
      obtain ⟨av, cv, rfl, _⟩ := ownsRow_slice hown4
      have hbx4 := (hb4.block w.heap.size (lt_of_block HBX3.out)).trans HBX3.out
      have HBX4 := Lib.hid hbx4
      have HX4 := Lib.hid (HX3.out.trans (Exc.ofAll hb4))
      have HP4 := Lib.hid (HP3.out.same (hb4.block b HP3.out.lt))
      have HB4 := Lib.hid hb4
      have HOW4 := Lib.hid hown4
      obtain ⟨g0, g1, g2, g3, g4⟩ := box5 hbx4
      obtain ⟨r0, r1, r2, r3, r4⟩ := c5of hbx4
      obtain ⟨n, hn⟩ : ∃ n, (v0 :: vs0).length = n := ⟨_, rfl⟩
      rw [hn] at HOW4 ⊢
      have HN := Lib.hid hn
      clear hb4 hbx4 hown4 hrow3 hnil3 hn
      go_wp2
      have hp5 := put5 (.int .i64 4) (.int .i64 0) (.string ⟨#[]⟩) (.slice av n cv) (.slice none 0 0) HBX4.out
      have ho5 := put5_only (w := w4) (b := w.heap.size) (.int .i64 4) (.int .i64 0) (.string ⟨#[]⟩) (.slice av n cv) (.slice none 0 0)
      generalize ((((w4.setCell _ _).setCell _ _).setCell _ _).setCell _ _).setCell _ _ = W9 at hp5 ho5 ⊢
      obtain ⟨z0, z1, z2, z3, z4⟩ := c5of hp5
      refine bodyPost_ret (v := .tuple #[.agg #[.int .i64 4, .int .i64 0, .string ⟨#[]⟩, .slice av n cv, .slice none 0 0], .int .i64 0]) (by simp [results, Try.results91, go_sem, z0, z1, z2, z3, z4]) rfl ?_
      have hsz3 : w.heap.size + 2 ≤ w3.heap.size := by have := HZ2.out; omega
      have hsz4 := HB4.out.size
      have hrow9 : W9.ownsRow w3.heap.size 26 5 (.slice av n cv) n xs := ownsRow_same HOW4.out (fun k hk => ho5.block k (by have := (ownsRow_lt HOW4.out k hk).1; omega))
      have hcs9 : VCs (fun x => w.heap.size ≤ x ∧ x < W9.heap.size) W9 (v0 :: vs0) xs := HCS.out.keep (fun x hx => (ho5.block x (by have := HZ2.out; omega)).trans (HB4.out.block x hx.2.1)) (fun x hx => ⟨by have := HZ2.out; omega, by rw [ho5.size]; omega⟩)
      exact PGot.yes HR.out (HX4.out.box ho5 (Nat.le_refl _)) (hcs9.list (by rw [HN.out]; exact hrow9) (fun k hk => ⟨by have := (ownsRow_lt hrow9 k hk).1; omega, (ownsRow_lt hrow9 k hk).2⟩) (by have := HLN.out; have : sMax = 140737488355328 := rfl; omega)) (HP4.out.same (ho5.block b (by omega)))
set_option maxRecDepth 100000 in
set_option maxHeartbeats 4000000 in
theorem ptable_any {b : Nat} {s : ByteArray} {d f : Nat} {c : UInt8} {t : List UInt8} {w : World} (hP : PCur w b s (c :: t) d) (hd : d ≤ 50) (hf : 2 * t.length + 1 < f) (hs : 4 * s.size + 8 ≤ 1000000)
    (hv : ∀ f' d' l' w, f' < f → d' ≤ 50 → 2 * l'.length < f' → PCur w b s l' d' → Calls Try.prog 49 #[.pointer (some ⟨b, 0, none⟩)] w (PGot b s d' w (pVal f' d' l'))) :
    Calls Try.prog 92 #[.pointer (some ⟨b, 0, none⟩)] w (PGot b s d w (pBr d (rMap (pIn 125 (pMems f (d + 1) [] t) t)))) := by
  have hbw := hP.lt
  have HP := Lib.hid hP
  have HV := Lib.hid hv
  have HS := Lib.hid hs
  have HF := Lib.hid hf
  clear hP hv hf
  have hmm := @run_makeMap Try.prog
  go_enter Try.func92, Try.ntmps92
  go_wp2_with fail
  clear hmm
  generalize hW2 : ((w.alloc _).alloc _).alloc _ = W2
  have hz2 : W2.heap.size = w.heap.size + 3 := by subst hW2; simp
  have hb2 : Below w.heap.size w W2 := by subst hW2; exact (((Below.refl _ w).alloc (Nat.le_refl _) _).alloc (by simp) _).alloc (by simp only [World.size_alloc]; omega) _
  have HBX := Lib.hid (show W2.heap[w.heap.size]? = some (.cells #[.int .i64 0, .int .i64 0, .string ⟨#[]⟩, .slice none 0 0, .slice none 0 0] 26 (0, 0)) by
    subst hW2
    exact ((((Below.refl (w.heap.size + 1) _).alloc (by simp) _).alloc (by simp) _).block w.heap.size (Nat.lt_succ_self _)).trans (World.alloc_heap_new w _))
  have HMP := Lib.hid (show W2.ownsMap Try.prog 9 (unitElem (H := Unit)) (w.heap.size + 1) 0 (.map []) by
    subst hW2
    have := World.ownsMap_made (H := Unit) (w.alloc (.cells #[.int .i64 0, .int .i64 0, .string ⟨#[]⟩, .slice none 0 0, .slice none 0 0] 26)) Try.prog 9 (unitElem (H := Unit))
    rw [World.size_alloc] at this
    exact this.alloc _)
  have HEL := Lib.hid (show W2.heap[w.heap.size + 2]? = some (.cells #[.pointer (some ⟨b, 0, none⟩), .slice none 0 0, .map (some (w.heap.size + 1))] 133 (0, 0)) by
    subst hW2
    have := World.alloc_heap_new ((w.alloc (.cells #[.int .i64 0, .int .i64 0, .string ⟨#[]⟩, .slice none 0 0, .slice none 0 0] 26)).alloc (.map #[] 0)) (.cells #[.pointer (some ⟨b, 0, none⟩), .slice none 0 0, .map (some (w.heap.size + 1))] 133)
    rw [World.size_alloc, World.size_alloc] at this
    exact this)
  have HZ2 := Lib.hid hz2
  have HX2 := Lib.hid (show Exc (fun x => x = b) w W2 from Exc.ofAll hb2)
  have HP2 := Lib.hid (HP.out.same (hb2.block b hbw))
  have HE := Lib.hid (show MSt W2.heap.size b (w.heap.size + 2) (w.heap.size + 1) s d [] [] (c :: t) W2 from ⟨Nat.le_refl _, by omega, by omega, by omega, by omega, HP2.out, by have := HP2.out.1; simp only [List.length_nil]; omega, HMP.out, _, [], HEL.out, World.ownsRow_nil _ _ _ _, .nil, fun _ => rfl⟩)
  obtain ⟨B, hB⟩ : ∃ B, W2.heap.size = B := ⟨_, rfl⟩
  rw [hB] at HE HZ2
  have HB := Lib.hid hB
  clear hW2 hz2 hb2 hB
  refine (withinM_any HE.out hd HF.out HS.out HV.out).mono ?_
  intro e w3 hI
  obtain ⟨hx3, hI⟩ := hI
  have hbx3 := (hx3.block w.heap.size (by have := HB.out; have := HZ2.out; omega) (by have := HZ2.out; omega)).trans HBX.out
  have HX3 := Lib.hid (show Exc (fun x => x = b) w w3 from ⟨hx3.os.trans HX2.out.os, hx3.tape.trans HX2.out.tape, hx3.output.trans HX2.out.output, Nat.le_trans HX2.out.size hx3.size, fun k hk hkb => (hx3.block k (by have := HX2.out.size; omega) (by have := HZ2.out; omega)).trans (HX2.out.block k hk hkb)⟩)
  have HBX3 := Lib.hid hbx3
  obtain ⟨g0, g1, g2, g3, g4⟩ := box5 hbx3
  obtain ⟨r0, r1, r2, r3, r4⟩ := c5of hbx3
  cases hr : pBr d (pIn 125 (pMems f (d + 1) [] t) t) with
  | error cc =>
    rw [hr] at hI
    obtain ⟨rfl, hc, hlv⟩ := hI
    have hc' : ((cc : Int) != 0) = true := by simp; omega
    have HR := Lib.hid (show pBr d (rMap (pIn 125 (pMems f (d + 1) [] t) t)) = .error cc by
      unfold pBr at hr ⊢
      by_cases h50 : d = 50
      · rw [if_pos h50] at hr ⊢; cases hr; rfl
      · rw [if_neg h50] at hr ⊢; rw [hr]; rfl)
    have HLV := Lib.hid hlv
    clear hr hx3 hbx3 hlv
    go_wp2
    have hp5 := put5 (.int .i64 0) (.int .i64 0) (.string ⟨#[]⟩) (.slice none 0 0) (.slice none 0 0) HBX3.out
    have ho5 := put5_only (w := w3) (b := w.heap.size) (.int .i64 0) (.int .i64 0) (.string ⟨#[]⟩) (.slice none 0 0) (.slice none 0 0)
    generalize ((((w3.setCell _ _).setCell _ _).setCell _ _).setCell _ _).setCell _ _ = W9 at hp5 ho5 ⊢
    obtain ⟨z0, z1, z2, z3, z4⟩ := c5of hp5
    refine bodyPost_ret (v := .tuple #[vZ, .int .i64 (cc : Int)]) (by simp [results, Try.results92, go_sem, z0, z1, z2, z3, z4, vZ]) rfl ?_
    exact PGot.no HR.out hc (HX3.out.box ho5 (Nat.le_refl _)) (HLV.out.same (ho5.block b (by omega)))
  | ok p =>
    obtain ⟨vs, l3⟩ := p
    rw [hr] at hI
    obtain ⟨rfl, hE3⟩ := hI
    have HR := Lib.hid (show pBr d (rMap (pIn 125 (pMems f (d + 1) [] t) t)) = .ok (jMap (mapM vs), l3) by
      unfold pBr at hr ⊢
      by_cases h50 : d = 50
      · rw [if_pos h50] at hr; cases hr
      · rw [if_neg h50] at hr ⊢; rw [hr]; rfl)
    obtain ⟨q0, _, _, _, _, q4, q5, _, got, xs, hel3, hrow3, hcs3, hnil3⟩ := hE3
    have HP3 := Lib.hid q4
    have HRW := Lib.hid hrow3
    have HCS := Lib.hid hcs3
    have HLN := Lib.hid (show vs.length ≤ 1000000 by omega)
    obtain ⟨e0, e1, e2, e3⟩ := c3of hel3
    clear hr hx3 hbx3 q4 q5 hel3 hcs3
    go_wp2_with fail
    clear e0 e1 e2 e3 r0 r1 r2 r3 r4 g0 g1 g2 g3 g4
    cases vs with
    | nil =>
      obtain rfl := hnil3 rfl
      refine (map_none none 0 w3).mono ?_
      rintro e w4 ⟨rfl, hb4⟩
      have hbx4 := (hb4.block w.heap.size (lt_of_block HBX3.out)).trans HBX3.out
      have HBX4 := Lib.hid hbx4
      have HX4 := Lib.hid (HX3.out.trans (Exc.ofAll hb4))
      have HP4 := Lib.hid (HP3.out.same (hb4.block b HP3.out.lt))
      obtain ⟨g0, g1, g2, g3, g4⟩ := box5 hbx4
      obtain ⟨r0, r1, r2, r3, r4⟩ := c5of hbx4
      clear hb4 hbx4 hrow3 hnil3
      go_wp2
      have hp5 := put5 (.int .i64 5) (.int .i64 0) (.string ⟨#[]⟩) (.slice none 0 0) (.slice none 0 0) HBX4.out
      have ho5 := put5_only (w := w4) (b := w.heap.size) (.int .i64 5) (.int .i64 0) (.string ⟨#[]⟩) (.slice none 0 0) (.slice none 0 0)
      generalize ((((w4.setCell _ _).setCell _ _).setCell _ _).setCell _ _).setCell _ _ = W9 at hp5 ho5 ⊢
      obtain ⟨z0, z1, z2, z3, z4⟩ := c5of hp5
      refine bodyPost_ret (v := .tuple #[.agg #[.int .i64 5, .int .i64 0, .string ⟨#[]⟩, .slice none 0 0, .slice none 0 0], .int .i64 0]) (by simp [results, Try.results92, go_sem, z0, z1, z2, z3, z4]) rfl ?_
      exact PGot.yes HR.out (HX4.out.box ho5 (Nat.le_refl _)) (VIn.flat (by decide) (by decide) (by decide)) (HP4.out.same (ho5.block b (by omega)))
    | cons v0 vs0 =>
      obtain ⟨gg, gcap, rfl, _, _, _, _, _⟩ := ownsRow_cell HRW.out (by simp)
      have hxs := flat6_of xs (v0 :: vs0).length HCS.out.len
      have hmat := HCS.out.mat HRW.out (fun x hx => hx.2.1) (by have := HLN.out; have : sMax = 140737488355328 := rfl; omega)
      refine (map_cells hmat (Nat.le_refl _) (by simp) HLN.out).mono ?_
      rintro e w4 ⟨v, D, rfl, hD, hDm, hown4, hb4⟩
      have HCD := Lib.hid (MCs.pick (by rw [hxs]; exact HCS.out) D hD)
      rw [hDm] at HCD
      have HDL := Lib.hid (show D.length = (mapM (v0 :: vs0)).length by rw [← hDm, List.length_map])
      have HDB := Lib.hid (show (mapM (v0 :: vs0)).length ≤ 1000000 by have h1 := isMap_len (mapM_isMap (v0 :: vs0)); have h2 := HLN.out; omega)
      generalize flat6 (fun i j => xs.getD (i * 6 + j) undef) D = ys at hown4 HCD
      rw [HDL.out] at hown4
      obtain ⟨av, cv, rfl, _⟩ := ownsRow_slice hown4
      have hbx4 := (hb4.block w.heap.size (lt_of_block HBX3.out)).trans HBX3.out
      have HBX4 := Lib.hid hbx4
      have HX4 := Lib.hid (HX3.out.trans (Exc.ofAll hb4))
      have HP4 := Lib.hid (HP3.out.same (hb4.block b HP3.out.lt))
      have HB4 := Lib.hid hb4
      have HOW4 := Lib.hid hown4
      obtain ⟨g0, g1, g2, g3, g4⟩ := box5 hbx4
      obtain ⟨r0, r1, r2, r3, r4⟩ := c5of hbx4
      obtain ⟨n, hn⟩ : ∃ n, (mapM (v0 :: vs0)).length = n := ⟨_, rfl⟩
      rw [hn] at HOW4 ⊢
      have HN := Lib.hid hn
      clear hb4 hbx4 hown4 hrow3 hnil3 hn hmat hxs hD hDm
      go_wp2
      have hp5 := put5 (.int .i64 5) (.int .i64 0) (.string ⟨#[]⟩) (.slice none 0 0) (.slice av n cv) HBX4.out
      have ho5 := put5_only (w := w4) (b := w.heap.size) (.int .i64 5) (.int .i64 0) (.string ⟨#[]⟩) (.slice none 0 0) (.slice av n cv)
      generalize ((((w4.setCell _ _).setCell _ _).setCell _ _).setCell _ _).setCell _ _ = W9 at hp5 ho5 ⊢
      obtain ⟨z0, z1, z2, z3, z4⟩ := c5of hp5
      refine bodyPost_ret (v := .tuple #[.agg #[.int .i64 5, .int .i64 0, .string ⟨#[]⟩, .slice none 0 0, .slice av n cv], .int .i64 0]) (by simp [results, Try.results92, go_sem, z0, z1, z2, z3, z4]) rfl ?_
      have hsz3 : w.heap.size + 3 ≤ w3.heap.size := by have := HZ2.out; omega
      have hsz4 := HB4.out.size
      have hrow9 : W9.ownsRow w3.heap.size 28 6 (.slice av n cv) n ys := ownsRow_same HOW4.out (fun k hk => ho5.block k (by have := (ownsRow_lt HOW4.out k hk).1; omega))
      have hcs9 : MCs (fun x => w.heap.size ≤ x ∧ x < W9.heap.size) W9 (mapM (v0 :: vs0)) ys := HCD.out.keep (fun x hx => (ho5.block x (by have := HZ2.out; omega)).trans (HB4.out.block x hx.2.1)) (fun x hx => ⟨by have := HZ2.out; omega, by rw [ho5.size]; omega⟩)
      exact PGot.yes HR.out (HX4.out.box ho5 (Nat.le_refl _)) (hcs9.map (by rw [HN.out]; exact hrow9) (fun k hk => ⟨by have := (ownsRow_lt hrow9 k hk).1; omega, (ownsRow_lt hrow9 k hk).2⟩) (by have := HDB.out; have : sMax = 140737488355328 := rfl; omega)) (HP4.out.same (ho5.block b (by omega)))
end Go.Proofs.Ythcphfpkinfjoaa

namespace Go.Proofs.Ythcphfpkinfjoaa
open Go.RowKit

def Steps (b : Nat) (N : Nat) (x : Int) : Prop := ∀ w : World, Calls Try.prog 71 #[.pointer (some ⟨b, 0, none⟩), .int .u8 x] w fun e w' => e = .returned (.func (.func N) #[.pointer (some ⟨b, 0, none⟩)] #[]) ∧ w = w'
set_option maxRecDepth 100000 in
set_option maxHeartbeats 400000 in
theorem step_list (b : Nat) (c : UInt8) (h : c.toNat = 91) : Steps b 91 (c.toNat : Int) := by
  intro w
  have e91 : ((c.toNat : Int) == 91) = true := by simp; omega
  clear h
  go_enter Try.func71, Try.ntmps71
  go_wp2
  go_ret
  exact ⟨rfl, rfl⟩
set_option maxRecDepth 100000 in
set_option maxHeartbeats 400000 in
theorem step_table (b : Nat) (c : UInt8) (h : c.toNat = 123) : Steps b 92 (c.toNat : Int) := by
  intro w
  have e91 : ((c.toNat : Int) == 91) = false := by simp; omega
  have e123 : ((c.toNat : Int) == 123) = true := by simp; omega
  clear h
  go_enter Try.func71, Try.ntmps71
  go_wp2
  go_ret
  exact ⟨rfl, rfl⟩
set_option maxRecDepth 100000 in
set_option maxHeartbeats 400000 in
theorem step_text (b : Nat) (c : UInt8) (h : c.toNat = 34) : Steps b 93 (c.toNat : Int) := by
  intro w
  have e91 : ((c.toNat : Int) == 91) = false := by simp; omega
  have e123 : ((c.toNat : Int) == 123) = false := by simp; omega
  have e34 : ((c.toNat : Int) == 34) = true := by simp; omega
  clear h
  go_enter Try.func71, Try.ntmps71
  go_wp2
  go_ret
  exact ⟨rfl, rfl⟩
set_option maxRecDepth 100000 in
set_option maxHeartbeats 400000 in
theorem step_minus (b : Nat) (c : UInt8) (h : c.toNat = 45) : Steps b 95 (c.toNat : Int) := by
  intro w
  have e91 : ((c.toNat : Int) == 91) = false := by simp; omega
  have e123 : ((c.toNat : Int) == 123) = false := by simp; omega
  have e34 : ((c.toNat : Int) == 34) = false := by simp; omega
  have e45 : ((c.toNat : Int) == 45) = true := by simp; omega
  clear h
  go_enter Try.func71, Try.ntmps71
  go_wp2
  go_ret
  exact ⟨rfl, rfl⟩
set_option maxRecDepth 100000 in
set_option maxHeartbeats 400000 in
theorem step_digit (b : Nat) (c : UInt8) (h1 : c.toNat ≠ 91) (h2 : c.toNat ≠ 123) (h3 : c.toNat ≠ 34) (h4 : c.toNat ≠ 45) (hd : pDig c = true) : Steps b 95 (c.toNat : Int) := by
  intro w
  have e91 : ((c.toNat : Int) == 91) = false := by simp; omega
  have e123 : ((c.toNat : Int) == 123) = false := by simp; omega
  have e34 : ((c.toNat : Int) == 34) = false := by simp; omega
  have e45 : ((c.toNat : Int) == 45) = false := by simp; omega
  clear h1 h2 h3 h4
  go_enter Try.func71, Try.ntmps71
  go_wp2_with fail
  refine (isDigit_is c true _ w rfl hd).mono ?_
  rintro e w1 ⟨rfl, rfl⟩
  go_wp2
  go_ret
  exact ⟨rfl, rfl⟩
set_option maxRecDepth 100000 in
set_option maxHeartbeats 400000 in
theorem step_word (b : Nat) (c : UInt8) (h1 : c.toNat ≠ 91) (h2 : c.toNat ≠ 123) (h3 : c.toNat ≠ 34) (h4 : c.toNat ≠ 45) (hd : pDig c = false) : Steps b 96 (c.toNat : Int) := by
  intro w
  have e91 : ((c.toNat : Int) == 91) = false := by simp; omega
  have e123 : ((c.toNat : Int) == 123) = false := by simp; omega
  have e34 : ((c.toNat : Int) == 34) = false := by simp; omega
  have e45 : ((c.toNat : Int) == 45) = false := by simp; omega
  clear h1 h2 h3 h4
  go_enter Try.func71, Try.ntmps71
  go_wp2_with fail
  refine (isDigit_is c false _ w rfl hd).mono ?_
  rintro e w1 ⟨rfl, rfl⟩
  go_wp2
  go_ret
  exact ⟨rfl, rfl⟩

set_option maxRecDepth 100000 in
set_option maxHeartbeats 2000000 in
theorem value_list {b : Nat} {s : ByteArray} {l : List UInt8} {d x : Nat} {w : World} {r : PR VT} (hP : PCur w b s l d) (hs : s.size ≤ maxLen) (hx : pHead l = x) (hst : Steps b 91 (x : Int))
    (hc : ∀ w, PCur w b s (pSkip l) d → Calls Try.prog 91 #[.pointer (some ⟨b, 0, none⟩)] w (PGot b s d w r)) :
    Calls Try.prog 49 #[.pointer (some ⟨b, 0, none⟩)] w (PGot b s d w r) := by
  have hbw := hP.lt
  have HP := Lib.hid hP
  have HS := Lib.hid hs
  have HX := Lib.hid hx
  have HST := Lib.hid hst
  have HC := Lib.hid hc
  clear hP hs hx hst hc
  go_enter Try.func49, Try.ntmps49
  go_wp2_with fail
  generalize hW0 : w.alloc _ = W0
  have hB0 : Below w.heap.size w W0 := by subst hW0; exact (Below.refl _ w).alloc (Nat.le_refl _) _
  have HV0 := Lib.hid (show W0.heap[w.heap.size]? = some (.cells #[.int .i64 0, .int .i64 0, .string ⟨#[]⟩, .slice none 0 0, .slice none 0 0] 26 (0, 0)) by subst hW0; exact World.alloc_heap_new w _)
  have HP0 := Lib.hid (HP.out.same (hB0.block b hbw))
  have HX0 := Lib.hid (Exc.ofAll (S := fun x => x = b) hB0)
  clear hW0 hB0
  refine (peek_is b s l d W0 x HS.out HP0.out HX.out).mono ?_
  rintro e w1 ⟨rfl, hp1, ho1⟩
  have HP1 := Lib.hid hp1
  have HX1 := Lib.hid (HX0.out.only ho1)
  have HV1 := Lib.hid ((ho1.block w.heap.size (by omega)).trans HV0.out)
  clear hp1 ho1
  go_wp2_with fail
  refine (HST.out w1).mono ?_
  rintro e w1' ⟨rfl, rfl⟩
  go_wp2_with fail
  refine (HC.out w1 HP1.out).mono ?_
  intro e w2 hg
  obtain ⟨hx2, hg⟩ := hg
  have hv2 := (hx2.block w.heap.size (lt_of_block HV1.out) (by omega)).trans HV1.out
  have HV2 := Lib.hid hv2
  have HX2 := Lib.hid (HX1.out.trans hx2)
  have HW1 := Lib.hid (show w.heap.size < w1.heap.size from lt_of_block HV1.out)
  obtain ⟨g0, g1, g2, g3, g4⟩ := box5 hv2
  obtain ⟨r0, r1, r2, r3, r4⟩ := c5of hv2
  clear hx2 hv2
  cases r with
  | error cc =>
    obtain ⟨rfl, hc, hlv⟩ := hg
    have HLV := Lib.hid hlv
    clear hlv
    unfold vZ
    go_wp2
    have hp5 := put5 (.int .i64 0) (.int .i64 0) (.string ⟨#[]⟩) (.slice none 0 0) (.slice none 0 0) HV2.out
    have ho5 := put5_only (w := w2) (b := w.heap.size) (.int .i64 0) (.int .i64 0) (.string ⟨#[]⟩) (.slice none 0 0) (.slice none 0 0)
    generalize ((((w2.setCell _ _).setCell _ _).setCell _ _).setCell _ _).setCell _ _ = W9 at hp5 ho5 ⊢
    obtain ⟨z0, z1, z2, z3, z4⟩ := c5of hp5
    refine bodyPost_ret (v := .tuple #[vZ, .int .i64 (cc : Int)]) (by simp [results, Try.results49, go_sem, z0, z1, z2, z3, z4, vZ]) rfl ?_
    exact PGot.no rfl hc (HX2.out.box ho5 (Nat.le_refl _)) (HLV.out.same (ho5.block b (by omega)))
  | ok p =>
    obtain ⟨t, l'⟩ := p
    obtain ⟨y, rfl, hy, hp'⟩ := hg
    obtain ⟨yk, yn, ys, ya, yl, yp, yb, ym, yq, rfl⟩ := hy.form
    have HY := Lib.hid hy
    have HP' := Lib.hid hp'
    clear hy hp'
    go_wp2
    have hp5 := put5 (.int .i64 yk) (.int .i64 yn) (.string ys) (.slice ya yl yp) (.slice yb ym yq) HV2.out
    have ho5 := put5_only (w := w2) (b := w.heap.size) (.int .i64 yk) (.int .i64 yn) (.string ys) (.slice ya yl yp) (.slice yb ym yq)
    generalize ((((w2.setCell _ _).setCell _ _).setCell _ _).setCell _ _).setCell _ _ = W9 at hp5 ho5 ⊢
    obtain ⟨z0, z1, z2, z3, z4⟩ := c5of hp5
    refine bodyPost_ret (v := .tuple #[.agg #[.int .i64 yk, .int .i64 yn, .string ys, .slice ya yl yp, .slice yb ym yq], .int .i64 0]) (by simp [results, Try.results49, go_sem, z0, z1, z2, z3, z4]) rfl ?_
    exact PGot.yes rfl (HX2.out.box ho5 (Nat.le_refl _)) ((HY.out.keep (fun x hx => ho5.block x (by have := HW1.out; omega))).mono (fun x hx => ⟨by have := HW1.out; omega, by rw [ho5.size]; exact hx.2⟩)) (HP'.out.same (ho5.block b (by omega)))

set_option maxRecDepth 100000 in
set_option maxHeartbeats 2000000 in
theorem value_table {b : Nat} {s : ByteArray} {l : List UInt8} {d x : Nat} {w : World} {r : PR VT} (hP : PCur w b s l d) (hs : s.size ≤ maxLen) (hx : pHead l = x) (hst : Steps b 92 (x : Int))
    (hc : ∀ w, PCur w b s (pSkip l) d → Calls Try.prog 92 #[.pointer (some ⟨b, 0, none⟩)] w (PGot b s d w r)) :
    Calls Try.prog 49 #[.pointer (some ⟨b, 0, none⟩)] w (PGot b s d w r) := by
  have hbw := hP.lt
  have HP := Lib.hid hP
  have HS := Lib.hid hs
  have HX := Lib.hid hx
  have HST := Lib.hid hst
  have HC := Lib.hid hc
  clear hP hs hx hst hc
  go_enter Try.func49, Try.ntmps49
  go_wp2_with fail
  generalize hW0 : w.alloc _ = W0
  have hB0 : Below w.heap.size w W0 := by subst hW0; exact (Below.refl _ w).alloc (Nat.le_refl _) _
  have HV0 := Lib.hid (show W0.heap[w.heap.size]? = some (.cells #[.int .i64 0, .int .i64 0, .string ⟨#[]⟩, .slice none 0 0, .slice none 0 0] 26 (0, 0)) by subst hW0; exact World.alloc_heap_new w _)
  have HP0 := Lib.hid (HP.out.same (hB0.block b hbw))
  have HX0 := Lib.hid (Exc.ofAll (S := fun x => x = b) hB0)
  clear hW0 hB0
  refine (peek_is b s l d W0 x HS.out HP0.out HX.out).mono ?_
  rintro e w1 ⟨rfl, hp1, ho1⟩
  have HP1 := Lib.hid hp1
  have HX1 := Lib.hid (HX0.out.only ho1)
  have HV1 := Lib.hid ((ho1.block w.heap.size (by omega)).trans HV0.out)
  clear hp1 ho1
  go_wp2_with fail
  refine (HST.out w1).mono ?_
  rintro e w1' ⟨rfl, rfl⟩
  go_wp2_with fail
  refine (HC.out w1 HP1.out).mono ?_
  intro e w2 hg
  obtain ⟨hx2, hg⟩ := hg
  have hv2 := (hx2.block w.heap.size (lt_of_block HV1.out) (by omega)).trans HV1.out
  have HV2 := Lib.hid hv2
  have HX2 := Lib.hid (HX1.out.trans hx2)
  have HW1 := Lib.hid (show w.heap.size < w1.heap.size from lt_of_block HV1.out)
  obtain ⟨g0, g1, g2, g3, g4⟩ := box5 hv2
  obtain ⟨r0, r1, r2, r3, r4⟩ := c5of hv2
  clear hx2 hv2
  cases r with
  | error cc =>
    obtain ⟨rfl, hc, hlv⟩ := hg
    have HLV := Lib.hid hlv
    clear hlv
    unfold vZ
    go_wp2
    have hp5 := put5 (.int .i64 0) (.int .i64 0) (.string ⟨#[]⟩) (.slice none 0 0) (.slice none 0 0) HV2.out
    have ho5 := put5_only (w := w2) (b := w.heap.size) (.int .i64 0) (.int .i64 0) (.string ⟨#[]⟩) (.slice none 0 0) (.slice none 0 0)
    generalize ((((w2.setCell _ _).setCell _ _).setCell _ _).setCell _ _).setCell _ _ = W9 at hp5 ho5 ⊢
    obtain ⟨z0, z1, z2, z3, z4⟩ := c5of hp5
    refine bodyPost_ret (v := .tuple #[vZ, .int .i64 (cc : Int)]) (by simp [results, Try.results49, go_sem, z0, z1, z2, z3, z4, vZ]) rfl ?_
    exact PGot.no rfl hc (HX2.out.box ho5 (Nat.le_refl _)) (HLV.out.same (ho5.block b (by omega)))
  | ok p =>
    obtain ⟨t, l'⟩ := p
    obtain ⟨y, rfl, hy, hp'⟩ := hg
    obtain ⟨yk, yn, ys, ya, yl, yp, yb, ym, yq, rfl⟩ := hy.form
    have HY := Lib.hid hy
    have HP' := Lib.hid hp'
    clear hy hp'
    go_wp2
    have hp5 := put5 (.int .i64 yk) (.int .i64 yn) (.string ys) (.slice ya yl yp) (.slice yb ym yq) HV2.out
    have ho5 := put5_only (w := w2) (b := w.heap.size) (.int .i64 yk) (.int .i64 yn) (.string ys) (.slice ya yl yp) (.slice yb ym yq)
    generalize ((((w2.setCell _ _).setCell _ _).setCell _ _).setCell _ _).setCell _ _ = W9 at hp5 ho5 ⊢
    obtain ⟨z0, z1, z2, z3, z4⟩ := c5of hp5
    refine bodyPost_ret (v := .tuple #[.agg #[.int .i64 yk, .int .i64 yn, .string ys, .slice ya yl yp, .slice yb ym yq], .int .i64 0]) (by simp [results, Try.results49, go_sem, z0, z1, z2, z3, z4]) rfl ?_
    exact PGot.yes rfl (HX2.out.box ho5 (Nat.le_refl _)) ((HY.out.keep (fun x hx => ho5.block x (by have := HW1.out; omega))).mono (fun x hx => ⟨by have := HW1.out; omega, by rw [ho5.size]; exact hx.2⟩)) (HP'.out.same (ho5.block b (by omega)))

set_option maxRecDepth 100000 in
set_option maxHeartbeats 2000000 in
theorem value_text {b : Nat} {s : ByteArray} {l : List UInt8} {d x : Nat} {w : World} {r : PR VT} (hP : PCur w b s l d) (hs : s.size ≤ maxLen) (hx : pHead l = x) (hst : Steps b 93 (x : Int))
    (hc : ∀ w, PCur w b s (pSkip l) d → Calls Try.prog 93 #[.pointer (some ⟨b, 0, none⟩)] w (PGot b s d w r)) :
    Calls Try.prog 49 #[.pointer (some ⟨b, 0, none⟩)] w (PGot b s d w r) := by
  have hbw := hP.lt
  have HP := Lib.hid hP
  have HS := Lib.hid hs
  have HX := Lib.hid hx
  have HST := Lib.hid hst
  have HC := Lib.hid hc
  clear hP hs hx hst hc
  go_enter Try.func49, Try.ntmps49
  go_wp2_with fail
  generalize hW0 : w.alloc _ = W0
  have hB0 : Below w.heap.size w W0 := by subst hW0; exact (Below.refl _ w).alloc (Nat.le_refl _) _
  have HV0 := Lib.hid (show W0.heap[w.heap.size]? = some (.cells #[.int .i64 0, .int .i64 0, .string ⟨#[]⟩, .slice none 0 0, .slice none 0 0] 26 (0, 0)) by subst hW0; exact World.alloc_heap_new w _)
  have HP0 := Lib.hid (HP.out.same (hB0.block b hbw))
  have HX0 := Lib.hid (Exc.ofAll (S := fun x => x = b) hB0)
  clear hW0 hB0
  refine (peek_is b s l d W0 x HS.out HP0.out HX.out).mono ?_
  rintro e w1 ⟨rfl, hp1, ho1⟩
  have HP1 := Lib.hid hp1
  have HX1 := Lib.hid (HX0.out.only ho1)
  have HV1 := Lib.hid ((ho1.block w.heap.size (by omega)).trans HV0.out)
  clear hp1 ho1
  go_wp2_with fail
  refine (HST.out w1).mono ?_
  rintro e w1' ⟨rfl, rfl⟩
  go_wp2_with fail
  refine (HC.out w1 HP1.out).mono ?_
  intro e w2 hg
  obtain ⟨hx2, hg⟩ := hg
  have hv2 := (hx2.block w.heap.size (lt_of_block HV1.out) (by omega)).trans HV1.out
  have HV2 := Lib.hid hv2
  have HX2 := Lib.hid (HX1.out.trans hx2)
  have HW1 := Lib.hid (show w.heap.size < w1.heap.size from lt_of_block HV1.out)
  obtain ⟨g0, g1, g2, g3, g4⟩ := box5 hv2
  obtain ⟨r0, r1, r2, r3, r4⟩ := c5of hv2
  clear hx2 hv2
  cases r with
  | error cc =>
    obtain ⟨rfl, hc, hlv⟩ := hg
    have HLV := Lib.hid hlv
    clear hlv
    unfold vZ
    go_wp2
    have hp5 := put5 (.int .i64 0) (.int .i64 0) (.string ⟨#[]⟩) (.slice none 0 0) (.slice none 0 0) HV2.out
    have ho5 := put5_only (w := w2) (b := w.heap.size) (.int .i64 0) (.int .i64 0) (.string ⟨#[]⟩) (.slice none 0 0) (.slice none 0 0)
    generalize ((((w2.setCell _ _).setCell _ _).setCell _ _).setCell _ _).setCell _ _ = W9 at hp5 ho5 ⊢
    obtain ⟨z0, z1, z2, z3, z4⟩ := c5of hp5
    refine bodyPost_ret (v := .tuple #[vZ, .int .i64 (cc : Int)]) (by simp [results, Try.results49, go_sem, z0, z1, z2, z3, z4, vZ]) rfl ?_
    exact PGot.no rfl hc (HX2.out.box ho5 (Nat.le_refl _)) (HLV.out.same (ho5.block b (by omega)))
  | ok p =>
    obtain ⟨t, l'⟩ := p
    obtain ⟨y, rfl, hy, hp'⟩ := hg
    obtain ⟨yk, yn, ys, ya, yl, yp, yb, ym, yq, rfl⟩ := hy.form
    have HY := Lib.hid hy
    have HP' := Lib.hid hp'
    clear hy hp'
    go_wp2
    have hp5 := put5 (.int .i64 yk) (.int .i64 yn) (.string ys) (.slice ya yl yp) (.slice yb ym yq) HV2.out
    have ho5 := put5_only (w := w2) (b := w.heap.size) (.int .i64 yk) (.int .i64 yn) (.string ys) (.slice ya yl yp) (.slice yb ym yq)
    generalize ((((w2.setCell _ _).setCell _ _).setCell _ _).setCell _ _).setCell _ _ = W9 at hp5 ho5 ⊢
    obtain ⟨z0, z1, z2, z3, z4⟩ := c5of hp5
    refine bodyPost_ret (v := .tuple #[.agg #[.int .i64 yk, .int .i64 yn, .string ys, .slice ya yl yp, .slice yb ym yq], .int .i64 0]) (by simp [results, Try.results49, go_sem, z0, z1, z2, z3, z4]) rfl ?_
    exact PGot.yes rfl (HX2.out.box ho5 (Nat.le_refl _)) ((HY.out.keep (fun x hx => ho5.block x (by have := HW1.out; omega))).mono (fun x hx => ⟨by have := HW1.out; omega, by rw [ho5.size]; exact hx.2⟩)) (HP'.out.same (ho5.block b (by omega)))

set_option maxRecDepth 100000 in
set_option maxHeartbeats 2000000 in
theorem value_number {b : Nat} {s : ByteArray} {l : List UInt8} {d x : Nat} {w : World} {r : PR VT} (hP : PCur w b s l d) (hs : s.size ≤ maxLen) (hx : pHead l = x) (hst : Steps b 95 (x : Int))
    (hc : ∀ w, PCur w b s (pSkip l) d → Calls Try.prog 95 #[.pointer (some ⟨b, 0, none⟩)] w (PGot b s d w r)) :
    Calls Try.prog 49 #[.pointer (some ⟨b, 0, none⟩)] w (PGot b s d w r) := by
  have hbw := hP.lt
  have HP := Lib.hid hP
  have HS := Lib.hid hs
  have HX := Lib.hid hx
  have HST := Lib.hid hst
  have HC := Lib.hid hc
  clear hP hs hx hst hc
  go_enter Try.func49, Try.ntmps49
  go_wp2_with fail
  generalize hW0 : w.alloc _ = W0
  have hB0 : Below w.heap.size w W0 := by subst hW0; exact (Below.refl _ w).alloc (Nat.le_refl _) _
  have HV0 := Lib.hid (show W0.heap[w.heap.size]? = some (.cells #[.int .i64 0, .int .i64 0, .string ⟨#[]⟩, .slice none 0 0, .slice none 0 0] 26 (0, 0)) by subst hW0; exact World.alloc_heap_new w _)
  have HP0 := Lib.hid (HP.out.same (hB0.block b hbw))
  have HX0 := Lib.hid (Exc.ofAll (S := fun x => x = b) hB0)
  clear hW0 hB0
  refine (peek_is b s l d W0 x HS.out HP0.out HX.out).mono ?_
  rintro e w1 ⟨rfl, hp1, ho1⟩
  have HP1 := Lib.hid hp1
  have HX1 := Lib.hid (HX0.out.only ho1)
  have HV1 := Lib.hid ((ho1.block w.heap.size (by omega)).trans HV0.out)
  clear hp1 ho1
  go_wp2_with fail
  refine (HST.out w1).mono ?_
  rintro e w1' ⟨rfl, rfl⟩
  go_wp2_with fail
  refine (HC.out w1 HP1.out).mono ?_
  intro e w2 hg
  obtain ⟨hx2, hg⟩ := hg
  have hv2 := (hx2.block w.heap.size (lt_of_block HV1.out) (by omega)).trans HV1.out
  have HV2 := Lib.hid hv2
  have HX2 := Lib.hid (HX1.out.trans hx2)
  have HW1 := Lib.hid (show w.heap.size < w1.heap.size from lt_of_block HV1.out)
  obtain ⟨g0, g1, g2, g3, g4⟩ := box5 hv2
  obtain ⟨r0, r1, r2, r3, r4⟩ := c5of hv2
  clear hx2 hv2
  cases r with
  | error cc =>
    obtain ⟨rfl, hc, hlv⟩ := hg
    have HLV := Lib.hid hlv
    clear hlv
    unfold vZ
    go_wp2
    have hp5 := put5 (.int .i64 0) (.int .i64 0) (.string ⟨#[]⟩) (.slice none 0 0) (.slice none 0 0) HV2.out
    have ho5 := put5_only (w := w2) (b := w.heap.size) (.int .i64 0) (.int .i64 0) (.string ⟨#[]⟩) (.slice none 0 0) (.slice none 0 0)
    generalize ((((w2.setCell _ _).setCell _ _).setCell _ _).setCell _ _).setCell _ _ = W9 at hp5 ho5 ⊢
    obtain ⟨z0, z1, z2, z3, z4⟩ := c5of hp5
    refine bodyPost_ret (v := .tuple #[vZ, .int .i64 (cc : Int)]) (by simp [results, Try.results49, go_sem, z0, z1, z2, z3, z4, vZ]) rfl ?_
    exact PGot.no rfl hc (HX2.out.box ho5 (Nat.le_refl _)) (HLV.out.same (ho5.block b (by omega)))
  | ok p =>
    obtain ⟨t, l'⟩ := p
    obtain ⟨y, rfl, hy, hp'⟩ := hg
    obtain ⟨yk, yn, ys, ya, yl, yp, yb, ym, yq, rfl⟩ := hy.form
    have HY := Lib.hid hy
    have HP' := Lib.hid hp'
    clear hy hp'
    go_wp2
    have hp5 := put5 (.int .i64 yk) (.int .i64 yn) (.string ys) (.slice ya yl yp) (.slice yb ym yq) HV2.out
    have ho5 := put5_only (w := w2) (b := w.heap.size) (.int .i64 yk) (.int .i64 yn) (.string ys) (.slice ya yl yp) (.slice yb ym yq)
    generalize ((((w2.setCell _ _).setCell _ _).setCell _ _).setCell _ _).setCell _ _ = W9 at hp5 ho5 ⊢
    obtain ⟨z0, z1, z2, z3, z4⟩ := c5of hp5
    refine bodyPost_ret (v := .tuple #[.agg #[.int .i64 yk, .int .i64 yn, .string ys, .slice ya yl yp, .slice yb ym yq], .int .i64 0]) (by simp [results, Try.results49, go_sem, z0, z1, z2, z3, z4]) rfl ?_
    exact PGot.yes rfl (HX2.out.box ho5 (Nat.le_refl _)) ((HY.out.keep (fun x hx => ho5.block x (by have := HW1.out; omega))).mono (fun x hx => ⟨by have := HW1.out; omega, by rw [ho5.size]; exact hx.2⟩)) (HP'.out.same (ho5.block b (by omega)))

set_option maxRecDepth 100000 in
set_option maxHeartbeats 2000000 in
theorem value_word {b : Nat} {s : ByteArray} {l : List UInt8} {d x : Nat} {w : World} {r : PR VT} (hP : PCur w b s l d) (hs : s.size ≤ maxLen) (hx : pHead l = x) (hst : Steps b 96 (x : Int))
    (hc : ∀ w, PCur w b s (pSkip l) d → Calls Try.prog 96 #[.pointer (some ⟨b, 0, none⟩)] w (PGot b s d w r)) :
    Calls Try.prog 49 #[.pointer (some ⟨b, 0, none⟩)] w (PGot b s d w r) := by
  have hbw := hP.lt
  have HP := Lib.hid hP
  have HS := Lib.hid hs
  have HX := Lib.hid hx
  have HST := Lib.hid hst
  have HC := Lib.hid hc
  clear hP hs hx hst hc
  go_enter Try.func49, Try.ntmps49
  go_wp2_with fail
  generalize hW0 : w.alloc _ = W0
  have hB0 : Below w.heap.size w W0 := by subst hW0; exact (Below.refl _ w).alloc (Nat.le_refl _) _
  have HV0 := Lib.hid (show W0.heap[w.heap.size]? = some (.cells #[.int .i64 0, .int .i64 0, .string ⟨#[]⟩, .slice none 0 0, .slice none 0 0] 26 (0, 0)) by subst hW0; exact World.alloc_heap_new w _)
  have HP0 := Lib.hid (HP.out.same (hB0.block b hbw))
  have HX0 := Lib.hid (Exc.ofAll (S := fun x => x = b) hB0)
  clear hW0 hB0
  refine (peek_is b s l d W0 x HS.out HP0.out HX.out).mono ?_
  rintro e w1 ⟨rfl, hp1, ho1⟩
  have HP1 := Lib.hid hp1
  have HX1 := Lib.hid (HX0.out.only ho1)
  have HV1 := Lib.hid ((ho1.block w.heap.size (by omega)).trans HV0.out)
  clear hp1 ho1
  go_wp2_with fail
  refine (HST.out w1).mono ?_
  rintro e w1' ⟨rfl, rfl⟩
  go_wp2_with fail
  refine (HC.out w1 HP1.out).mono ?_
  intro e w2 hg
  obtain ⟨hx2, hg⟩ := hg
  have hv2 := (hx2.block w.heap.size (lt_of_block HV1.out) (by omega)).trans HV1.out
  have HV2 := Lib.hid hv2
  have HX2 := Lib.hid (HX1.out.trans hx2)
  have HW1 := Lib.hid (show w.heap.size < w1.heap.size from lt_of_block HV1.out)
  obtain ⟨g0, g1, g2, g3, g4⟩ := box5 hv2
  obtain ⟨r0, r1, r2, r3, r4⟩ := c5of hv2
  clear hx2 hv2
  cases r with
  | error cc =>
    obtain ⟨rfl, hc, hlv⟩ := hg
    have HLV := Lib.hid hlv
    clear hlv
    unfold vZ
    go_wp2
    have hp5 := put5 (.int .i64 0) (.int .i64 0) (.string ⟨#[]⟩) (.slice none 0 0) (.slice none 0 0) HV2.out
    have ho5 := put5_only (w := w2) (b := w.heap.size) (.int .i64 0) (.int .i64 0) (.string ⟨#[]⟩) (.slice none 0 0) (.slice none 0 0)
    generalize ((((w2.setCell _ _).setCell _ _).setCell _ _).setCell _ _).setCell _ _ = W9 at hp5 ho5 ⊢
    obtain ⟨z0, z1, z2, z3, z4⟩ := c5of hp5
    refine bodyPost_ret (v := .tuple #[vZ, .int .i64 (cc : Int)]) (by simp [results, Try.results49, go_sem, z0, z1, z2, z3, z4, vZ]) rfl ?_
    exact PGot.no rfl hc (HX2.out.box ho5 (Nat.le_refl _)) (HLV.out.same (ho5.block b (by omega)))
  | ok p =>
    obtain ⟨t, l'⟩ := p
    obtain ⟨y, rfl, hy, hp'⟩ := hg
    obtain ⟨yk, yn, ys, ya, yl, yp, yb, ym, yq, rfl⟩ := hy.form
    have HY := Lib.hid hy
    have HP' := Lib.hid hp'
    clear hy hp'
    go_wp2
    have hp5 := put5 (.int .i64 yk) (.int .i64 yn) (.string ys) (.slice ya yl yp) (.slice yb ym yq) HV2.out
    have ho5 := put5_only (w := w2) (b := w.heap.size) (.int .i64 yk) (.int .i64 yn) (.string ys) (.slice ya yl yp) (.slice yb ym yq)
    generalize ((((w2.setCell _ _).setCell _ _).setCell _ _).setCell _ _).setCell _ _ = W9 at hp5 ho5 ⊢
    obtain ⟨z0, z1, z2, z3, z4⟩ := c5of hp5
    refine bodyPost_ret (v := .tuple #[.agg #[.int .i64 yk, .int .i64 yn, .string ys, .slice ya yl yp, .slice yb ym yq], .int .i64 0]) (by simp [results, Try.results49, go_sem, z0, z1, z2, z3, z4]) rfl ?_
    exact PGot.yes rfl (HX2.out.box ho5 (Nat.le_refl _)) ((HY.out.keep (fun x hx => ho5.block x (by have := HW1.out; omega))).mono (fun x hx => ⟨by have := HW1.out; omega, by rw [ho5.size]; exact hx.2⟩)) (HP'.out.same (ho5.block b (by omega)))


theorem value_all (b : Nat) (s : ByteArray) (hs : 4 * s.size + 8 ≤ 1000000) : ∀ (f d : Nat) (l : List UInt8) (w : World), d ≤ 50 → 2 * l.length < f → PCur w b s l d → Calls Try.prog 49 #[.pointer (some ⟨b, 0, none⟩)] w (PGot b s d w (pVal f d l)) := by
  intro f
  induction f using Nat.strongRecOn with
  | _ f ih =>
    intro d l w hd hf hP
    obtain ⟨g, rfl⟩ : ∃ g, f = g + 1 := ⟨f - 1, by omega⟩
    have hsm : s.size ≤ maxLen := by unfold maxLen; omega
    have hs4 : 4 * s.size + 8 ≤ 140737488355328 := by omega
    have hv : ∀ f' d' l' w, f' < g → d' ≤ 50 → 2 * l'.length < f' → PCur w b s l' d' → Calls Try.prog 49 #[.pointer (some ⟨b, 0, none⟩)] w (PGot b s d' w (pVal f' d' l')) := fun f' d' l' w h1 h2 h3 h4 => ih f' (by omega) d' l' w h2 h3 h4
    cases hl : pSkip l with
    | nil =>
      rw [show pVal (g + 1) d l = pWord [] by simp only [pVal, hl]; rfl]
      refine value_word hP hsm (x := 0) (by unfold pHead; rw [hl]) (by simpa using step_word b 0 (by decide) (by decide) (by decide) (by decide) (by decide)) (fun w hp => ?_)
      rw [hl] at hp
      exact word_any b s [] d w hs4 hp
    | cons c t =>
      have hhd : pHead l = c.toNat := by unfold pHead; rw [hl]
      have htl := skip_cons hl
      by_cases h91 : c.toNat = 91
      · rw [show pVal (g + 1) d l = pBr d (rList (pIn 93 (pItems g (d + 1) t) t)) by
          simp only [pVal, hl]; rw [if_pos h91, rList_in]; rfl]
        refine value_list hP hsm hhd (step_list b c h91) (fun w hp => ?_)
        rw [hl] at hp
        exact plist_any hp hd (by omega) hs hv
      by_cases h123 : c.toNat = 123
      · rw [show pVal (g + 1) d l = pBr d (rMap (pIn 125 (pMems g (d + 1) [] t) t)) by
          simp only [pVal, hl]; rw [if_neg h91, if_pos h123, rMap_in]; rfl]
        refine value_table hP hsm hhd (step_table b c h123) (fun w hp => ?_)
        rw [hl] at hp
        exact ptable_any hp hd (by omega) hs hv
      by_cases h34 : c.toNat = 34
      · rw [show pVal (g + 1) d l = pText (c :: t) by simp only [pVal, hl]; rw [if_neg h91, if_neg h123, if_pos h34]]
        refine value_text hP hsm hhd (step_text b c h34) (fun w hp => ?_)
        rw [hl] at hp
        exact ptext_any b s (c :: t) d w hs4 hp
      by_cases h45 : c.toNat = 45
      · rw [show pVal (g + 1) d l = pNumber (c :: t) by simp only [pVal, hl]; rw [if_neg h91, if_neg h123, if_neg h34, if_pos (.inl h45)]]
        refine value_number hP hsm hhd (step_minus b c h45) (fun w hp => ?_)
        rw [hl] at hp
        exact number_any b s (c :: t) d w hsm hp
      cases hdg : pDig c with
      | true =>
        rw [show pVal (g + 1) d l = pNumber (c :: t) by simp only [pVal, hl]; rw [if_neg h91, if_neg h123, if_neg h34, if_pos (.inr hdg)]]
        refine value_number hP hsm hhd (step_digit b c h91 h123 h34 h45 hdg) (fun w hp => ?_)
        rw [hl] at hp
        exact number_any b s (c :: t) d w hsm hp
      | false =>
        rw [show pVal (g + 1) d l = pWord (c :: t) by simp only [pVal, hl]; rw [if_neg h91, if_neg h123, if_neg h34, if_neg (by rw [hdg]; simp [h45])]]
        refine value_word hP hsm hhd (step_word b c h91 h123 h34 h45 hdg) (fun w hp => ?_)
        rw [hl] at hp
        exact word_any b s (c :: t) d w hs4 hp
end Go.Proofs.Ythcphfpkinfjoaa

namespace Go.Proofs.Ythcphfpkinfjoaa
open Go.RowKit

/-- What Parse leaves. -/
def Parsed (w : World) (r : Except Nat VT) (e : Ending) (w' : World) : Prop :=
  Below w.heap.size w w' ∧ match r with
    | .error c => e = .returned (.tuple #[vZ, .int .i64 (c : Int)]) ∧ c ≠ 0
    | .ok t => ∃ y, e = .returned (.tuple #[y, .int .i64 0]) ∧ VAt w'.heap.size w' t y
theorem Parsed.no {w w' : World} {r : Except Nat VT} {c : Nat} (h : r = .error c) (hc : c ≠ 0) (hb : Below w.heap.size w w') : Parsed w r (.returned (.tuple #[vZ, .int .i64 (c : Int)])) w' := by
  subst h; exact ⟨hb, rfl, hc⟩
theorem Parsed.yes {w w' : World} {r : Except Nat VT} {t : VT} {y : Value} (h : r = .ok t) (hb : Below w.heap.size w w') (hv : VAt w'.heap.size w' t y) : Parsed w r (.returned (.tuple #[y, .int .i64 0])) w' := by
  subst h; exact ⟨hb, y, rfl, hv⟩

set_option maxRecDepth 100000 in
set_option maxHeartbeats 2000000 in
theorem parse_any (s : ByteArray) (most : Int) (w : World) (hs : 4 * s.size + 8 ≤ 1000000) :
    Calls Try.prog 26 #[.string s, .int .i64 most] w (Parsed w (pParse s.data.toList most)) := by
  have HS := Lib.hid hs
  have hln : s.data.toList.length = s.size := Array.length_toList
  by_cases hm : max most 0 < (s.size : Int)
  · have HR := Lib.hid (show pParse s.data.toList most = .error 6 by unfold pParse; rw [hln, if_pos hm])
    clear hln
    go_enter Try.func26, Try.ntmps26
    go_wp2
    refine bodyPost_ret (v := .tuple #[vZ, .int .i64 6]) (by simp [results, Try.results26, go_sem, vZ]) rfl ?_
    exact Parsed.no HR.out (by decide) (by repeat' first | exact Below.refl _ _ | (refine Below.setCell ?_ (by simp) _) | (refine Below.alloc ?_ (by simp) _))
  · have HRR := Lib.hid (show pParse s.data.toList most = pAll s.data.toList by unfold pParse; rw [hln, if_neg hm])
    have HLN := Lib.hid hln
    clear hln
    go_enter Try.func26, Try.ntmps26
    go_wp2_with fail
    generalize hW2 : (w.alloc _).alloc _ = W2
    have hz2 : W2.heap.size = w.heap.size + 2 := by subst hW2; simp
    have hb2 : Below w.heap.size w W2 := by subst hW2; exact ((Below.refl _ w).alloc (Nat.le_refl _) _).alloc (by simp) _
    have HBX := Lib.hid (show W2.heap[w.heap.size]? = some (.cells #[.int .i64 0, .int .i64 0, .string ⟨#[]⟩, .slice none 0 0, .slice none 0 0] 26 (0, 0)) by
      subst hW2
      exact (((Below.refl (w.heap.size + 1) _).alloc (by simp) _).block w.heap.size (Nat.lt_succ_self _)).trans (World.alloc_heap_new w _))
    have HPC := Lib.hid (show PCur W2 (w.heap.size + 1) s s.data.toList 0 by
      subst hW2
      refine ⟨by rw [HLN.out]; exact Nat.le_refl _, by rw [HLN.out, Nat.sub_self]; rfl, ?_⟩
      have := World.alloc_heap_new (w.alloc (.cells #[.int .i64 0, .int .i64 0, .string ⟨#[]⟩, .slice none 0 0, .slice none 0 0] 26)) (.cells #[.string s, .int .i64 0, .int .i64 0] 81)
      rw [World.size_alloc] at this
      rw [HLN.out, Nat.sub_self]
      exact this)
    have HB2 := Lib.hid hb2
    have HZ2 := Lib.hid hz2
    clear hW2 hz2 hb2
    refine (value_all (w.heap.size + 1) s HS.out (2 * s.data.toList.length + 1) 0 s.data.toList W2 (by omega) (by omega) HPC.out).mono ?_
    intro e w3 hg
    obtain ⟨hx3, hg⟩ := hg
    have HB3 := Lib.hid (show Below w.heap.size w w3 from HB2.out.trans (hx3.below HB2.out.size (fun k hk e => by omega)))
    have hbx3 := (hx3.block w.heap.size (lt_of_block HBX.out) (by omega)).trans HBX.out
    have HBX3 := Lib.hid hbx3
    have hwz3 : w.heap.size < w3.heap.size := lt_of_block hbx3
    obtain ⟨g0, g1, g2, g3, g4⟩ := box5 hbx3
    obtain ⟨r0, r1, r2, r3, r4⟩ := c5of hbx3
    clear hx3 hbx3
    cases hpv : pVal (2 * s.data.toList.length + 1) 0 s.data.toList with
    | error cc =>
      rw [hpv] at hg
      obtain ⟨rfl, hc, _⟩ := hg
      have HR := Lib.hid (show pParse s.data.toList most = .error cc by rw [HRR.out]; unfold pAll; rw [hpv])
      have hc' : ((cc : Int) != 0) = true := by simp; omega
      unfold vZ
      clear hpv
      go_wp2
      have hp5 := put5 (.int .i64 0) (.int .i64 0) (.string ⟨#[]⟩) (.slice none 0 0) (.slice none 0 0) HBX3.out
      have ho5 := put5_only (w := w3) (b := w.heap.size) (.int .i64 0) (.int .i64 0) (.string ⟨#[]⟩) (.slice none 0 0) (.slice none 0 0)
      generalize ((((w3.setCell _ _).setCell _ _).setCell _ _).setCell _ _).setCell _ _ = W9 at hp5 ho5 ⊢
      obtain ⟨z0, z1, z2, z3, z4⟩ := c5of hp5
      have hwz9 : w.heap.size < W9.heap.size := lt_of_block hp5
      refine bodyPost_ret (v := .tuple #[vZ, .int .i64 (cc : Int)]) (by simp [results, Try.results26, go_sem, vZ, z0, z1, z2, z3, z4, hwz9]) rfl ?_
      exact Parsed.no HR.out hc ((HB3.out.trans (ho5.below (Nat.le_refl _))).alloc (by omega) _)
    | ok p =>
      obtain ⟨t, l'⟩ := p
      rw [hpv] at hg
      obtain ⟨y, rfl, hy, hp'⟩ := hg
      obtain ⟨yk, yn, ys, ya, yl, yp, yb, ym, yq, rfl⟩ := hy.form
      have HY := Lib.hid hy
      have HPV := Lib.hid hpv
      have HP' := Lib.hid hp'
      have hlt' := hp'.lt
      clear hy hp' hpv
      go_wp2_with fail
      generalize hW4 : w3.alloc _ = W4
      have hb4 : Below w3.heap.size w3 W4 := by subst hW4; exact (Below.refl _ w3).alloc (Nat.le_refl _) _
      have HQ4 := Lib.hid (show W4.heap[w3.heap.size]? = some (.cells #[.int .i64 yk, .int .i64 yn, .string ys, .slice ya yl yp, .slice yb ym yq] 26 (0, 0)) by subst hW4; exact World.alloc_heap_new w3 _)
      have HP4 := Lib.hid (HP'.out.same (hb4.block _ hlt'))
      have HB4 := Lib.hid hb4
      clear hW4 hb4 r0 r1 r2 r3 r4 g0 g1 g2 g3 g4
      have HSM := Lib.hid (show s.size ≤ maxLen by unfold maxLen; have := HS.out; omega)
      refine (atEnd_any (w.heap.size + 1) s l' 0 W4 HSM.out HP4.out).mono ?_
      rintro e w5 ⟨rfl, _, ho5'⟩
      have hq5 := (ho5'.block w3.heap.size (by omega)).trans HQ4.out
      have hbx5 := ((ho5'.block w.heap.size (by omega)).trans (HB4.out.block w.heap.size hwz3)).trans HBX3.out
      have HBX5 := Lib.hid hbx5
      have HB5 := Lib.hid (show Below w.heap.size w w5 from (HB3.out.trans (HB4.out.mono HB3.out.size)).trans (ho5'.below (by omega)))
      have HB35 := Lib.hid (show ∀ k, k < w3.heap.size → k ≠ w.heap.size + 1 → w5.heap[k]? = w3.heap[k]? from fun k h1 h2 => (ho5'.block k h2).trans (HB4.out.block k h1))
      have HSZ := Lib.hid (show w3.heap.size ≤ w5.heap.size by rw [ho5'.size]; exact HB4.out.size)
      obtain ⟨g0, g1, g2, g3, g4⟩ := box5 hbx5
      obtain ⟨r0, r1, r2, r3, r4⟩ := c5of hbx5
      obtain ⟨q0, q1, q2, q3, q4⟩ := c5of hq5
      have HP5 := Lib.hid (show PCur w3 (w.heap.size + 1) s l' 0 from HP'.out)
      clear ho5' hq5 hbx5
      cases hl : pSkip l' with
      | nil =>
        have HR := Lib.hid (show pParse s.data.toList most = .ok t by rw [HRR.out]; unfold pAll; rw [HPV.out]; simp only; rw [hl])
        simp only [List.isEmpty_nil]
        clear hl
        go_wp2
        have hp5 := put5 (.int .i64 yk) (.int .i64 yn) (.string ys) (.slice ya yl yp) (.slice yb ym yq) HBX5.out
        have ho5 := put5_only (w := w5) (b := w.heap.size) (.int .i64 yk) (.int .i64 yn) (.string ys) (.slice ya yl yp) (.slice yb ym yq)
        generalize ((((w5.setCell _ _).setCell _ _).setCell _ _).setCell _ _).setCell _ _ = W9 at hp5 ho5 ⊢
        obtain ⟨z0, z1, z2, z3, z4⟩ := c5of hp5
        refine bodyPost_ret (v := .tuple #[.agg #[.int .i64 yk, .int .i64 yn, .string ys, .slice ya yl yp, .slice yb ym yq], .int .i64 0]) (by simp [results, Try.results26, go_sem, z0, z1, z2, z3, z4]) rfl ?_
        refine Parsed.yes HR.out (HB5.out.trans (ho5.below (Nat.le_refl _))) ?_
        have hzz := HZ2.out
        have hsz := HSZ.out
        exact (HY.out.keep (fun x hx => (ho5.block x (by omega)).trans (HB35.out x hx.2 (by omega)))).at (fun x hx => by rw [ho5.size]; omega)
      | cons c t' =>
        have HR := Lib.hid (show pParse s.data.toList most = .error 2 by rw [HRR.out]; unfold pAll; rw [HPV.out]; simp only; rw [hl])
        simp only [List.isEmpty_cons]
        clear hl
        go_wp2
        have hp5 := put5 (.int .i64 0) (.int .i64 0) (.string ⟨#[]⟩) (.slice none 0 0) (.slice none 0 0) HBX5.out
        have ho5 := put5_only (w := w5) (b := w.heap.size) (.int .i64 0) (.int .i64 0) (.string ⟨#[]⟩) (.slice none 0 0) (.slice none 0 0)
        generalize ((((w5.setCell _ _).setCell _ _).setCell _ _).setCell _ _).setCell _ _ = W9 at hp5 ho5 ⊢
        obtain ⟨z0, z1, z2, z3, z4⟩ := c5of hp5
        refine bodyPost_ret (v := .tuple #[vZ, .int .i64 2]) (by simp [results, Try.results26, go_sem, z0, z1, z2, z3, z4, vZ]) rfl ?_
        exact Parsed.no HR.out (by decide) (HB5.out.trans (ho5.below (Nat.le_refl _)))
end Go.Proofs.Ythcphfpkinfjoaa
