/-
  The document's own answers Get, TextAt, IntAt.
  Conditions: none.
-/
import Derived.Test.YthncckdagmjjnaaValAt
namespace Go.Proofs.Ythncckdagmjjnaa
open Go.RowKit

theorem look_first {m : List (ByteArray × VT)} {key : ByteArray} {j : Nat} (hj : j < m.length) (he : m[j].1 = key) (h : ∀ i (h : i < m.length), i < j → m[i].1 ≠ key) : look m key = some m[j].2 := by
  unfold look
  have : m.find? (fun x => decide (x.1 = key)) = some m[j] := by
    rw [List.find?_eq_some_iff_getElem]
    exact ⟨by simp [he], j, hj, rfl, fun i hi => by simp; exact h i (by omega) hi⟩
  rw [this]; rfl
theorem look_no {m : List (ByteArray × VT)} {key : ByteArray} (h : ∀ i (h : i < m.length), m[i].1 ≠ key) : look m key = none := by
  unfold look
  have : m.find? (fun x => decide (x.1 = key)) = none := by
    rw [List.find?_eq_none]
    intro x hx
    obtain ⟨j, hj, rfl⟩ := List.getElem_of_mem hx
    simp; exact h j hj
  rw [this]; rfl

set_option maxRecDepth 100000 in
set_option maxHeartbeats 1000000 in
theorem rget_any {n₀ : Nat} {w0 : World} {t : VT} {v : Value} (h : VAt n₀ w0 t v) (key : ByteArray) (w : World) (hw : Below n₀ w0 w) (hz : n₀ ≤ w.heap.size) :
    Calls Try.prog 34 #[v, .string key] w fun e w' => (∃ x, e = .returned (.tuple #[x, .bool (getV t key).isSome]) ∧ VAt n₀ w0 ((getV t key).getD VT0) x) ∧ Below w.heap.size w w' := by
  cases h with
  | @mk k n s l m sl sm cl cm hk hn hs hl hm hL hK hM =>
    obtain ⟨aol, capl, rfl, -⟩ := hl.form
    obtain ⟨aom, capm, rfl, -⟩ := hm.form
    have HW := Lib.hid hw
    have HZ := Lib.hid hz
    by_cases h5 : k = 5
    · subst h5
      have hgv : getV (.mk 5 n s l m) key = look m key := rfl
      rw [hgv]
      have HM := Lib.hid (fun i h => (hM i h))
      have HRM := Lib.hid hm
      have HFM := Lib.hid (fun i h => (hM i h).form6)
      have HK := Lib.hid (fun i h => (hK i h).1)
      have hll : m.length ≤ 1000000000000000 := by have := hm.len; have := sMax_lt; omega
      clear hk hn hs hl hm hL hK hM hw hz hgv
      go_enter Try.func34, Try.ntmps34
      go_wp2_with fail
      generalize hW2 : (w.alloc _).alloc _ = W2
      have hv1 : W2.heap[w.heap.size]? = some (.cells #[.int .i64 5, .int .i64 n, .string s, .slice aol l.length capl, .slice aom m.length capm] 26 (0, 0)) := by
        subst hW2; rw [Below.heap_alloc _ _ _ (by simp)]; exact World.alloc_heap_new w _
      have hv2 : W2.heap[w.heap.size + 1]? = some (.cells #[.int .i64 0, .int .i64 0, .string ⟨#[]⟩, .slice none 0 0, .slice none 0 0] 26 (0, 0)) := by
        subst hW2; have := World.alloc_heap_new (w.alloc (.cells #[.int .i64 5, .int .i64 n, .string s, .slice aol l.length capl, .slice aom m.length capm] 26)) (.cells #[.int .i64 0, .int .i64 0, .string ⟨#[]⟩, .slice none 0 0, .slice none 0 0] 26); rwa [World.size_alloc] at this
      have hB2 : Below w.heap.size w W2 := by subst hW2; exact ((Below.refl _ w).alloc (Nat.le_refl _) _).alloc (by simp) _
      obtain ⟨-, -, -, -, x4⟩ := c5of hv1
      obtain ⟨r0, r1, r2, r3, r4⟩ := c5of hv2
      have f0 : W2.frozen? ⟨w.heap.size + 1, 0, none⟩ = false := by simp [World.frozen?, hv2]
      have f1 : W2.frozen? ⟨w.heap.size + 1, 1, none⟩ = false := by simp [World.frozen?, hv2]
      have f2 : W2.frozen? ⟨w.heap.size + 1, 2, none⟩ = false := by simp [World.frozen?, hv2]
      have f3 : W2.frozen? ⟨w.heap.size + 1, 3, none⟩ = false := by simp [World.frozen?, hv2]
      have f4 : W2.frozen? ⟨w.heap.size + 1, 4, none⟩ = false := by simp [World.frozen?, hv2]
      have HV2 := Lib.hid hv2
      have HB2 := Lib.hid hB2
      have HB0 := Lib.hid (HW.out.trans (hB2.mono HZ.out))
      clear hW2 hv1 hv2 hB2
      go_loopw [6] (fun iv wr => ∃ j : Nat, j ≤ m.length ∧ iv = .int .i64 j ∧ wr = W2 ∧ (∀ i (h : i < m.length), i < j → m[i].1 ≠ key)) (fun i _ => m.length - (intOf i).toNat)
      case atStart => exact ⟨0, by omega, rfl, rfl, fun _ _ h => absurd h (Nat.not_lt_zero _)⟩
      case round =>
        obtain ⟨j, hj, rfl, rfl, hal⟩ := hrel
        have HAL := Lib.hid hal
        clear hal
        by_cases hj1 : j < m.length
        · obtain ⟨bb, off, rfl, hbn, c0, c1, c2, c3, c4, c5⟩ := (HRM.out.below HB0.out).at6 hj1
          obtain ⟨kk, nn, ss, a1, l1, p1, a2, l2, p2, e1, e2, e3, e4, e5⟩ := HFM.out j hj1
          simp only [Nat.reduceAdd] at e1 e2 e3 e4 e5
          have HVAL := Lib.hid (show VAt n₀ w0 m[j].2 (.agg #[.int .i64 kk, .int .i64 nn, .string ss, .slice a1 l1 p1, .slice a2 l2 p2]) by rw [← e1, ← e2, ← e3, ← e4, ← e5]; exact HM.out j hj1)
          rw [HK.out j hj1] at c0
          rw [e1] at c1; rw [e2] at c2; rw [e3] at c3; rw [e4] at c4; rw [e5] at c5
          clear e1 e2 e3 e4 e5
          have hbz : bb ≠ w.heap.size + 1 := by have := HZ.out; omega
          generalize hky : m[j].1 = mk at c0
          have HKY := Lib.hid hky
          clear hky
          by_cases hk : mk.toList = key.toList
          · have hkb : (mk.toList == key.toList) = true := by simpa using hk
            have HLK := Lib.hid (look_first hj1 (by rw [HKY.out]; exact (show ∀ {x y : ByteArray}, x.toList = y.toList → x = y from fun h => by rw [ByteArray.toList_eq, ByteArray.toList_eq] at h; exact Go.WideShapes.bytes_inj h) hk) HAL.out)
            go_wp2
            have hp5 := put5 (.int .i64 kk) (.int .i64 nn) (.string ss) (.slice a1 l1 p1) (.slice a2 l2 p2) HV2.out
            have hpb := put5_below (.int .i64 kk) (.int .i64 nn) (.string ss) (.slice a1 l1 p1) (.slice a2 l2 p2) HB2.out (b := w.heap.size + 1) (by omega)
            generalize ((((wr.setCell _ _).setCell _ _).setCell _ _).setCell _ _).setCell _ _ = W9 at hp5 hpb ⊢
            obtain ⟨z0, z1, z2, z3, z4⟩ := c5of hp5
            refine bodyPost_ret (v := .tuple #[.agg #[.int .i64 kk, .int .i64 nn, .string ss, .slice a1 l1 p1, .slice a2 l2 p2], .bool true]) (by simp [results, Try.results34, go_sem, z0, z1, z2, z3, z4]) rfl ?_
            exact ⟨⟨_, by rw [HLK.out]; rfl, by rw [HLK.out]; exact HVAL.out⟩, hpb⟩
          · have hkb : (mk.toList == key.toList) = false := by simpa using hk
            have HKN := Lib.hid hk
            clear hk
            go_wp2
            go_roundw
            case measure => simp [intOf]; omega
            case rel =>
              refine ⟨j + 1, by omega, by go_num, by first | rfl | trivial, fun i hi hij => ?_⟩
              by_cases hlt : i < j
              · exact HAL.out i hi hlt
              · obtain rfl : i = j := by omega
                rw [HKY.out]; intro e; exact HKN.out (by rw [e])
        · have HLK := Lib.hid (look_no (m := m) (key := key) (fun i hi => HAL.out i hi (by omega)))
          go_wp2
          have hp5 := put5 (.int .i64 0) (.int .i64 0) (.string ⟨#[]⟩) (.slice none 0 0) (.slice none 0 0) HV2.out
          have hpb := put5_below (.int .i64 0) (.int .i64 0) (.string ⟨#[]⟩) (.slice none 0 0) (.slice none 0 0) HB2.out (b := w.heap.size + 1) (by omega)
          generalize ((((wr.setCell _ _).setCell _ _).setCell _ _).setCell _ _).setCell _ _ = W9 at hp5 hpb ⊢
          obtain ⟨z0, z1, z2, z3, z4⟩ := c5of hp5
          refine bodyPost_ret (v := .tuple #[.agg #[.int .i64 0, .int .i64 0, .string ⟨#[]⟩, .slice none 0 0, .slice none 0 0], .bool false]) (by simp [results, Try.results34, go_sem, z0, z1, z2, z3, z4]) rfl ?_
          exact ⟨⟨_, by rw [HLK.out]; rfl, by rw [HLK.out]; exact VT0.at _ _⟩, hpb⟩
    · have hne : (k != 5) = true := by simpa using h5
      have HLK := Lib.hid (show getV (.mk k n s l m) key = none by unfold getV; simp [VT.k, h5])
      clear hk hn hs hl hm hL hK hM hw hz
      go_enter Try.func34, Try.ntmps34
      go_wp2
      refine bodyPost_ret (v := .tuple #[.agg #[.int .i64 0, .int .i64 0, .string ⟨#[]⟩, .slice none 0 0, .slice none 0 0], .bool false]) (by simp [results, Try.results34, go_sem]) rfl ?_
      exact ⟨⟨_, by rw [HLK.out]; rfl, by rw [HLK.out]; exact VT0.at _ _⟩, by first | exact ((Below.refl _ w).alloc (Nat.le_refl _) _).alloc (by simp) _ | exact put5_below _ _ _ _ _ (((Below.refl _ w).alloc (Nat.le_refl _) _).alloc (by simp) _) (by simp)⟩

set_option maxRecDepth 100000 in
set_option maxHeartbeats 1000000 in
theorem rintAt_any {n₀ : Nat} {w0 : World} {t : VT} {v : Value} (h : VAt n₀ w0 t v) (key : ByteArray) (w : World) (hw : Below n₀ w0 w) (hz : n₀ ≤ w.heap.size) :
    Calls Try.prog 36 #[v, .string key] w fun e w' => e = .returned (.tuple #[.int .i64 (intAtV t key).1, .bool (intAtV t key).2]) ∧ Below w.heap.size w w' := by
  have HG := Lib.hid (fun w hw hz => rget_any h key w hw hz)
  obtain ⟨c0, c1, c2, c3, c4, rfl⟩ : ∃ c0 c1 c2 c3 c4, v = .agg #[c0, c1, c2, c3, c4] := by cases h; exact ⟨_, _, _, _, _, rfl⟩
  have HW := Lib.hid hw
  have HZ := Lib.hid hz
  clear h hw hz
  go_enter Try.func36, Try.ntmps36
  go_wp2_with fail
  refine (HG.out _ (HW.out.trans (((Below.refl _ w).alloc (Nat.le_refl _) _).mono HZ.out)) (by have := HZ.out; simp; omega)).mono ?_
  rintro e w1 ⟨⟨x, rfl, hx⟩, hb1⟩
  have HB1 := Lib.hid (show Below w.heap.size w w1 from ((Below.refl _ w).alloc (Nat.le_refl _) _).trans (hb1.mono (by simp)))
  have HGV := Lib.hid (show intAtV t key = match getV t key with | some u => if u.k = 2 then (u.n, true) else (0, false) | none => (0, false) from rfl)
  generalize hgv : getV t key = g at hx HGV
  clear hb1 hgv
  obtain ⟨k, n, s, a1, l1, p1, a2, l2, p2, rfl, hkk⟩ : ∃ k n s a1 l1 p1 a2 l2 p2, x = .agg #[.int .i64 k, .int .i64 n, .string s, .slice a1 l1 p1, .slice a2 l2 p2] ∧ (g.getD VT0).k = k ∧ (g.getD VT0).n = n ∧ (g.getD VT0).s = s := by
    generalize g.getD VT0 = u at hx
    cases hx with
    | mk hk hn hs hl hm hL hK hM =>
      obtain ⟨a1, p1, rfl, -⟩ := hl.form
      obtain ⟨a2, p2, rfl, -⟩ := hm.form
      exact ⟨_, _, _, _, _, _, _, _, _, rfl, rfl, rfl, rfl⟩
  cases g with
  | none =>
    have HKK := Lib.hid hkk
    clear hx hkk
    go_wp2
    go_ret2
    exact ⟨by rw [HGV.out]; rfl, HB1.out.alloc HB1.out.size _⟩
  | some u =>
    have HKK := Lib.hid hkk
    clear hx
    by_cases h2 : k = 2
    · have h2' : (k != 2) = false := by simpa using h2
      have HRES := Lib.hid (show intAtV t key = (n, true) by rw [HGV.out]; simp only [Option.getD_some] at hkk; simp only [hkk.1, h2, if_true]; rw [← hkk.2.1])
      clear hkk h2
      go_wp2
      go_ret2
      exact ⟨by rw [HRES.out]; rfl, HB1.out.alloc HB1.out.size _⟩
    · have h2' : (k != 2) = true := by simpa using h2
      have HRES := Lib.hid (show intAtV t key = (0, false) by rw [HGV.out]; simp only [Option.getD_some] at hkk; simp only [hkk.1, h2, if_false])
      clear hkk h2
      go_wp2
      go_ret2
      exact ⟨by rw [HRES.out]; rfl, HB1.out.alloc HB1.out.size _⟩

set_option maxRecDepth 100000 in
set_option maxHeartbeats 1000000 in
theorem rtextAt_any {n₀ : Nat} {w0 : World} {t : VT} {v : Value} (h : VAt n₀ w0 t v) (key : ByteArray) (w : World) (hw : Below n₀ w0 w) (hz : n₀ ≤ w.heap.size) :
    Calls Try.prog 35 #[v, .string key] w fun e w' => e = .returned (.tuple #[.string (textAtV t key).1, .bool (textAtV t key).2]) ∧ Below w.heap.size w w' := by
  have HG := Lib.hid (fun w hw hz => rget_any h key w hw hz)
  obtain ⟨c0, c1, c2, c3, c4, rfl⟩ : ∃ c0 c1 c2 c3 c4, v = .agg #[c0, c1, c2, c3, c4] := by cases h; exact ⟨_, _, _, _, _, rfl⟩
  have HW := Lib.hid hw
  have HZ := Lib.hid hz
  clear h hw hz
  go_enter Try.func35, Try.ntmps35
  go_wp2_with fail
  refine (HG.out _ (HW.out.trans (((Below.refl _ w).alloc (Nat.le_refl _) _).mono HZ.out)) (by have := HZ.out; simp; omega)).mono ?_
  rintro e w1 ⟨⟨x, rfl, hx⟩, hb1⟩
  have HB1 := Lib.hid (show Below w.heap.size w w1 from ((Below.refl _ w).alloc (Nat.le_refl _) _).trans (hb1.mono (by simp)))
  have HGV := Lib.hid (show textAtV t key = match getV t key with | some u => if u.k = 3 then (u.s, true) else (⟨#[]⟩, false) | none => (⟨#[]⟩, false) from rfl)
  generalize hgv : getV t key = g at hx HGV
  clear hb1 hgv
  obtain ⟨k, n, s, a1, l1, p1, a2, l2, p2, rfl, hkk⟩ : ∃ k n s a1 l1 p1 a2 l2 p2, x = .agg #[.int .i64 k, .int .i64 n, .string s, .slice a1 l1 p1, .slice a2 l2 p2] ∧ (g.getD VT0).k = k ∧ (g.getD VT0).n = n ∧ (g.getD VT0).s = s := by
    generalize g.getD VT0 = u at hx
    cases hx with
    | mk hk hn hs hl hm hL hK hM =>
      obtain ⟨a1, p1, rfl, -⟩ := hl.form
      obtain ⟨a2, p2, rfl, -⟩ := hm.form
      exact ⟨_, _, _, _, _, _, _, _, _, rfl, rfl, rfl, rfl⟩
  cases g with
  | none =>
    have HKK := Lib.hid hkk
    clear hx hkk
    go_wp2
    go_ret2
    exact ⟨by rw [HGV.out]; rfl, HB1.out.alloc HB1.out.size _⟩
  | some u =>
    have HKK := Lib.hid hkk
    clear hx
    by_cases h2 : k = 3
    · have h2' : (k != 3) = false := by simpa using h2
      have HRES := Lib.hid (show textAtV t key = (s, true) by rw [HGV.out]; simp only [Option.getD_some] at hkk; simp only [hkk.1, h2, if_true]; rw [← hkk.2.2])
      clear hkk h2
      go_wp2
      go_ret2
      exact ⟨by rw [HRES.out]; rfl, HB1.out.alloc HB1.out.size _⟩
    · have h2' : (k != 3) = true := by simpa using h2
      have HRES := Lib.hid (show textAtV t key = (⟨#[]⟩, false) by rw [HGV.out]; simp only [Option.getD_some] at hkk; simp only [hkk.1, h2, if_false])
      clear hkk h2
      go_wp2
      go_ret2
      exact ⟨by rw [HRES.out]; rfl, HB1.out.alloc HB1.out.size _⟩

end Go.Proofs.Ythncckdagmjjnaa
