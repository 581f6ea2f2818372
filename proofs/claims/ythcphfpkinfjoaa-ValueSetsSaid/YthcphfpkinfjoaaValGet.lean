/-
  Package value's Get, TextAt, IntAt.
  Conditions: none.
-/
import Derived.Test.YthcphfpkinfjoaaValP
namespace Go.Proofs.Ythcphfpkinfjoaa
open Go.RowKit

theorem setCell_cells {w : World} {b i : Nat} {cs : Array Value} {t : TypeId} {fr : Nat × Nat} (v : Value) (h : w.heap[b]? = some (.cells cs t fr)) : (w.setCell ⟨b, i, none⟩ v).heap[b]? = some (.cells (cs.setIfInBounds i v) t fr) := by
  obtain ⟨hlt, hk⟩ := Array.getElem?_eq_some_iff.1 h
  show (w.heap.modify b _)[b]? = _
  rw [Array.getElem?_eq_getElem (by rw [Array.size_modify]; exact hlt), Array.getElem_modify_self, hk]
  rfl
/-- A value laid into a block of its own. -/
theorem put5 {w : World} {b : Nat} {d0 d1 d2 d3 d4 : Value} {t : TypeId} (c0 c1 c2 c3 c4 : Value) (h : w.heap[b]? = some (.cells #[d0, d1, d2, d3, d4] t (0, 0))) :
    (((((w.setCell ⟨b, 0, none⟩ c0).setCell ⟨b, 1, none⟩ c1).setCell ⟨b, 2, none⟩ c2).setCell ⟨b, 3, none⟩ c3).setCell ⟨b, 4, none⟩ c4).heap[b]? = some (.cells #[c0, c1, c2, c3, c4] t (0, 0)) := by
  have := setCell_cells (i := 4) c4 (setCell_cells (i := 3) c3 (setCell_cells (i := 2) c2 (setCell_cells (i := 1) c1 (setCell_cells (i := 0) c0 h))))
  simpa using this
theorem put5_below {w w1 : World} {B b : Nat} (c0 c1 c2 c3 c4 : Value) (h : Below B w w1) (hb : B ≤ b) :
    Below B w (((((w1.setCell ⟨b, 0, none⟩ c0).setCell ⟨b, 1, none⟩ c1).setCell ⟨b, 2, none⟩ c2).setCell ⟨b, 3, none⟩ c3).setCell ⟨b, 4, none⟩ c4) :=
  ((((h.setCell (p := ⟨b, 0, none⟩) hb _).setCell (p := ⟨b, 1, none⟩) hb _).setCell (p := ⟨b, 2, none⟩) hb _).setCell (p := ⟨b, 3, none⟩) hb _).setCell (p := ⟨b, 4, none⟩) hb _

def posS (m : List (ByteArray × VT)) (key : ByteArray) : Nat := m.findIdx (fun x => !ltS x.1 key)
theorem posS_le (m : List (ByteArray × VT)) (key : ByteArray) : posS m key ≤ m.length := List.findIdx_le_length
theorem posS_lt (m : List (ByteArray × VT)) (key : ByteArray) (j : Nat) (h : j < m.length) (hj : j < posS m key) : ltS m[j].1 key = true := by
  have := List.not_of_lt_findIdx hj
  simpa using this
theorem posS_at (m : List (ByteArray × VT)) (key : ByteArray) (h : posS m key < m.length) : ltS m[posS m key].1 key = false := by
  have := List.findIdx_getElem (xs := m) (p := fun x : ByteArray × VT => !ltS x.1 key) (w := h)
  simp only [Bool.not_eq_true'] at this
  exact this
theorem posS_ge {m : List (ByteArray × VT)} (hA : Asc m) (key : ByteArray) (j : Nat) (h : j < m.length) (hj : posS m key ≤ j) : ltS m[j].1 key = false := by
  have h0 := posS_at m key (by omega)
  by_cases e : posS m key = j
  · subst e; exact h0
  · have h1 := hA (posS m key) j (by omega) h
    rw [← Bool.not_eq_true]
    intro h2
    rw [ltS_trans h1 h2] at h0; cases h0
/-- What lies under a key. -/
def look (m : List (ByteArray × VT)) (key : ByteArray) : Option VT := (m.find? (fun x => decide (x.1 = key))).map (·.2)
theorem look_some {m : List (ByteArray × VT)} (_ : Asc m) (key : ByteArray) (h : posS m key < m.length) (e : m[posS m key].1 = key) : look m key = some m[posS m key].2 := by
  unfold look
  have : m.find? (fun x => decide (x.1 = key)) = some m[posS m key] := by
    rw [List.find?_eq_some_iff_getElem]
    refine ⟨by simp [e], posS m key, h, rfl, fun j hj => ?_⟩
    have h1 := posS_lt m key j (by omega) hj
    simp
    intro e'
    rw [e', ltS_irrefl] at h1; cases h1
  rw [this]; rfl
theorem look_none {m : List (ByteArray × VT)} (hA : Asc m) (key : ByteArray) (h : ¬ ∃ h : posS m key < m.length, m[posS m key].1 = key) : look m key = none := by
  unfold look
  have : m.find? (fun x => decide (x.1 = key)) = none := by
    rw [List.find?_eq_none]
    intro x hx
    obtain ⟨j, hj, rfl⟩ := List.getElem_of_mem hx
    simp
    intro e
    by_cases h1 : j < posS m key
    · have := posS_lt m key j hj h1
      rw [e, ltS_irrefl] at this; cases this
    · by_cases h2 : posS m key = j
      · exact h ⟨by omega, by subst h2; exact e⟩
      · have h3 := hA (posS m key) j (by omega) hj
        have h4 := posS_at m key (by omega)
        rw [e] at h3; rw [h3] at h4; cases h4
  rw [this]; rfl
/-- Null. -/
def VT0 : VT := .mk 0 0 ⟨#[]⟩ [] []
theorem VT0.at (n₀ : Nat) (w : World) : VAt n₀ w VT0 (.agg #[.int .i64 0, .int .i64 0, .string ⟨#[]⟩, .slice none 0 0, .slice none 0 0]) :=
  .mk (cl := fun _ _ => undef) (cm := fun _ _ => undef) rfl rfl (by decide) (.inl ⟨rfl, none, 0, rfl, by decide, fun _ => rfl⟩) (.inl ⟨rfl, none, 0, rfl, by decide, fun _ => rfl⟩) (fun i h => absurd h (Nat.not_lt_zero _)) (fun i h => absurd h (Nat.not_lt_zero _)) (fun i h => absurd h (Nat.not_lt_zero _))

theorem place_any {n₀ : Nat} {w0 : World} (m : List (ByteArray × VT)) (ao : Option Addr) (cap : Nat) (c : Nat → Nat → Value) (hr1 : RowAt n₀ w0 6 (.slice ao m.length cap) m.length c) (hK : ∀ i (h : i < m.length), c i 0 = .string m[i].1)
    (hA : Asc m) (key : ByteArray) (w : World) (hw : Below n₀ w0 w) (hz : n₀ ≤ w.heap.size) (f : Bool) (hf : f = true ↔ ∃ h : posS m key < m.length, m[posS m key].1 = key) :
    Calls Try.prog 40 #[.slice ao m.length cap, .string key] w fun e w' => e = .returned (.tuple #[.int .i64 (posS m key : Int), .bool f]) ∧ Below w.heap.size w w' := by
  have HS := Lib.hid (search_any m ao cap c hr1 hK hA key w hw hz (posS m key) f (posS_le _ _) (posS_lt _ _) (posS_ge hA _) hf)
  clear hr1 hK hw hz hf hA
  go_enter Try.func40, Try.ntmps40
  go_wp2_with fail
  refine HS.out.mono ?_
  rintro e w' ⟨rfl, hb'⟩
  go_wp2
  go_ret2
  exact ⟨rfl, hb'⟩

/-- What Get finds in a value. -/
def getV (t : VT) (key : ByteArray) : Option VT := if t.k = 5 then look t.m key else none

set_option maxRecDepth 100000 in
set_option maxHeartbeats 1000000 in
theorem get_any {n₀ : Nat} {w0 : World} {t : VT} {v : Value} (h : VAt n₀ w0 t v) (hA : t.k = 5 → Asc t.m) (key : ByteArray) (w : World) (hw : Below n₀ w0 w) (hz : n₀ ≤ w.heap.size) :
    Calls Try.prog 15 #[v, .string key] w fun e w' => (∃ x, e = .returned (.tuple #[x, .bool (getV t key).isSome]) ∧ VAt n₀ w0 ((getV t key).getD VT0) x) ∧ Below w.heap.size w w' := by
  cases h with
  | @mk k n s l m sl sm cl cm hk hn hs hl hm hL hK hM =>
    obtain ⟨aol, capl, rfl, -⟩ := hl.form
    obtain ⟨aom, capm, rfl, -⟩ := hm.form
    by_cases h5 : k = 5
    · subst h5
      have hasc : Asc m := hA rfl
      have hgv : getV (.mk 5 n s l m) key = look m key := rfl
      rw [hgv]
      have HM := Lib.hid (fun i h => (hM i h))
      have HRM := Lib.hid hm
      have HFM := Lib.hid (fun i h => (hM i h).form6)
      have HPL := Lib.hid (fun (w : World) hw hz f hf => place_any m aom capm cm hm (fun i h => (hK i h).1) hasc key w hw hz f hf)
      have HW := Lib.hid hw
      have HZ := Lib.hid hz
      have HAS := Lib.hid hasc
      have hll : m.length ≤ 1000000000000000 := by have := hm.len; have := sMax_lt; omega
      have HPLE := Lib.hid (posS_le m key)
      clear hk hn hs hl hm hL hK hM hw hz hA hgv hasc
      by_cases hfound : ∃ h : posS m key < m.length, m[posS m key].1 = key
      · obtain ⟨hp, he⟩ := hfound
        obtain ⟨p, hpp⟩ : ∃ p, posS m key = p := ⟨_, rfl⟩
        have hp' : p < m.length := by subst hpp; exact hp
        have HLK := Lib.hid (show look m key = some m[p].2 by subst hpp; exact look_some HAS.out key hp he)
        have HPL2 := Lib.hid (show ∀ w : World, Below n₀ w0 w → n₀ ≤ w.heap.size → Calls Try.prog 40 #[.slice aom m.length capm, .string key] w fun e w' => e = .returned (.tuple #[.int .i64 (p : Int), .bool true]) ∧ Below w.heap.size w w' by
          subst hpp; exact fun w hw hz => HPL.out w hw hz true (by simp; exact ⟨hp, he⟩))
        clear hpp he hp HPL HPLE HAS
        go_enter Try.func15, Try.ntmps15
        go_wp2_with fail
        have hB2 : Below w.heap.size w ((w.alloc (.cells #[.int .i64 5, .int .i64 n, .string s, .slice aol l.length capl, .slice aom m.length capm] 26)).alloc (.cells #[.int .i64 0, .int .i64 0, .string ⟨#[]⟩, .slice none 0 0, .slice none 0 0] 26)) := ((Below.refl _ w).alloc (Nat.le_refl _) _).alloc (by simp) _
        refine (HPL2.out _ (HW.out.trans (hB2.mono HZ.out)) (by have := HZ.out; simp; omega)).mono ?_
        rintro e w1 ⟨rfl, hb1⟩
        generalize hW2 : (w.alloc _).alloc _ = W2 at hb1 hB2
        have hv1 : W2.heap[w.heap.size]? = some (.cells #[.int .i64 5, .int .i64 n, .string s, .slice aol l.length capl, .slice aom m.length capm] 26 (0, 0)) := by
          subst hW2; rw [Below.heap_alloc _ _ _ (by simp)]; exact World.alloc_heap_new w _
        have hv2 : W2.heap[w.heap.size + 1]? = some (.cells #[.int .i64 0, .int .i64 0, .string ⟨#[]⟩, .slice none 0 0, .slice none 0 0] 26 (0, 0)) := by
          subst hW2; have := World.alloc_heap_new (w.alloc (.cells #[.int .i64 5, .int .i64 n, .string s, .slice aol l.length capl, .slice aom m.length capm] 26)) (.cells #[.int .i64 0, .int .i64 0, .string ⟨#[]⟩, .slice none 0 0, .slice none 0 0] 26); rwa [World.size_alloc] at this
        have hz2 : W2.heap.size = w.heap.size + 2 := by subst hW2; simp
        have hv2' := (hb1.block _ (by omega)).trans hv2
        obtain ⟨-, -, -, -, x4⟩ := c5of ((hb1.block _ (by omega)).trans hv1)
        have HB1 := Lib.hid (hB2.trans (hb1.mono hB2.size))
        have HB0 := Lib.hid (HW.out.trans (HB1.out.mono HZ.out))
        obtain ⟨bb, off, rfl, hbn, c0, c1, c2, c3, c4, c5⟩ := (HRM.out.below HB0.out).at6 hp'
        obtain ⟨kk, nn, ss, a1, l1, p1, a2, l2, p2, e1, e2, e3, e4, e5⟩ := HFM.out p hp'
        simp only [Nat.reduceAdd] at e1 e2 e3 e4 e5
        have HVAL := Lib.hid (show VAt n₀ w0 m[p].2 (.agg #[.int .i64 kk, .int .i64 nn, .string ss, .slice a1 l1 p1, .slice a2 l2 p2]) by rw [← e1, ← e2, ← e3, ← e4, ← e5]; exact HM.out p hp')
        rw [e1] at c1; rw [e2] at c2; rw [e3] at c3; rw [e4] at c4; rw [e5] at c5
        have hbz : bb ≠ w.heap.size + 1 := by have := HZ.out; omega
        clear hW2 hv1 hv2 hb1 hB2 e1 e2 e3 e4 e5
        have hp2 : (p : Int) < (m.length : Int) := by omega
        obtain ⟨r0, r1, r2, r3, r4⟩ := c5of hv2'
        have f0 : w1.frozen? ⟨w.heap.size + 1, 0, none⟩ = false := by simp [World.frozen?, hv2']
        have f1 : w1.frozen? ⟨w.heap.size + 1, 1, none⟩ = false := by simp [World.frozen?, hv2']
        have f2 : w1.frozen? ⟨w.heap.size + 1, 2, none⟩ = false := by simp [World.frozen?, hv2']
        have f3 : w1.frozen? ⟨w.heap.size + 1, 3, none⟩ = false := by simp [World.frozen?, hv2']
        have f4 : w1.frozen? ⟨w.heap.size + 1, 4, none⟩ = false := by simp [World.frozen?, hv2']
        have HV2 := Lib.hid hv2'
        clear hv2'
        go_wp2
        have hp5 := put5 (.int .i64 kk) (.int .i64 nn) (.string ss) (.slice a1 l1 p1) (.slice a2 l2 p2) HV2.out
        have hpb := put5_below (.int .i64 kk) (.int .i64 nn) (.string ss) (.slice a1 l1 p1) (.slice a2 l2 p2) HB1.out (b := w.heap.size + 1) (by omega)
        generalize ((((w1.setCell _ _).setCell _ _).setCell _ _).setCell _ _).setCell _ _ = W9 at hp5 hpb ⊢
        obtain ⟨z0, z1, z2, z3, z4⟩ := c5of hp5
        refine bodyPost_ret (v := .tuple #[.agg #[.int .i64 kk, .int .i64 nn, .string ss, .slice a1 l1 p1, .slice a2 l2 p2], .bool true]) (by simp [results, Try.results15, go_sem, z0, z1, z2, z3, z4]) rfl ?_
        exact ⟨⟨_, by rw [HLK.out]; rfl, by rw [HLK.out]; exact HVAL.out⟩, hpb⟩
      · obtain ⟨p, hpp⟩ : ∃ p, posS m key = p := ⟨_, rfl⟩
        have HLK := Lib.hid (look_none HAS.out key hfound)
        have HPL2 := Lib.hid (show ∀ w : World, Below n₀ w0 w → n₀ ≤ w.heap.size → Calls Try.prog 40 #[.slice aom m.length capm, .string key] w fun e w' => e = .returned (.tuple #[.int .i64 (p : Int), .bool false]) ∧ Below w.heap.size w w' by
          subst hpp; exact fun w hw hz => HPL.out w hw hz false (by simp; intro h; exact fun e => hfound ⟨h, e⟩))
        clear hpp hfound HPL HPLE HAS
        go_enter Try.func15, Try.ntmps15
        go_wp2_with fail
        have hB2 : Below w.heap.size w ((w.alloc (.cells #[.int .i64 5, .int .i64 n, .string s, .slice aol l.length capl, .slice aom m.length capm] 26)).alloc (.cells #[.int .i64 0, .int .i64 0, .string ⟨#[]⟩, .slice none 0 0, .slice none 0 0] 26)) := ((Below.refl _ w).alloc (Nat.le_refl _) _).alloc (by simp) _
        refine (HPL2.out _ (HW.out.trans (hB2.mono HZ.out)) (by have := HZ.out; simp; omega)).mono ?_
        rintro e w1 ⟨rfl, hb1⟩
        generalize hW2 : (w.alloc _).alloc _ = W2 at hb1 hB2
        have hv1 : W2.heap[w.heap.size]? = some (.cells #[.int .i64 5, .int .i64 n, .string s, .slice aol l.length capl, .slice aom m.length capm] 26 (0, 0)) := by
          subst hW2; rw [Below.heap_alloc _ _ _ (by simp)]; exact World.alloc_heap_new w _
        have hv2 : W2.heap[w.heap.size + 1]? = some (.cells #[.int .i64 0, .int .i64 0, .string ⟨#[]⟩, .slice none 0 0, .slice none 0 0] 26 (0, 0)) := by
          subst hW2; have := World.alloc_heap_new (w.alloc (.cells #[.int .i64 5, .int .i64 n, .string s, .slice aol l.length capl, .slice aom m.length capm] 26)) (.cells #[.int .i64 0, .int .i64 0, .string ⟨#[]⟩, .slice none 0 0, .slice none 0 0] 26); rwa [World.size_alloc] at this
        have hz2 : W2.heap.size = w.heap.size + 2 := by subst hW2; simp
        have hv2' := (hb1.block _ (by omega)).trans hv2
        obtain ⟨-, -, -, -, x4⟩ := c5of ((hb1.block _ (by omega)).trans hv1)
        have HB1 := Lib.hid (hB2.trans (hb1.mono hB2.size))
        clear hW2 hv1 hv2 hb1 hB2
        obtain ⟨r0, r1, r2, r3, r4⟩ := c5of hv2'
        have f0 : w1.frozen? ⟨w.heap.size + 1, 0, none⟩ = false := by simp [World.frozen?, hv2']
        have f1 : w1.frozen? ⟨w.heap.size + 1, 1, none⟩ = false := by simp [World.frozen?, hv2']
        have f2 : w1.frozen? ⟨w.heap.size + 1, 2, none⟩ = false := by simp [World.frozen?, hv2']
        have f3 : w1.frozen? ⟨w.heap.size + 1, 3, none⟩ = false := by simp [World.frozen?, hv2']
        have f4 : w1.frozen? ⟨w.heap.size + 1, 4, none⟩ = false := by simp [World.frozen?, hv2']
        have HV2 := Lib.hid hv2'
        clear hv2'
        go_wp2
        have hp5 := put5 (.int .i64 0) (.int .i64 0) (.string ⟨#[]⟩) (.slice none 0 0) (.slice none 0 0) HV2.out
        have hpb := put5_below (.int .i64 0) (.int .i64 0) (.string ⟨#[]⟩) (.slice none 0 0) (.slice none 0 0) HB1.out (b := w.heap.size + 1) (by omega)
        generalize ((((w1.setCell _ _).setCell _ _).setCell _ _).setCell _ _).setCell _ _ = W9 at hp5 hpb ⊢
        obtain ⟨z0, z1, z2, z3, z4⟩ := c5of hp5
        refine bodyPost_ret (v := .tuple #[.agg #[.int .i64 0, .int .i64 0, .string ⟨#[]⟩, .slice none 0 0, .slice none 0 0], .bool false]) (by simp [results, Try.results15, go_sem, z0, z1, z2, z3, z4]) rfl ?_
        exact ⟨⟨_, by rw [HLK.out]; rfl, by rw [HLK.out]; exact VT0.at _ _⟩, hpb⟩
    · have hne : (k != 5) = true := by simpa using h5
      have HLK := Lib.hid (show getV (.mk k n s l m) key = none by unfold getV; simp [VT.k, h5])
      have HW := Lib.hid hw
      have HZ := Lib.hid hz
      clear hk hn hs hl hm hL hK hM hw hz hA
      go_enter Try.func15, Try.ntmps15
      go_wp2
      refine bodyPost_ret (v := .tuple #[.agg #[.int .i64 0, .int .i64 0, .string ⟨#[]⟩, .slice none 0 0, .slice none 0 0], .bool false]) (by simp [results, Try.results15, go_sem]) rfl ?_
      exact ⟨⟨_, by rw [HLK.out]; rfl, by rw [HLK.out]; exact VT0.at _ _⟩, by first | exact ((Below.refl _ w).alloc (Nat.le_refl _) _).alloc (by simp) _ | exact put5_below _ _ _ _ _ (((Below.refl _ w).alloc (Nat.le_refl _) _).alloc (by simp) _) (by simp)⟩
end Go.Proofs.Ythcphfpkinfjoaa
