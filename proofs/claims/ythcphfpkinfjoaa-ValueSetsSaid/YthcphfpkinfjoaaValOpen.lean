/-
  Values and members that come in, opened to what their cells hold.
  Conditions: none.
-/
import Derived.Test.YthcphfpkinfjoaaValA
import Derived.SizedLaws
namespace Go.Proofs.Ythcphfpkinfjoaa
open Go.ChangeShapes Go.WideShapes Go.Deep Go.RowKit

section
variable {H : Type} {enc : TypeId × Value → H} {w : World}

theorem addr_at {b off i : Nat} : (⟨b, off, none⟩ : Addr).add i = ⟨b, off + i, none⟩ := by
  unfold Addr.add; split
  · next h => subst h; rfl
  · rfl
/-- A slice that came in: its cells, and the reading of each element. -/
theorem open_row {t e k : Nat} {fuel : Nat} {c : Value} {y : DataW H × List MemPlace} (ht : Try.prog.underlying t = some (.slice e)) (hk : Try.prog.cellsOf e = k) (hk0 : 0 < k) (hby : 1 ≤ Try.prog.bytesOf e)
    (h : DataW.trod enc Try.prog w 0 (fun _ => true) true fuel t [c] = some y) (hw : ∀ n ∈ y.1.weights Try.prog t, n ≤ reachBytes) :
    ∃ (len n : Nat) (cf : Nat → List Value) (D : Nat → DataW H) (Pl : Nat → List MemPlace), RowAt w.heap.size w k c len (fun i j => (cf i).getD j undef) ∧ ∀ i, i < len → (cf i).length = k ∧ DataW.trod enc Try.prog w 0 (fun _ => true) true n e (cf i) = some (D i, Pl i) ∧ SizeOf.sizeOf (D i) < SizeOf.sizeOf y.1 ∧ ∀ n ∈ (D i).weights Try.prog e, n ≤ reachBytes := by
  rcases open_slice ht h with ⟨hc, rfl⟩ | ⟨a, len, cap, m, n, D, Pl, hc, _, hl, hm, hmm, rfl, hi⟩
  · cases hc
    exact ⟨0, 0, fun _ => [], fun _ => .nil, fun _ => [], .inl ⟨rfl, none, 0, rfl, by decide, fun _ => rfl⟩, fun i hi => absurd hi (Nat.not_lt_zero _)⟩
  · cases hc
    obtain rfl : cap = m := by simpa using hmm.symm
    have hi' : ∀ i, i < cap → ∃ cs', w.cells? 0 (a.add (i * k)) k = some cs' ∧ DataW.trod enc Try.prog w 0 (fun _ => true) true n e cs' = some (D i, Pl i) := by
      intro i hil
      have := hi i hil
      rw [hk] at this
      exact this
    have hwt : (len + (cap - len)) * Try.prog.bytesOf e ≤ reachBytes := by
      apply hw
      simp [DataW.weights, ht]
    have hcap : cap ≤ reachBytes := by
      have e1 : len + (cap - len) = cap := by omega
      rw [e1] at hwt
      exact Nat.le_trans (Nat.le_mul_of_pos_right cap hby) hwt
    have hcs : cap ≤ sMax := Nat.le_trans hcap (Nat.le_of_lt reachBytes_lt)
    obtain ⟨cf, hcf⟩ := choose_lt (n := cap) (p := fun i cs' => w.cells? 0 (a.add (i * k)) k = some cs' ∧ DataW.trod enc Try.prog w 0 (fun _ => true) true n e cs' = some (D i, Pl i)) hi'
    refine ⟨len, n, cf, D, Pl, ?_, fun i hil => ?_⟩
    · rcases Nat.eq_zero_or_pos len with h0 | h0
      · subst h0; exact .inl ⟨rfl, some a, cap, rfl, hm, by simp⟩
      · right
        obtain ⟨h1, _⟩ := hcf 0 (by omega)
        obtain ⟨_, hlen0, hc0⟩ := World.cells?_some h1
        have hcell0 := hc0 0 hk0
        rw [List.getElem?_eq_getElem (by omega)] at hcell0
        simp [Addr.add] at hcell0
        have hspot := World.cell?_spot hcell0
        have hblk := World.block_lt_of_cell? w _ hcell0
        obtain ⟨b, off, sp⟩ := a
        simp at hspot
        subst hspot
        refine ⟨b, off, cap, h0, hl, ⟨by omega, hm⟩, rfl, hblk, fun i j hil hj => ?_⟩
        obtain ⟨h1, _⟩ := hcf i (by omega)
        obtain ⟨_, hleni, hci⟩ := World.cells?_some h1
        have := hci j hj
        rw [addr_at, addr_at, List.getElem?_eq_getElem (by omega)] at this
        rw [this]
        simp [List.getD, List.getElem?_eq_getElem (show j < (cf i).length by omega)]
    · obtain ⟨h1, h2⟩ := hcf i (by omega)
      obtain ⟨_, hleni, _⟩ := World.cells?_some h1
      have hmem : D i ∈ (List.range len).map D := List.mem_map.2 ⟨i, by simpa using hil, rfl⟩
      refine ⟨hleni, h2, ?_, fun q hq => ?_⟩
      · have := List.sizeOf_lt_of_mem hmem
        simp only [DataW.slice.sizeOf_spec]
        omega
      · apply hw
        simp only [DataW.weights, ht, List.mem_cons, List.mem_append]
        right; left
        have key : ∀ (l : List (DataW H)), D i ∈ l → q ∈ DataW.weightsAll Try.prog e l := by
          intro l hl
          induction l with
          | nil => cases hl
          | cons d r ih =>
            simp only [DataW.weightsAll, List.mem_append]
            rcases List.mem_cons.1 hl with rfl | hl
            · exact .inl hq
            · exact .inr (ih hl)
        exact key _ hmem

theorem cells26 : Try.prog.cellsOf 26 = 5 := by kernel_rfl
theorem cells28 : Try.prog.cellsOf 28 = 6 := by kernel_rfl
theorem cells3 : Try.prog.cellsOf 3 = 1 := by kernel_rfl
theorem cells2 : Try.prog.cellsOf 2 = 1 := by kernel_rfl
theorem cells9 : Try.prog.cellsOf 9 = 1 := by kernel_rfl
theorem cells23 : Try.prog.cellsOf 23 = 1 := by kernel_rfl
theorem cells24 : Try.prog.cellsOf 24 = 1 := by kernel_rfl
theorem bytes26 : 1 ≤ Try.prog.bytesOf 26 := by decide +kernel
theorem bytes28 : 1 ≤ Try.prog.bytesOf 28 := by decide +kernel

theorem w26 (parts : List (DataW H)) : (DataW.agg parts).weights Try.prog 26 = DataW.weightsEach Try.prog [3, 2, 9, 23, 24] parts := by
  simp only [DataW.weights, Try.underlying26]; rfl
theorem w28 (parts : List (DataW H)) : (DataW.agg parts).weights Try.prog 28 = DataW.weightsEach Try.prog [9, 26] parts := by
  simp only [DataW.weights, Try.underlying28]; rfl
theorem five {l : List Value} (h : l.length = 5) : ∃ a b c d e, l = [a, b, c, d, e] := by
  match l, h with
  | [a, b, c, d, e], _ => exact ⟨a, b, c, d, e, rfl⟩
theorem six {l : List Value} (h : l.length = 6) : ∃ a b c d e f, l = [a, b, c, d, e, f] := by
  match l, h with
  | [a, b, c, d, e, f], _ => exact ⟨a, b, c, d, e, f, rfl⟩
theorem fiveY {l : List (DataW H × List MemPlace)} (h : l.length = 5) : ∃ a b c d e, l = [a, b, c, d, e] := by
  match l, h with
  | [a, b, c, d, e], _ => exact ⟨a, b, c, d, e, rfl⟩
theorem twoY {l : List (DataW H × List MemPlace)} (h : l.length = 2) : ∃ a b, l = [a, b] := by
  match l, h with
  | [a, b], _ => exact ⟨a, b, rfl⟩

theorem open_val : ∀ (N fuel : Nat) (cs : List Value) (x : DataW H × List MemPlace), SizeOf.sizeOf x.1 < N → DataW.trod enc Try.prog w 0 (fun _ => true) true fuel 26 cs = some x → (∀ n ∈ x.1.weights Try.prog 26, n ≤ reachBytes) →
    ∃ (t : VT) (c0 c1 c2 c3 c4 : Value), cs = [c0, c1, c2, c3, c4] ∧ VAt w.heap.size w t (.agg #[c0, c1, c2, c3, c4])
  | 0, _, _, _, h, _, _ => absurd h (Nat.not_lt_zero _)
  | N + 1, fuel, cs, x, hN, h, hw => by
    obtain ⟨xs, n, -, rfl, hlen, hxl, hf⟩ := DataW.trod_struct Try.underlying26 h
    rw [cells26] at hlen
    obtain ⟨c0, c1, c2, c3, c4, rfl⟩ := five hlen
    obtain ⟨y0, y1, y2, y3, y4, rfl⟩ := fiveY (by simpa using hxl)
    have f0 : DataW.trod enc Try.prog w 0 (fun _ => true) true n 3 [c0] = some y0 := by have := hf 0 { name := "Kind", type := 3, offset := 0, embedded := false, tag := "", pkgPath := "", byteOffset := 0 } rfl; dsimp only at this; rw [cells3] at this; exact this
    have f1 : DataW.trod enc Try.prog w 0 (fun _ => true) true n 2 [c1] = some y1 := by have := hf 1 { name := "N", type := 2, offset := 1, embedded := false, tag := "", pkgPath := "", byteOffset := 8 } rfl; dsimp only at this; rw [cells2] at this; exact this
    have f2 : DataW.trod enc Try.prog w 0 (fun _ => true) true n 9 [c2] = some y2 := by have := hf 2 { name := "S", type := 9, offset := 2, embedded := false, tag := "", pkgPath := "", byteOffset := 16 } rfl; dsimp only at this; rw [cells9] at this; exact this
    have f3 : DataW.trod enc Try.prog w 0 (fun _ => true) true n 23 [c3] = some y3 := by have := hf 3 { name := "L", type := 23, offset := 3, embedded := false, tag := "", pkgPath := "", byteOffset := 32 } rfl; dsimp only at this; rw [cells23] at this; exact this
    have f4 : DataW.trod enc Try.prog w 0 (fun _ => true) true n 24 [c4] = some y4 := by have := hf 4 { name := "M", type := 24, offset := 4, embedded := false, tag := "", pkgPath := "", byteOffset := 56 } rfl; dsimp only at this; rw [cells24] at this; exact this
    obtain ⟨k, e0, rfl, wk⟩ := DataW.trod_int Try.underlying3 f0
    obtain ⟨m, e1, rfl, wm⟩ := DataW.trod_int Try.underlying2 f1
    obtain ⟨s, e2, rfl, ws⟩ := DataW.trod_string Try.underlying9 f2
    cases e0
    cases e1
    cases e2
    simp only [List.map_cons, List.map_nil] at hN hw
    have hws : s.size ≤ sMax := by
      have : s.data.toList.length ≤ reachBytes := hw _ (by rw [w26]; simp only [DataW.weightsEach, DataW.weights]; simp)
      have h2 : s.size = s.data.toList.length := by rw [Array.length_toList]; rfl
      exact Nat.le_trans (by rw [h2]; exact this) (Nat.le_of_lt reachBytes_lt)
    obtain ⟨ll, nl, cfl, Dl, Pl, hrl, hel⟩ := open_row Try.underlying23 cells26 (by decide) bytes26 f3 (fun q hq => hw q (by rw [w26]; simp only [DataW.weightsEach, List.mem_append]; simp [hq]))
    obtain ⟨lm, nm, cfm, Dm, Pm, hrm, hem⟩ := open_row Try.underlying24 cells28 (by decide) bytes28 f4 (fun q hq => hw q (by rw [w26]; simp only [DataW.weightsEach, List.mem_append]; simp [hq]))
    simp only [DataW.agg.sizeOf_spec, List.cons.sizeOf_spec, List.nil.sizeOf_spec] at hN
    have hL : ∀ i, i < ll → ∃ t, VAt w.heap.size w t (.agg #[(cfl i).getD 0 undef, (cfl i).getD 1 undef, (cfl i).getD 2 undef, (cfl i).getD 3 undef, (cfl i).getD 4 undef]) := by
      intro i hi
      obtain ⟨h1, h2, h3, h4⟩ := hel i hi
      obtain ⟨t, d0, d1, d2, d3, d4, hcs, hv⟩ := open_val N nl (cfl i) (Dl i, Pl i) (by simp only; omega) h2 h4
      exact ⟨t, by rw [hcs]; exact hv⟩
    have hM : ∀ i, i < lm → ∃ x : ByteArray × VT, (cfm i).getD 0 undef = .string x.1 ∧ x.1.size ≤ sMax ∧ VAt w.heap.size w x.2 (.agg #[(cfm i).getD 1 undef, (cfm i).getD 2 undef, (cfm i).getD 3 undef, (cfm i).getD 4 undef, (cfm i).getD 5 undef]) := by
      intro i hi
      obtain ⟨h1, h2, h3, h4⟩ := hem i hi
      obtain ⟨d0, d1, d2, d3, d4, d5, hcs⟩ := six h1
      rw [hcs] at h2
      obtain ⟨ys, n2, -, hD, hlen2, hyl, hf2⟩ := DataW.trod_struct Try.underlying28 h2
      obtain ⟨z0, z1, rfl⟩ := twoY (by simpa using hyl)
      have g0 : DataW.trod enc Try.prog w 0 (fun _ => true) true n2 9 [d0] = some z0 := by have := hf2 0 { name := "Key", type := 9, offset := 0, embedded := false, tag := "", pkgPath := "", byteOffset := 0 } rfl; dsimp only at this; rw [cells9] at this; exact this
      have g1 : DataW.trod enc Try.prog w 0 (fun _ => true) true n2 26 [d1, d2, d3, d4, d5] = some z1 := by have := hf2 1 { name := "V", type := 26, offset := 1, embedded := false, tag := "", pkgPath := "", byteOffset := 16 } rfl; dsimp only at this; rw [cells26] at this; exact this
      obtain ⟨key, q0, rfl, wkey⟩ := DataW.trod_string Try.underlying9 g0
      cases q0
      simp only [Prod.mk.injEq, List.map_cons, List.map_nil] at hD
      have hks : key.size ≤ sMax := by
        have : key.data.toList.length ≤ reachBytes := h4 _ (by rw [hD.1, w28]; simp only [DataW.weightsEach, DataW.weights]; simp)
        have h5 : key.size = key.data.toList.length := by rw [Array.length_toList]; rfl
        exact Nat.le_trans (by rw [h5]; exact this) (Nat.le_of_lt reachBytes_lt)
      rw [hD.1] at h3
      simp only [DataW.agg.sizeOf_spec, List.cons.sizeOf_spec, List.nil.sizeOf_spec] at h3
      obtain ⟨t, b0, b1, b2, b3, b4, hcs2, hv⟩ := open_val N n2 [d1, d2, d3, d4, d5] z1 (by omega) g1 (fun q hq => h4 q (by rw [hD.1, w28]; simp only [DataW.weightsEach, List.mem_append]; simp [hq]))
      simp only [List.cons.injEq, and_true] at hcs2
      obtain ⟨r1, r2, r3, r4, r5⟩ := hcs2
      subst r1 r2 r3 r4 r5
      exact ⟨(key, t), by rw [hcs]; exact ⟨rfl, hks, hv⟩⟩
    obtain ⟨tl, htl⟩ := @choose_lt VT ⟨VT.mk 0 0 ⟨#[]⟩ [] []⟩ _ _ hL
    obtain ⟨tm, htm⟩ := @choose_lt (ByteArray × VT) ⟨(⟨#[]⟩, VT.mk 0 0 ⟨#[]⟩ [] [])⟩ _ _ hM
    refine ⟨.mk k m s ((List.range ll).map tl) ((List.range lm).map tm), _, _, _, _, _, rfl, VAt.mk wk wm hws (by simpa using hrl) (by simpa using hrm) (fun i hi => ?_) (fun i hi => ?_) (fun i hi => ?_)⟩
    · simp at hi ⊢; exact htl i hi
    · simp at hi ⊢; exact ⟨(htm i hi).1, (htm i hi).2.1⟩
    · simp at hi ⊢; exact (htm i hi).2.2
/-- Members that came in. -/
theorem open_mems (fuel : Nat) (c : Value) (y : DataW H × List MemPlace) (h : DataW.trod enc Try.prog w 0 (fun _ => true) true fuel 24 [c] = some y) (hw : ∀ n ∈ y.1.weights Try.prog 24, n ≤ reachBytes) :
    ∃ (m : List (ByteArray × VT)) (cm : Nat → Nat → Value), RowAt w.heap.size w 6 c m.length cm ∧ (∀ i (h : i < m.length), cm i 0 = .string m[i].1 ∧ m[i].1.size ≤ sMax) ∧ (∀ i (h : i < m.length), VAt w.heap.size w m[i].2 (.agg #[cm i 1, cm i 2, cm i 3, cm i 4, cm i 5])) := by
  obtain ⟨lm, nm, cfm, Dm, Pm, hrm, hem⟩ := open_row Try.underlying24 cells28 (by decide) bytes28 h hw
  have hM : ∀ i, i < lm → ∃ x : ByteArray × VT, (cfm i).getD 0 undef = .string x.1 ∧ x.1.size ≤ sMax ∧ VAt w.heap.size w x.2 (.agg #[(cfm i).getD 1 undef, (cfm i).getD 2 undef, (cfm i).getD 3 undef, (cfm i).getD 4 undef, (cfm i).getD 5 undef]) := by
    intro i hi
    obtain ⟨h1, h2, h3, h4⟩ := hem i hi
    obtain ⟨d0, d1, d2, d3, d4, d5, hcs⟩ := six h1
    rw [hcs] at h2
    obtain ⟨ys, n2, -, hD, hlen2, hyl, hf2⟩ := DataW.trod_struct Try.underlying28 h2
    obtain ⟨z0, z1, rfl⟩ := twoY (by simpa using hyl)
    have g0 : DataW.trod enc Try.prog w 0 (fun _ => true) true n2 9 [d0] = some z0 := by have := hf2 0 { name := "Key", type := 9, offset := 0, embedded := false, tag := "", pkgPath := "", byteOffset := 0 } rfl; dsimp only at this; rw [cells9] at this; exact this
    have g1 : DataW.trod enc Try.prog w 0 (fun _ => true) true n2 26 [d1, d2, d3, d4, d5] = some z1 := by have := hf2 1 { name := "V", type := 26, offset := 1, embedded := false, tag := "", pkgPath := "", byteOffset := 16 } rfl; dsimp only at this; rw [cells26] at this; exact this
    obtain ⟨key, q0, rfl, wkey⟩ := DataW.trod_string Try.underlying9 g0
    cases q0
    simp only [Prod.mk.injEq, List.map_cons, List.map_nil] at hD
    have hks : key.size ≤ sMax := by
      have : key.data.toList.length ≤ reachBytes := h4 _ (by rw [hD.1, w28]; simp only [DataW.weightsEach, DataW.weights]; simp)
      have h5 : key.size = key.data.toList.length := by rw [Array.length_toList]; rfl
      exact Nat.le_trans (by rw [h5]; exact this) (Nat.le_of_lt reachBytes_lt)
    rw [hD.1] at h3
    simp only [DataW.agg.sizeOf_spec, List.cons.sizeOf_spec, List.nil.sizeOf_spec] at h3
    obtain ⟨t, b0, b1, b2, b3, b4, hcs2, hv⟩ := open_val (SizeOf.sizeOf z1.1 + 1) n2 [d1, d2, d3, d4, d5] z1 (by omega) g1 (fun q hq => h4 q (by rw [hD.1, w28]; simp only [DataW.weightsEach, List.mem_append]; simp [hq]))
    simp only [List.cons.injEq, and_true] at hcs2
    obtain ⟨r1, r2, r3, r4, r5⟩ := hcs2
    subst r1 r2 r3 r4 r5
    exact ⟨(key, t), by rw [hcs]; exact ⟨rfl, hks, hv⟩⟩
  obtain ⟨tm, htm⟩ := @choose_lt (ByteArray × VT) ⟨(⟨#[]⟩, VT.mk 0 0 ⟨#[]⟩ [] [])⟩ _ _ hM
  refine ⟨(List.range lm).map tm, _, by simpa using hrm, fun i hi => ?_, fun i hi => ?_⟩
  · simp at hi ⊢; exact ⟨(htm i hi).1, (htm i hi).2.1⟩
  · simp at hi ⊢; exact (htm i hi).2.2
end
end Go.Proofs.Ythcphfpkinfjoaa
