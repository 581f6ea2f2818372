/-
  The library's slices.Grow on a nil slice, slices.Concat at members.
  Package value's Set: a map with one member set, by its key.
  Conditions: none.
-/
import Derived.Test.YthcphfpkinfjoaaValMc
import Derived.Lib.AppendZerosOnto
import Derived.Lib.Walk
import Derived.Test.YthcphfpkinfjoaaValMx
import Derived.Deep.RegionHeld3
namespace Go.Proofs.Ythcphfpkinfjoaa
open Go.RowKit

set_option maxRecDepth 100000 in
set_option maxHeartbeats 1000000 in
theorem grow_nil (n : Nat) (w : World) (hn : n ≤ 1000000) :
    Calls Try.prog 70 #[.slice none 0 0, .int .i64 n] w fun e w' => ∃ v, e = .returned v ∧ w'.ownsRow w.heap.size 28 6 v 0 [] ∧ Below w.heap.size w w' := by
  obtain ⟨i0, hi0, hz0, hz1, hz2⟩ := info_parts info_mem
  rcases Nat.eq_zero_or_pos n with rfl | hp
  · go_enter Try.func70, Try.ntmps70
    go_wp2
    go_ret
    exact ⟨_, rfl, World.ownsRow_nil _ _ _ _, Below.refl _ _⟩
  · have hrz : ∀ ty, (Builtin.append_ #[24, 3] ty #[.slice none 0 0, .int .i64 (n : Int)]).run Try.prog w =
        .ok (.slice (some ⟨w.heap.size, 0, none⟩) n (grownCap w n 0 28)) (w.drew.alloc (.cells (([] : List Value).toArray ++ Builtin.zeroCells (Value.agg #[.string ⟨#[]⟩, .int .i64 0, .int .i64 0, .string ⟨#[]⟩, .slice none 0 0, .slice none 0 0]).cells n ++ Builtin.zeroCells (Value.agg #[.string ⟨#[]⟩, .int .i64 0, .int .i64 0, .string ⟨#[]⟩, .slice none 0 0, .slice none 0 0]).cells (grownCap w n 0 28 - n)) 28)) := by
      intro ty
      have h := Lib.run_append_grow_zeros (P := Try.prog) w 24 3 ty 28 i0 _ .i64 .i64 Try.underlying24 Try.underlying3 hi0 hz0 none 0 0 [] (run_firstCells_none w.drew i0.size 0 0 0) n hp (by omega) (by omega) (by omega) (by rw [hz2]; omega) (growslice_fits (by omega) (by rw [hz2]; omega))
      simpa only [Nat.zero_add] using h
    have hge : n ≤ grownCap w n 0 28 := grownCap_ge w _ _ _
    have hle : grownCap w n 0 28 ≤ maxLen := grownCap_le_maxLen w n 0 _ (by unfold maxLen; omega)
    obtain ⟨G, hG⟩ : ∃ G, G = grownCap w n 0 28 := ⟨_, rfl⟩
    rw [← hG] at hrz hge hle
    obtain ⟨Z, hZ⟩ : ∃ Z, Z = ([] : List Value).toArray ++ Builtin.zeroCells (Value.agg #[.string ⟨#[]⟩, .int .i64 0, .int .i64 0, .string ⟨#[]⟩, .slice none 0 0, .slice none 0 0]).cells n ++ Builtin.zeroCells (Value.agg #[.string ⟨#[]⟩, .int .i64 0, .int .i64 0, .string ⟨#[]⟩, .slice none 0 0, .slice none 0 0]).cells (G - n) := ⟨_, rfl⟩
    rw [← hZ] at hrz
    have HZS := Lib.hid (show Z.size = G * 6 by rw [hZ]; simp [size_zeroCells, Value.cells]; omega)
    have HLE := Lib.hid hle
    have HRZ := Lib.hid hrz
    have hG63 : G ≤ 9223372036854775807 := by unfold maxLen at hle; omega
    clear hrz hG hZ hle
    have hpi : (0 : Int) < (n : Int) := by omega
    go_enter Try.func70, Try.ntmps70
    go_wp2_with (at_builtin; refine Lib.wpList_append_run _ rfl _ _ _ _ rfl _ _ rfl rfl _ _ (HRZ.out _) ?_)
    go_ret
    refine ⟨_, rfl, ⟨rfl, .inr ⟨w.heap.size, G, Z, rfl, Nat.le_refl _, ?_, Nat.zero_le _, HLE.out, HZS.out, by simp⟩⟩, (Below.refl _ w).drew.alloc (Nat.le_refl _) _⟩
    exact World.alloc_heap_new w.drew _

/-- The members of the first so many lists. -/
def joinM (ms : List (List (ByteArray × VT))) (j : Nat) : List (ByteArray × VT) := (ms.take j).flatten
theorem joinM_succ (ms : List (List (ByteArray × VT))) (j : Nat) (h : j < ms.length) : joinM ms (j + 1) = joinM ms j ++ ms[j] := by
  unfold joinM
  rw [List.take_succ_eq_append_getElem h, List.flatten_append, List.flatten_singleton]
theorem joinM_all (ms : List (List (ByteArray × VT))) (j : Nat) (h : ms.length ≤ j) : joinM ms j = ms.flatten := by
  unfold joinM
  rw [List.take_of_length_le h]
theorem joinM_len (ms : List (List (ByteArray × VT))) (j : Nat) : (joinM ms j).length ≤ ms.flatten.length := by
  have h : ms.flatten = joinM ms j ++ (ms.drop j).flatten := by
    unfold joinM
    rw [← List.flatten_append, List.take_append_drop]
  rw [h]; simp

set_option maxRecDepth 100000 in
set_option maxHeartbeats 2000000 in
theorem concat_any {n₀ n₁ : Nat} {w : World} (ms : List (List (ByteArray × VT))) (b : Nat) (cs : Array Value) (ty : TypeId) (hblk : w.heap[b]? = some (.cells cs ty (0, 0))) (hcs : cs.size = ms.length)
    (hsrc : ∀ j (h : j < ms.length), ∃ sv cm, cs[j]? = some sv ∧ MAt n₁ w ms[j] sv cm ∧ MCells n₀ w ms[j] (flat6 cm (List.range ms[j].length))) (hz : n₁ ≤ w.heap.size) (hlen : ms.flatten.length ≤ 1000000) (hms : ms.length ≤ 1000) :
    Calls Try.prog 47 #[.slice (some ⟨b, 0, none⟩) ms.length ms.length] w fun e w' => ∃ v xs, e = .returned v ∧ w'.ownsRow w.heap.size 28 6 v ms.flatten.length xs ∧ MCells n₀ w ms.flatten xs ∧ Below w.heap.size w w' := by
  obtain ⟨i0, hi0, hz0, hz1, hz2⟩ := info_parts info_mem
  have HBK := Lib.hid hblk
  have HCS := Lib.hid hcs
  have HSRC := Lib.hid hsrc
  have HZ := Lib.hid hz
  have HJL := Lib.hid (joinM_len ms)
  have hbw := lt_of_block hblk
  clear hblk hcs hsrc hz
  go_enter Try.func47, Try.ntmps47
  go_wp2_with fail
  go_loop [3, 11] (fun sz iv => ∃ j : Nat, j ≤ ms.length ∧ iv = .int .i64 j ∧ sz = .int .i64 ((joinM ms j).length : Nat)) (fun _ i => ms.length - (intOf i).toNat)
  case atStart => exact ⟨0, Nat.zero_le _, rfl, rfl⟩
  case round =>
    obtain ⟨j, hj, rfl, rfl⟩ := hrel
    have hjl := HJL.out j
    by_cases hjm : j < ms.length
    · obtain ⟨sv, cm, hsv, hM, -⟩ := HSRC.out j hjm
      obtain ⟨ao, cap, rfl, -⟩ := hM.1.form
      have x0 : w.cell? ⟨b, j, none⟩ = some (.slice ao ms[j].length cap) := (cell_of_row w b j cs ty (0, 0) HBK.out).trans hsv
      have HS := Lib.hid (show (joinM ms (j + 1)).length = (joinM ms j).length + ms[j].length by rw [joinM_succ ms j hjm]; simp)
      have hl2 : (joinM ms j).length + ms[j].length ≤ 1000000 := by have := HS.out; have := HJL.out (j + 1); omega
      generalize hq : ms[j].length = q at *
      clear hM hsv hq
      have j5 : (j : Int) < (ms.length : Int) := by omega
      go_wp2
      go_round
      case rel => exact ⟨j + 1, by omega, by go_num, by rw [HS.out]; go_num⟩
      case measure => simp [intOf]; omega
    · have HJE := Lib.hid (joinM_all ms j (by omega))
      have hln : (joinM ms j).length ≤ 1000000 := by omega
      go_wp2_with fail
      refine (grow_nil (joinM ms j).length w hln).mono ?_
      rintro e w1 ⟨v1, rfl, hown1, hb1⟩
      have HO1 := Lib.hid hown1
      have HB1 := Lib.hid hb1
      clear hown1 hb1
      go_wp2_with fail
      go_loopw [6, 27] (fun ov iv wr => ∃ (k : Nat) (xs : List Value), k ≤ ms.length ∧ iv = .int .i64 k ∧ wr.ownsRow w.heap.size 28 6 ov (joinM ms k).length xs ∧ MCells n₀ w (joinM ms k) xs ∧ Below w.heap.size w wr) (fun _ i _ => ms.length - (intOf i).toNat)
      case atStart => exact ⟨0, [], Nat.zero_le _, rfl, HO1.out, .nil, HB1.out⟩
      case round =>
        obtain ⟨k, xs, hk, rfl, hown, hmc, hbr⟩ := hrel
        rename World => Wr
        have HOWN := Lib.hid hown
        have HMC := Lib.hid hmc
        have HBR := Lib.hid hbr
        clear hown hmc hbr
        have hkl := HJL.out k
        by_cases hkm : k < ms.length
        · obtain ⟨sv, cm, hsv, hM, hcl⟩ := HSRC.out k hkm
          have HJS := Lib.hid (joinM_succ ms k hkm)
          have HLS := Lib.hid (show (joinM ms (k + 1)).length = (joinM ms k).length + ms[k].length by rw [joinM_succ ms k hkm]; simp)
          have hl2 : (joinM ms k).length + ms[k].length ≤ 1000000 := by have := HLS.out; have := HJL.out (k + 1); omega
          have HCL := Lib.hid hcl
          clear hcl
          have HMF := Lib.hid hM
          have x1 : Wr.cell? ⟨b, k, none⟩ = some sv := (HBR.out.cell (p := ⟨b, k, none⟩) hbw).trans ((cell_of_row w b k cs ty (0, 0) HBK.out).trans hsv)
          have k5 : (k : Int) < (ms.length : Int) := by omega
          obtain ⟨ao, cap, rfl, -⟩ := hM.1.form
          have HSR := Lib.hid (hM.src Wr (HBR.out.mono HZ.out))
          have hbz := HBR.out.size
          generalize hq : ms[k].length = q at *
          clear hsv hM
          go_wp2_with (at_builtin; refine wpList_append_src rfl _ _ rfl w.heap.size _ _ _ rfl HOWN.out _ _ _ rfl HSR.out (by omega) hbz ?_)
          intro v2 w2 hown2 hgr2
          have HO2 := Lib.hid hown2
          have HG2 := Lib.hid (HBR.out.grown hgr2 hbz (fun k hk => ownBlock_lt HOWN.out k hk))
          clear hown2 hgr2
          go_wp2
          go_roundw
          case rel => exact ⟨k + 1, _, by omega, by go_num, by rw [HLS.out]; exact HO2.out, by rw [HJS.out]; exact HMC.out.append (by rw [← hq] at *; exact HCL.out), HG2.out⟩
          case measure => simp [intOf]; omega
        · have HKE := Lib.hid (joinM_all ms k (by omega))
          go_wp2
          go_ret
          exact ⟨_, xs, rfl, by have := HOWN.out; rw [HKE.out] at this; exact this, by have := HMC.out; rw [HKE.out] at this; exact this, HBR.out⟩
end Go.Proofs.Ythcphfpkinfjoaa

namespace Go.Proofs.Ythcphfpkinfjoaa
open Go.RowKit

/-! ### Parts of a row -/
theorem MAt.front {n₀ : Nat} {w : World} {m : List (ByteArray × VT)} {ao : Option Addr} {cap : Nat} {cm : Nat → Nat → Value} (h : MAt n₀ w m (.slice ao m.length cap) cm) {p : Nat} (hp : p ≤ m.length) : MAt n₀ w (m.take p) (.slice ao p cap) cm := by
  refine ⟨?_, fun i hi => ?_, fun i hi => ?_⟩
  · have e : (m.take p).length = p := by simp; omega
    rw [e]
    rcases Nat.eq_zero_or_pos p with h0 | h0
    · rcases h.1 with ⟨_, ao', cap', h2, h3, h4⟩ | ⟨b, off, cap', h1, h2, h3, h4, h5, h6⟩
      · simp only [Value.slice.injEq] at h2
        obtain ⟨rfl, -, rfl⟩ := h2
        exact .inl ⟨h0, _, _, by rw [h0], h3, h4⟩
      · cases h4; exact .inl ⟨h0, _, _, by rw [h0], h3.2, by simp⟩
    · rcases h.1 with ⟨h1, ao', cap', h2, h3, h4⟩ | ⟨b, off, cap', h1, h2, h3, h4, h5, h6⟩
      · omega
      · cases h4; exact .inr ⟨b, off, _, h0, by omega, ⟨by omega, h3.2⟩, rfl, h5, fun i j hi hj => h6 i j (by omega) hj⟩
  · have hi' : i < m.length := by simp at hi; omega
    simp only [List.getElem_take]
    exact h.2.1 i hi'
  · have hi' : i < m.length := by simp at hi; omega
    simp only [List.getElem_take]
    exact h.2.2 i hi'
/-- The row behind p members, at whatever address that is reckoned right. -/
theorem MAt.behind {n₀ : Nat} {w : World} {m : List (ByteArray × VT)} {ao : Option Addr} {cap : Nat} {cm : Nat → Nat → Value} (h : MAt n₀ w m (.slice ao m.length cap) cm) {p : Nat} (hp : p ≤ m.length) (ao' : Option Addr) (cap' : Nat)
    (hc : m.length - p ≤ cap') (hcm : cap' ≤ maxLen) (hno : ao' = none → cap' = 0) (ha : p < m.length → ∀ b off, ao = some ⟨b, off, none⟩ → ao' = some ⟨b, off + p * 6, none⟩) :
    MAt n₀ w (m.drop p) (.slice ao' (m.length - p) cap') (fun i j => cm (i + p) j) := by
  refine ⟨?_, fun i hi => ?_, fun i hi => ?_⟩
  · have e : (m.drop p).length = m.length - p := by simp
    rw [e]
    rcases Nat.eq_zero_or_pos (m.length - p) with h0 | h0
    · exact .inl ⟨h0, _, _, by rw [h0], hcm, hno⟩
    · rcases h.1 with ⟨h1, ao', cap', h2, h3, h4⟩ | ⟨b, off, cap2, h1, h2, h3, h4, h5, h6⟩
      · omega
      · cases h4
        rw [ha (by omega) b off rfl]
        refine .inr ⟨b, off + p * 6, _, h0, hc, ⟨by omega, hcm⟩, rfl, h5, fun i j hi hj => ?_⟩
        have := h6 (i + p) j (by omega) hj
        rw [show off + p * 6 + i * 6 + j = off + (i + p) * 6 + j by omega]
        exact this
  · have hi' : p + i < m.length := by simp at hi; omega
    have e := h.2.1 (p + i) hi'
    simp only [List.getElem_drop]
    rw [show i + p = p + i by omega]
    exact e
  · have hi' : p + i < m.length := by simp at hi; omega
    have e := h.2.2 (p + i) hi'
    simp only [List.getElem_drop]
    rw [show i + p = p + i by omega]
    exact e

set_option maxHeartbeats 400000 in
/-- Concat of a row, one member, a row. -/
theorem concat3 {n₀ : Nat} {w0 : World} (W : World) (hb : Below n₀ w0 W) (hz : n₀ ≤ W.heap.size) {m1 m3 : List (ByteArray × VT)} {s1 s3 : Value} {c1 c3 : Nat → Nat → Value} (h1 : MAt n₀ w0 m1 s1 c1) (h3 : MAt n₀ w0 m3 s3 c3)
    {key : ByteArray} {tx : VT} {x0 x1 x2 x3 x4 : Value} (hk : key.size ≤ sMax) (hx : VAt n₀ w0 tx (.agg #[x0, x1, x2, x3, x4])) (hlen : m1.length + m3.length ≤ 900000) :
    Calls Try.prog 47 #[.slice (some ⟨W.heap.size + 1, 0, none⟩) 3 3] ((W.alloc (.cells #[.string key, x0, x1, x2, x3, x4] 28)).alloc (.cells #[s1, .slice (some ⟨W.heap.size, 0, none⟩) 1 1, s3] 24)) fun e w' =>
      ∃ v xs, e = .returned v ∧ w'.ownsRow (W.heap.size + 2) 28 6 v (m1 ++ [(key, tx)] ++ m3).length xs ∧ MCells n₀ w' (m1 ++ [(key, tx)] ++ m3) xs ∧ Below W.heap.size W w' ∧ W.heap.size + 2 ≤ w'.heap.size := by
  generalize hA : W.alloc (.cells #[.string key, x0, x1, x2, x3, x4] 28) = WA
  have hvA : WA.heap[W.heap.size]? = some (.cells #[.string key, x0, x1, x2, x3, x4] 28 (0, 0)) := by subst hA; exact World.alloc_heap_new W _
  have hbA : Below W.heap.size W WA := by subst hA; exact (Below.refl _ W).alloc (Nat.le_refl _) _
  have hzA : WA.heap.size = W.heap.size + 1 := by subst hA; simp
  generalize hB : WA.alloc (.cells #[s1, .slice (some ⟨W.heap.size, 0, none⟩) 1 1, s3] 24) = WB
  have hvB : WB.heap[W.heap.size + 1]? = some (.cells #[s1, .slice (some ⟨W.heap.size, 0, none⟩) 1 1, s3] 24 (0, 0)) := by rw [← hzA]; subst hB; exact World.alloc_heap_new WA _
  have hbB : Below WA.heap.size WA WB := by subst hB; exact (Below.refl _ WA).alloc (Nat.le_refl _) _
  have hzB : WB.heap.size = W.heap.size + 2 := by subst hB; simp [hzA]
  have hvA' := box_keep hvA hbB (by omega)
  have hWB : Below W.heap.size W WB := hbA.trans (hbB.mono hbA.size)
  have hb0 : Below n₀ w0 WB := hb.trans (hWB.mono hz)
  clear hA hB
  have hfl : [m1, [(key, tx)], m3].flatten = m1 ++ [(key, tx)] ++ m3 := by simp
  have hC := concat_any (n₀ := n₀) (n₁ := WB.heap.size) (w := WB) [m1, [(key, tx)], m3] (W.heap.size + 1) _ _ hvB rfl (fun j hj => by
    have hj3 : j < 3 := hj
    rcases (show j = 0 ∨ j = 1 ∨ j = 2 by omega) with rfl | rfl | rfl
    · exact ⟨s1, c1, rfl, (h1.keep hb0).mono (by omega), h1.cells.keep hb0⟩
    · exact ⟨_, _, rfl, one_at hvA' (by omega) hk hx hb0 (by omega), MCells.one hk (hx.keep hb0)⟩
    · exact ⟨s3, c3, rfl, (h3.keep hb0).mono (by omega), h3.cells.keep hb0⟩) (Nat.le_refl _) (by rw [hfl]; simp; omega) (by simp)
  refine hC.mono ?_
  rintro e w' ⟨v, xs, rfl, ho, hc, hq⟩
  rw [hfl] at ho hc
  rw [hzB] at ho hq
  exact ⟨v, xs, rfl, ho, hc.keep (hq.mono (by omega)), hWB.trans (hq.mono (by omega)), by have := hq.size; omega⟩

/-- A cell of another block, behind five stores. -/
theorem put5_cell {w : World} {b b' j : Nat} {v c0 c1 c2 c3 c4 : Value} (hb : b' < b) (h : w.cell? ⟨b', j, none⟩ = some v) :
    (((((w.setCell ⟨b, 0, none⟩ c0).setCell ⟨b, 1, none⟩ c1).setCell ⟨b, 2, none⟩ c2).setCell ⟨b, 3, none⟩ c3).setCell ⟨b, 4, none⟩ c4).cell? ⟨b', j, none⟩ = some v :=
  ((put5_below c0 c1 c2 c3 c4 (Below.refl b w) (Nat.le_refl _)).cell (p := ⟨b', j, none⟩) hb).trans h
/-- The same, behind a draw. -/
theorem concat3d {n₀ : Nat} {w0 : World} (W : World) (hb : Below n₀ w0 W) (hz : n₀ ≤ W.heap.size) {m1 m3 : List (ByteArray × VT)} {s1 s3 : Value} {c1 c3 : Nat → Nat → Value} (h1 : MAt n₀ w0 m1 s1 c1) (h3 : MAt n₀ w0 m3 s3 c3)
    {key : ByteArray} {tx : VT} {x0 x1 x2 x3 x4 : Value} (hk : key.size ≤ sMax) (hx : VAt n₀ w0 tx (.agg #[x0, x1, x2, x3, x4])) (hlen : m1.length + m3.length ≤ 900000) :
    Calls Try.prog 47 #[.slice (some ⟨W.heap.size + 1, 0, none⟩) 3 3] ((W.alloc (.cells #[.string key, x0, x1, x2, x3, x4] 28)).alloc (.cells #[s1, .slice (some ⟨W.heap.size, 0, none⟩) 1 1, s3] 24)).drew fun e w' =>
      ∃ v xs, e = .returned v ∧ w'.ownsRow (W.heap.size + 2) 28 6 v (m1 ++ [(key, tx)] ++ m3).length xs ∧ MCells n₀ w' (m1 ++ [(key, tx)] ++ m3) xs ∧ Below W.heap.size W w' ∧ W.heap.size + 2 ≤ w'.heap.size :=
  (concat3 W.drew hb.drew hz h1 h3 hk hx hlen).mono fun _ _ ⟨v, xs, he, ho, hc, hq, hl⟩ => ⟨v, xs, he, ho, hc, (Below.refl _ W).drew.trans hq, hl⟩
theorem look_app_right {A B : List (ByteArray × VT)} {k : ByteArray} (h : ∀ y ∈ A, y.1 ≠ k) : look (A ++ B) k = look B k := by
  unfold look
  rw [List.find?_append, List.find?_eq_none.2 (fun y hy => by simpa using h y hy)]
  rfl
/-- The members of a map with one set. -/
theorem setM_isMap {m : List (ByteArray × VT)} (hA : Asc m) (key : ByteArray) (x : VT) (q : Nat) (hq : (q = posS m key ∧ ¬ ∃ h : posS m key < m.length, m[posS m key].1 = key) ∨ (q = posS m key + 1 ∧ ∃ h : posS m key < m.length, m[posS m key].1 = key)) :
    IsMap (m ++ [(key, x)]) (m.take (posS m key) ++ [(key, x)] ++ m.drop q) := by
  have hp := posS_le m key
  have h1 : ∀ y ∈ m.take (posS m key), ltS y.1 key = true := by
    intro y hy
    obtain ⟨i, hi, rfl⟩ := List.mem_iff_getElem.1 hy
    simp at hi
    simp only [List.getElem_take]
    exact posS_lt m key i (by omega) (by omega)
  have h2 : ∀ y ∈ m.drop q, ltS key y.1 = true := by
    intro y hy
    obtain ⟨i, hi, rfl⟩ := List.mem_iff_getElem.1 hy
    simp at hi
    simp only [List.getElem_drop]
    have hge := posS_ge hA key (q + i) (by omega) (by omega)
    rcases (show ltS key m[q + i].1 = true ∨ key = m[q + i].1 by
      cases h : ltS key m[q + i].1 with
      | true => exact .inl rfl
      | false => exact .inr (ltS_tri _ _ h hge)) with h | h
    · exact h
    · exfalso
      rcases hq with ⟨rfl, hno⟩ | ⟨rfl, hlt, he⟩
      · rcases Nat.eq_zero_or_pos i with h0 | h0
        · subst h0; exact hno ⟨by omega, by simpa using h.symm⟩
        · have h3 := hA (posS m key) (posS m key + i) (by omega) (by omega)
          rw [← h] at h3
          rw [posS_at m key (by omega)] at h3; cases h3
      · have h3 := hA (posS m key) (posS m key + 1 + i) (by omega) (by omega)
        rw [he, ← h, ltS_irrefl] at h3; cases h3
  have hT : Asc (m.take (posS m key)) := by
    rw [asc_iff] at hA ⊢
    exact hA.sublist (List.take_sublist _ _)
  have hD : Asc (m.drop q) := by
    rw [asc_iff] at hA ⊢
    exact hA.sublist (List.drop_sublist _ _)
  refine ⟨?_, fun k => ?_⟩
  · rw [asc_iff] at hT hD ⊢
    rw [List.append_assoc, List.pairwise_append]
    refine ⟨hT, ?_, fun a ha b hb => ?_⟩
    · rw [List.singleton_append, List.pairwise_cons]
      exact ⟨fun b hb => h2 b hb, hD⟩
    · rw [List.singleton_append] at hb
      rcases List.mem_cons.1 hb with rfl | hb
      · exact h1 a ha
      · exact ltS_trans (h1 a ha) (h2 b hb)
  · rw [lastV_append, lastV_one]
    by_cases hk : key = k
    · subst hk
      rw [if_pos rfl]
      simp only [Option.some_or]
      rw [List.append_assoc, look_app_right (fun y hy => ltS_ne (h1 y hy)), List.singleton_append, look_cons, if_pos rfl]
    · rw [if_neg hk, Option.none_or, ← (isMap_self hA).2 k]
      have hmid : look (m.take (posS m key) ++ [(key, x)] ++ m.drop q) k = look (m.take (posS m key) ++ m.drop q) k := by
        rw [List.append_assoc]
        unfold look
        rw [List.find?_append, List.find?_append, List.find?_append]
        simp [hk]
      rw [hmid]
      rcases hq with ⟨rfl, -⟩ | ⟨rfl, hlt, he⟩
      · rw [List.take_append_drop]
      · conv => rhs; rw [← List.take_append_drop (posS m key) m, List.drop_eq_getElem_cons hlt]
        unfold look
        rw [List.find?_append, List.find?_append, List.find?_cons_of_neg (by simp [he, hk])]

/-- The rest behind the place, and one further on. -/
theorem MAt.behind1 {n₀ : Nat} {w : World} {m : List (ByteArray × VT)} {ao : Option Addr} {cap : Nat} {cm : Nat → Nat → Value} (h : MAt n₀ w m (.slice ao m.length cap) cm) {p : Nat} (hp : p ≤ m.length) (hc : m.length ≤ cap) (hcm : cap ≤ maxLen) :
    MAt n₀ w (m.drop p) (.slice (Option.map (fun x => x.add (p * 6)) ao) (m.length - p) (cap - p)) (fun i j => cm (i + p) j) := by
  refine h.behind hp _ _ (by omega) (by omega) (fun hn => ?_) (fun _ b off he => by rw [he]; simp [addr_off])
  have h0 : ao = none := by cases ao with | none => rfl | some a => simp at hn
  subst h0
  rcases h.1 with ⟨h1, ao', cap', h2, h3, h4⟩ | ⟨b, off, cap', h1, h2, h3, h4, h5, h6⟩
  · simp only [Value.slice.injEq] at h2
    obtain ⟨rfl, -, rfl⟩ := h2
    have := h4 rfl; omega
  · cases h4
theorem MAt.behind2 {n₀ : Nat} {w : World} {m : List (ByteArray × VT)} {ao : Option Addr} {cap : Nat} {cm : Nat → Nat → Value} (h : MAt n₀ w m (.slice ao m.length cap) cm) {p : Nat} (hp : p < m.length) (hc : m.length ≤ cap) (hcm : cap ≤ maxLen) :
    MAt n₀ w (m.drop (p + 1)) (.slice (Option.map ((fun x => { block := x.block, off := x.off + 6 }) ∘ fun x => x.add (p * 6)) ao) (m.length - p - 1) (cap - p - 1)) (fun i j => cm (i + (p + 1)) j) := by
  have e1 : m.length - p - 1 = m.length - (p + 1) := by omega
  have e2 : cap - p - 1 = cap - (p + 1) := by omega
  rw [e1, e2]
  refine h.behind (by omega) _ _ (by omega) (by omega) (fun hn => ?_) (fun _ b off he => by rw [he]; simp [addr_off, Nat.add_mul, Nat.add_assoc])
  have h0 : ao = none := by cases ao with | none => rfl | some a => simp at hn
  subst h0
  rcases h.1 with ⟨h1, ao', cap', h2, h3, h4⟩ | ⟨b, off, cap', h1, h2, h3, h4, h5, h6⟩
  · omega
  · cases h4
/-- A slice whose end is its array's end, cut there. -/
theorem MAt.behind0 {n₀ : Nat} {w : World} {m : List (ByteArray × VT)} (ao : Option Addr) {p : Nat} (hp : m.length ≤ p) : MAt n₀ w (m.drop p) (.slice ao 0 0) (fun _ _ => undef) := by
  have e : m.drop p = [] := List.drop_eq_nil_of_le hp
  rw [e]
  exact ⟨.inl ⟨rfl, _, _, rfl, by decide, fun _ => rfl⟩, fun i hi => absurd hi (Nat.not_lt_zero _), fun i hi => absurd hi (Nat.not_lt_zero _)⟩

set_option maxRecDepth 100000 in
set_option maxHeartbeats 4000000 in
theorem set_map {n₀ : Nat} {w0 : World} {n : Int} {s : ByteArray} {l : List VT} {m : List (ByteArray × VT)} {v : Value} (h : VAt n₀ w0 (.mk 5 n s l m) v) (hA : Asc m) (hm : m.length ≤ 800000) (key : ByteArray) (hk : key.size ≤ sMax) {tx : VT} {vx : Value} (hx : VAt n₀ w0 tx vx) (w : World) (hw : Below n₀ w0 w) (hz : n₀ ≤ w.heap.size) :
    Calls Try.prog 22 #[v, .string key, vx] w fun e w' => ∃ y L, e = .returned y ∧ IsMap (m ++ [(key, tx)]) L ∧ VAt w'.heap.size w' (.mk 5 0 ⟨#[]⟩ [] L) y ∧ Below w.heap.size w w' := by
  obtain ⟨x0, x1, x2, x3, x4, rfl⟩ := vAt_agg hx
  obtain ⟨al, cl, am, cap, cm, rfl, hM⟩ := h.mems
  obtain ⟨hc, hcap⟩ : m.length ≤ cap ∧ cap ≤ maxLen := by
    rcases hM.1 with ⟨h1, ao', cap', h2, h3, h4⟩ | ⟨b, off, cap', h1, h2, h3, h4, h5, h6⟩
    · simp only [Value.slice.injEq] at h2
      obtain ⟨-, -, rfl⟩ := h2
      exact ⟨by omega, h3⟩
    · cases h4; exact ⟨h2, h3.2⟩
  have HCM := Lib.hid hcap
  unfold maxLen at hcap
  obtain ⟨f, hf⟩ : ∃ f : Bool, f = true ↔ ∃ h : posS m key < m.length, m[posS m key].1 = key := by classical exact ⟨decide (∃ h : posS m key < m.length, m[posS m key].1 = key), by rw [decide_eq_true_iff]⟩
  have hpl := fun (w : World) hw hz => place_any m am cap cm hM.1 (fun i h => (hM.2.1 i h).1) hA key w hw hz f hf
  have HSM := Lib.hid (fun q hq => setM_isMap hA key tx q hq)
  have HPL := Lib.hid hpl
  have hp := posS_le m key
  generalize posS m key = p at hf HSM HPL hp
  have HF := Lib.hid hf
  have HM := Lib.hid hM
  have HX := Lib.hid hx
  have HW := Lib.hid hw
  have HZ := Lib.hid hz
  have HK := Lib.hid hk
  clear h hM hA hw hz hx hpl hf hk
  have p0 : (0 : Int) ≤ (p : Int) := by omega
  have p1 : (p : Int) ≤ (m.length : Int) := by omega
  have p2 : (p : Int) ≤ (cap : Int) := by omega
  go_enter Try.func22, Try.ntmps22
  go_wp2_with fail
  generalize hW2 : ((w.alloc _).alloc _).alloc _ = W2
  have hb2 : Below w.heap.size w W2 := by subst hW2; exact (((Below.refl _ w).alloc (Nat.le_refl _) _).alloc (by simp) _).alloc (by simp; omega) _
  have hv1 : W2.heap[w.heap.size]? = some (.cells #[.int .i64 5, .int .i64 n, .string s, .slice al l.length cl, .slice am m.length cap] 26 (0, 0)) := by
    subst hW2; rw [Below.heap_alloc _ _ _ (by simp; omega), Below.heap_alloc _ _ _ (by simp)]; exact World.alloc_heap_new w _
  have hv2 : W2.heap[w.heap.size + 1]? = some (.cells #[x0, x1, x2, x3, x4] 26 (0, 0)) := by
    subst hW2; rw [Below.heap_alloc _ _ _ (by simp)]
    have := World.alloc_heap_new (w.alloc (.cells #[.int .i64 5, .int .i64 n, .string s, .slice al l.length cl, .slice am m.length cap] 26)) (.cells #[x0, x1, x2, x3, x4] 26)
    rwa [World.size_alloc] at this
  have hv3 : W2.heap[w.heap.size + 1 + 1]? = some (.cells #[.int .i64 0, .int .i64 0, .string ⟨#[]⟩, .slice none 0 0, .slice none 0 0] 26 (0, 0)) := by
    subst hW2
    have := World.alloc_heap_new ((w.alloc (.cells #[.int .i64 5, .int .i64 n, .string s, .slice al l.length cl, .slice am m.length cap] 26)).alloc (.cells #[x0, x1, x2, x3, x4] 26)) (.cells #[.int .i64 0, .int .i64 0, .string ⟨#[]⟩, .slice none 0 0, .slice none 0 0] 26)
    rwa [World.size_alloc, World.size_alloc] at this
  have hz2 : W2.heap.size = w.heap.size + 3 := by subst hW2; simp
  clear hW2
  refine (HPL.out W2 (HW.out.trans (hb2.mono HZ.out)) (Nat.le_trans HZ.out hb2.size)).mono ?_
  rintro e w3 ⟨rfl, hb3⟩
  have hz3 : w.heap.size + 3 ≤ w3.heap.size := by have := hb3.size; omega
  have HV1 := Lib.hid (box_keep hv1 hb3 (by omega))
  have HV2 := Lib.hid (box_keep hv2 hb3 (by omega))
  have HV3 := Lib.hid (box_keep hv3 hb3 (by omega))
  have HB3 := Lib.hid (show Below w.heap.size w w3 from hb2.trans (hb3.mono hb2.size))
  clear hb2 hb3 hv1 hv2 hv3 hz2
  obtain ⟨-, -, -, -, y4⟩ := c5of HV1.out
  obtain ⟨z0, z1, z2, z3, z4⟩ := c5of HV2.out
  have HB0 := Lib.hid (show Below n₀ w0 w3 from HW.out.trans (HB3.out.mono HZ.out))
  have HZ0 := Lib.hid (show n₀ ≤ w3.heap.size from Nat.le_trans HZ.out (by show w.heap.size ≤ w3.heap.size; omega))
  have HFR := Lib.hid (HM.out.front hp)
  have HYD := Lib.hid (show w3.drew.cell? ⟨w.heap.size, 4, none⟩ = some (.slice am m.length cap) ∧ w3.drew.cell? ⟨w.heap.size + 1, 0, none⟩ = some x0 ∧ w3.drew.cell? ⟨w.heap.size + 1, 1, none⟩ = some x1 ∧ w3.drew.cell? ⟨w.heap.size + 1, 2, none⟩ = some x2 ∧ w3.drew.cell? ⟨w.heap.size + 1, 3, none⟩ = some x3 ∧ w3.drew.cell? ⟨w.heap.size + 1, 4, none⟩ = some x4 from ⟨y4, z0, z1, z2, z3, z4⟩)
  have hne1 : w.heap.size < w.heap.size + 1 + 1 := by omega
  have hne2 : w.heap.size + 1 < w.heap.size + 1 + 1 := by omega
  cases f with
  | false =>
    have HSQ := Lib.hid (HSM.out p (.inl ⟨rfl, fun hh => by have := HF.out.2 hh; cases this⟩))
    by_cases hcp : cap = p
    · subst hcp
      have hmp : m.length - cap = 0 := by omega
      go_wp2_with fail
      have HR := Lib.hid (MAt.behind0 (n₀ := n₀) (w := w0) (m := m) am (show m.length ≤ cap by omega))
      go_region_held3 (fun x => x.cell? ⟨w.heap.size, 4, none⟩ = some (.slice am m.length cap) ∧ x.cell? ⟨w.heap.size + 1, 0, none⟩ = some x0 ∧ x.cell? ⟨w.heap.size + 1, 1, none⟩ = some x1 ∧ x.cell? ⟨w.heap.size + 1, 2, none⟩ = some x2 ∧ x.cell? ⟨w.heap.size + 1, 3, none⟩ = some x3 ∧ x.cell? ⟨w.heap.size + 1, 4, none⟩ = some x4)
        (first | with_reducible exact ⟨HYD.out.1, HYD.out.2.1, HYD.out.2.2.1, HYD.out.2.2.2.1, HYD.out.2.2.2.2.1, HYD.out.2.2.2.2.2⟩ | with_reducible exact ⟨y4, z0, z1, z2, z3, z4⟩ | with_reducible exact ⟨by with_reducible assumption, by with_reducible assumption, by with_reducible assumption, by with_reducible assumption, by with_reducible assumption, by with_reducible assumption⟩ | with_reducible exact ⟨Lib.cell?_alloc_some _ (by with_reducible assumption), Lib.cell?_alloc_some _ (by with_reducible assumption), Lib.cell?_alloc_some _ (by with_reducible assumption), Lib.cell?_alloc_some _ (by with_reducible assumption), Lib.cell?_alloc_some _ (by with_reducible assumption), Lib.cell?_alloc_some _ (by with_reducible assumption)⟩ | with_reducible exact ⟨Lib.cell?_alloc_some _ (Lib.cell?_alloc_some _ (by with_reducible assumption)), Lib.cell?_alloc_some _ (Lib.cell?_alloc_some _ (by with_reducible assumption)), Lib.cell?_alloc_some _ (Lib.cell?_alloc_some _ (by with_reducible assumption)), Lib.cell?_alloc_some _ (Lib.cell?_alloc_some _ (by with_reducible assumption)), Lib.cell?_alloc_some _ (Lib.cell?_alloc_some _ (by with_reducible assumption)), Lib.cell?_alloc_some _ (Lib.cell?_alloc_some _ (by with_reducible assumption))⟩ | with_reducible exact ⟨put5_cell hne1 (by with_reducible assumption), put5_cell hne2 (by with_reducible assumption), put5_cell hne2 (by with_reducible assumption), put5_cell hne2 (by with_reducible assumption), put5_cell hne2 (by with_reducible assumption), put5_cell hne2 (by with_reducible assumption)⟩ | go_keep)
        (first
          | (go_at_call 47; refine (concat3d w3 HB0.out HZ0.out HFR.out HR.out HK.out HX.out (by simp; omega)).mono ?_; rintro e w4 ⟨v4, xs, rfl, ho4, hc4, hb4', hz4⟩; have hz4' : w3.heap.size + 2 ≤ w4.heap.size := hz4; clear hz4; obtain ⟨N, hN⟩ : ∃ N, N = (List.take cap m ++ [(key, tx)] ++ List.drop cap m).length := ⟨_, rfl⟩; rw [← hN] at ho4; have HN := Lib.hid hN; clear hN; have hb4 : Below w3.heap.size w3 w4 := hb4'; clear hb4'; obtain ⟨va, vc, rfl, -⟩ := ownsRow_slice ho4; have HO4 := Lib.hid ho4; have HC4 := Lib.hid hc4; clear ho4 hc4; obtain ⟨-, -, -, -, k0⟩ := c5of (box_keep HV1.out hb4 (by omega)); obtain ⟨k1, k2, k3, k4, k5⟩ := c5of (box_keep HV2.out hb4 (by omega)))
          | (go_at_call 38; refine (mapOf_any _ _ _ _).mono ?_; rintro e w5 ⟨rfl, hq⟩; have hb5 : Below w3.heap.size w3 w5 := hb4.trans (hq.mono hb4.size); have hz5' : w4.heap.size ≤ w5.heap.size := hq.size; have HO5 := Lib.hid (ownsRow_keep HO4.out hq); have HC5 := Lib.hid (HC4.out.keep (hq.mono (Nat.le_trans HZ0.out hb4.size))); clear hq; have hv5 := box_keep HV3.out hb5 (by omega); have HV5 := Lib.hid hv5; obtain ⟨r0, r1, r2, r3, r4⟩ := c5of hv5; have f0 : w5.frozen? ⟨w.heap.size + 1 + 1, 0, none⟩ = false := (by simp [World.frozen?, hv5]); have f1 : w5.frozen? ⟨w.heap.size + 1 + 1, 1, none⟩ = false := (by simp [World.frozen?, hv5]); have f2 : w5.frozen? ⟨w.heap.size + 1 + 1, 2, none⟩ = false := (by simp [World.frozen?, hv5]); have f3 : w5.frozen? ⟨w.heap.size + 1 + 1, 3, none⟩ = false := (by simp [World.frozen?, hv5]); have f4 : w5.frozen? ⟨w.heap.size + 1 + 1, 4, none⟩ = false := (by simp [World.frozen?, hv5]); clear hv5; obtain ⟨-, -, -, -, l0⟩ := c5of (box_keep HV1.out hb5 (by omega)); obtain ⟨l1, l2, l3, l4, l5⟩ := c5of (box_keep HV2.out hb5 (by omega))))
      go_wp2
      have hp5 := put5 (.int .i64 5) (.int .i64 0) (.string ⟨#[]⟩) (.slice none 0 0) (.slice va N vc) HV5.out
      have hpb := put5_below (.int .i64 5) (.int .i64 0) (.string ⟨#[]⟩) (.slice none 0 0) (.slice va N vc) (HB3.out.trans (hb5.mono HB3.out.size)) (b := w.heap.size + 1 + 1) (by omega)
      have HC9 := Lib.hid (HC5.out.keep (put5_below (.int .i64 5) (.int .i64 0) (.string ⟨#[]⟩) (.slice none 0 0) (.slice va N vc) (Below.refl n₀ w5) (b := w.heap.size + 1 + 1) (by have := HZ.out; omega)))
      have HO9 := Lib.hid (ownsRow_set (b := w.heap.size + 1 + 1) (i := 4) (u := .slice va N vc) (ownsRow_set (b := w.heap.size + 1 + 1) (i := 3) (u := .slice none 0 0) (ownsRow_set (b := w.heap.size + 1 + 1) (i := 2) (u := .string ⟨#[]⟩) (ownsRow_set (b := w.heap.size + 1 + 1) (i := 1) (u := .int .i64 0) (ownsRow_set (b := w.heap.size + 1 + 1) (i := 0) (u := .int .i64 5) HO5.out (by omega)) (by omega)) (by omega)) (by omega)) (by omega))
      generalize ((((w5.setCell _ _).setCell _ _).setCell _ _).setCell _ _).setCell _ _ = W9 at hp5 hpb HC9 HO9 ⊢
      obtain ⟨q0, q1, q2, q3, q4⟩ := c5of hp5
      refine bodyPost_ret (v := .agg #[.int .i64 5, .int .i64 0, .string ⟨#[]⟩, .slice none 0 0, .slice va N vc]) (by simp [results, Try.results22, go_sem, q0, q1, q2, q3, q4]) rfl ?_
      exact ⟨_, _, rfl, HSQ.out, HC9.out.map HO9.out (Nat.le_trans HZ.out hpb.size) (by simp; omega), hpb⟩
    · have HR := Lib.hid (HM.out.behind1 hp hc HCM.out)
      go_wp2_with fail
      go_region_held3 (fun x => x.cell? ⟨w.heap.size, 4, none⟩ = some (.slice am m.length cap) ∧ x.cell? ⟨w.heap.size + 1, 0, none⟩ = some x0 ∧ x.cell? ⟨w.heap.size + 1, 1, none⟩ = some x1 ∧ x.cell? ⟨w.heap.size + 1, 2, none⟩ = some x2 ∧ x.cell? ⟨w.heap.size + 1, 3, none⟩ = some x3 ∧ x.cell? ⟨w.heap.size + 1, 4, none⟩ = some x4)
        (first | with_reducible exact ⟨HYD.out.1, HYD.out.2.1, HYD.out.2.2.1, HYD.out.2.2.2.1, HYD.out.2.2.2.2.1, HYD.out.2.2.2.2.2⟩ | with_reducible exact ⟨y4, z0, z1, z2, z3, z4⟩ | with_reducible exact ⟨by with_reducible assumption, by with_reducible assumption, by with_reducible assumption, by with_reducible assumption, by with_reducible assumption, by with_reducible assumption⟩ | with_reducible exact ⟨Lib.cell?_alloc_some _ (by with_reducible assumption), Lib.cell?_alloc_some _ (by with_reducible assumption), Lib.cell?_alloc_some _ (by with_reducible assumption), Lib.cell?_alloc_some _ (by with_reducible assumption), Lib.cell?_alloc_some _ (by with_reducible assumption), Lib.cell?_alloc_some _ (by with_reducible assumption)⟩ | with_reducible exact ⟨Lib.cell?_alloc_some _ (Lib.cell?_alloc_some _ (by with_reducible assumption)), Lib.cell?_alloc_some _ (Lib.cell?_alloc_some _ (by with_reducible assumption)), Lib.cell?_alloc_some _ (Lib.cell?_alloc_some _ (by with_reducible assumption)), Lib.cell?_alloc_some _ (Lib.cell?_alloc_some _ (by with_reducible assumption)), Lib.cell?_alloc_some _ (Lib.cell?_alloc_some _ (by with_reducible assumption)), Lib.cell?_alloc_some _ (Lib.cell?_alloc_some _ (by with_reducible assumption))⟩ | with_reducible exact ⟨put5_cell hne1 (by with_reducible assumption), put5_cell hne2 (by with_reducible assumption), put5_cell hne2 (by with_reducible assumption), put5_cell hne2 (by with_reducible assumption), put5_cell hne2 (by with_reducible assumption), put5_cell hne2 (by with_reducible assumption)⟩ | go_keep)
        (first
          | (go_at_call 47; refine (concat3d w3 HB0.out HZ0.out HFR.out HR.out HK.out HX.out (by simp; omega)).mono ?_; rintro e w4 ⟨v4, xs, rfl, ho4, hc4, hb4', hz4⟩; have hz4' : w3.heap.size + 2 ≤ w4.heap.size := hz4; clear hz4; obtain ⟨N, hN⟩ : ∃ N, N = (List.take p m ++ [(key, tx)] ++ List.drop p m).length := ⟨_, rfl⟩; rw [← hN] at ho4; have HN := Lib.hid hN; clear hN; have hb4 : Below w3.heap.size w3 w4 := hb4'; clear hb4'; obtain ⟨va, vc, rfl, -⟩ := ownsRow_slice ho4; have HO4 := Lib.hid ho4; have HC4 := Lib.hid hc4; clear ho4 hc4; obtain ⟨-, -, -, -, k0⟩ := c5of (box_keep HV1.out hb4 (by omega)); obtain ⟨k1, k2, k3, k4, k5⟩ := c5of (box_keep HV2.out hb4 (by omega)))
          | (go_at_call 38; refine (mapOf_any _ _ _ _).mono ?_; rintro e w5 ⟨rfl, hq⟩; have hb5 : Below w3.heap.size w3 w5 := hb4.trans (hq.mono hb4.size); have hz5' : w4.heap.size ≤ w5.heap.size := hq.size; have HO5 := Lib.hid (ownsRow_keep HO4.out hq); have HC5 := Lib.hid (HC4.out.keep (hq.mono (Nat.le_trans HZ0.out hb4.size))); clear hq; have hv5 := box_keep HV3.out hb5 (by omega); have HV5 := Lib.hid hv5; obtain ⟨r0, r1, r2, r3, r4⟩ := c5of hv5; have f0 : w5.frozen? ⟨w.heap.size + 1 + 1, 0, none⟩ = false := (by simp [World.frozen?, hv5]); have f1 : w5.frozen? ⟨w.heap.size + 1 + 1, 1, none⟩ = false := (by simp [World.frozen?, hv5]); have f2 : w5.frozen? ⟨w.heap.size + 1 + 1, 2, none⟩ = false := (by simp [World.frozen?, hv5]); have f3 : w5.frozen? ⟨w.heap.size + 1 + 1, 3, none⟩ = false := (by simp [World.frozen?, hv5]); have f4 : w5.frozen? ⟨w.heap.size + 1 + 1, 4, none⟩ = false := (by simp [World.frozen?, hv5]); clear hv5; obtain ⟨-, -, -, -, l0⟩ := c5of (box_keep HV1.out hb5 (by omega)); obtain ⟨l1, l2, l3, l4, l5⟩ := c5of (box_keep HV2.out hb5 (by omega))))
      go_wp2
      have hp5 := put5 (.int .i64 5) (.int .i64 0) (.string ⟨#[]⟩) (.slice none 0 0) (.slice va N vc) HV5.out
      have hpb := put5_below (.int .i64 5) (.int .i64 0) (.string ⟨#[]⟩) (.slice none 0 0) (.slice va N vc) (HB3.out.trans (hb5.mono HB3.out.size)) (b := w.heap.size + 1 + 1) (by omega)
      have HC9 := Lib.hid (HC5.out.keep (put5_below (.int .i64 5) (.int .i64 0) (.string ⟨#[]⟩) (.slice none 0 0) (.slice va N vc) (Below.refl n₀ w5) (b := w.heap.size + 1 + 1) (by have := HZ.out; omega)))
      have HO9 := Lib.hid (ownsRow_set (b := w.heap.size + 1 + 1) (i := 4) (u := .slice va N vc) (ownsRow_set (b := w.heap.size + 1 + 1) (i := 3) (u := .slice none 0 0) (ownsRow_set (b := w.heap.size + 1 + 1) (i := 2) (u := .string ⟨#[]⟩) (ownsRow_set (b := w.heap.size + 1 + 1) (i := 1) (u := .int .i64 0) (ownsRow_set (b := w.heap.size + 1 + 1) (i := 0) (u := .int .i64 5) HO5.out (by omega)) (by omega)) (by omega)) (by omega)) (by omega))
      generalize ((((w5.setCell _ _).setCell _ _).setCell _ _).setCell _ _).setCell _ _ = W9 at hp5 hpb HC9 HO9 ⊢
      obtain ⟨q0, q1, q2, q3, q4⟩ := c5of hp5
      refine bodyPost_ret (v := .agg #[.int .i64 5, .int .i64 0, .string ⟨#[]⟩, .slice none 0 0, .slice va N vc]) (by simp [results, Try.results22, go_sem, q0, q1, q2, q3, q4]) rfl ?_
      exact ⟨_, _, rfl, HSQ.out, HC9.out.map HO9.out (Nat.le_trans HZ.out hpb.size) (by simp; omega), hpb⟩
  | true =>
    obtain ⟨hlt, -⟩ := HF.out.1 rfl
    have HSQ := Lib.hid (HSM.out (p + 1) (.inr ⟨rfl, HF.out.1 rfl⟩))
    have hcp : ¬ cap = p := by omega
    have l1 : 1 ≤ m.length - p := by omega
    have l2 : (1 : Int) ≤ ((m.length - p : Nat) : Int) := by omega
    have l3 : 1 ≤ cap - p := by omega
    by_cases hc1 : cap - p = 1
    · have hmp : m.length - p - 1 = 0 := by omega
      have HR := Lib.hid (MAt.behind0 (n₀ := n₀) (w := w0) (m := m) (Option.map (fun x => x.add (p * 6)) am) (show m.length ≤ p + 1 by omega))
      go_wp2_with fail
      go_region_held3 (fun x => x.cell? ⟨w.heap.size, 4, none⟩ = some (.slice am m.length cap) ∧ x.cell? ⟨w.heap.size + 1, 0, none⟩ = some x0 ∧ x.cell? ⟨w.heap.size + 1, 1, none⟩ = some x1 ∧ x.cell? ⟨w.heap.size + 1, 2, none⟩ = some x2 ∧ x.cell? ⟨w.heap.size + 1, 3, none⟩ = some x3 ∧ x.cell? ⟨w.heap.size + 1, 4, none⟩ = some x4)
        (first | with_reducible exact ⟨HYD.out.1, HYD.out.2.1, HYD.out.2.2.1, HYD.out.2.2.2.1, HYD.out.2.2.2.2.1, HYD.out.2.2.2.2.2⟩ | with_reducible exact ⟨y4, z0, z1, z2, z3, z4⟩ | with_reducible exact ⟨by with_reducible assumption, by with_reducible assumption, by with_reducible assumption, by with_reducible assumption, by with_reducible assumption, by with_reducible assumption⟩ | with_reducible exact ⟨Lib.cell?_alloc_some _ (by with_reducible assumption), Lib.cell?_alloc_some _ (by with_reducible assumption), Lib.cell?_alloc_some _ (by with_reducible assumption), Lib.cell?_alloc_some _ (by with_reducible assumption), Lib.cell?_alloc_some _ (by with_reducible assumption), Lib.cell?_alloc_some _ (by with_reducible assumption)⟩ | with_reducible exact ⟨Lib.cell?_alloc_some _ (Lib.cell?_alloc_some _ (by with_reducible assumption)), Lib.cell?_alloc_some _ (Lib.cell?_alloc_some _ (by with_reducible assumption)), Lib.cell?_alloc_some _ (Lib.cell?_alloc_some _ (by with_reducible assumption)), Lib.cell?_alloc_some _ (Lib.cell?_alloc_some _ (by with_reducible assumption)), Lib.cell?_alloc_some _ (Lib.cell?_alloc_some _ (by with_reducible assumption)), Lib.cell?_alloc_some _ (Lib.cell?_alloc_some _ (by with_reducible assumption))⟩ | with_reducible exact ⟨put5_cell hne1 (by with_reducible assumption), put5_cell hne2 (by with_reducible assumption), put5_cell hne2 (by with_reducible assumption), put5_cell hne2 (by with_reducible assumption), put5_cell hne2 (by with_reducible assumption), put5_cell hne2 (by with_reducible assumption)⟩ | go_keep)
        (first
          | (go_at_call 47; refine (concat3d w3 HB0.out HZ0.out HFR.out HR.out HK.out HX.out (by simp; omega)).mono ?_; rintro e w4 ⟨v4, xs, rfl, ho4, hc4, hb4', hz4⟩; have hz4' : w3.heap.size + 2 ≤ w4.heap.size := hz4; clear hz4; obtain ⟨N, hN⟩ : ∃ N, N = (List.take p m ++ [(key, tx)] ++ List.drop (p + 1) m).length := ⟨_, rfl⟩; rw [← hN] at ho4; have HN := Lib.hid hN; clear hN; have hb4 : Below w3.heap.size w3 w4 := hb4'; clear hb4'; obtain ⟨va, vc, rfl, -⟩ := ownsRow_slice ho4; have HO4 := Lib.hid ho4; have HC4 := Lib.hid hc4; clear ho4 hc4; obtain ⟨-, -, -, -, k0⟩ := c5of (box_keep HV1.out hb4 (by omega)); obtain ⟨k1, k2, k3, k4, k5⟩ := c5of (box_keep HV2.out hb4 (by omega)))
          | (go_at_call 38; refine (mapOf_any _ _ _ _).mono ?_; rintro e w5 ⟨rfl, hq⟩; have hb5 : Below w3.heap.size w3 w5 := hb4.trans (hq.mono hb4.size); have hz5' : w4.heap.size ≤ w5.heap.size := hq.size; have HO5 := Lib.hid (ownsRow_keep HO4.out hq); have HC5 := Lib.hid (HC4.out.keep (hq.mono (Nat.le_trans HZ0.out hb4.size))); clear hq; have hv5 := box_keep HV3.out hb5 (by omega); have HV5 := Lib.hid hv5; obtain ⟨r0, r1, r2, r3, r4⟩ := c5of hv5; have f0 : w5.frozen? ⟨w.heap.size + 1 + 1, 0, none⟩ = false := (by simp [World.frozen?, hv5]); have f1 : w5.frozen? ⟨w.heap.size + 1 + 1, 1, none⟩ = false := (by simp [World.frozen?, hv5]); have f2 : w5.frozen? ⟨w.heap.size + 1 + 1, 2, none⟩ = false := (by simp [World.frozen?, hv5]); have f3 : w5.frozen? ⟨w.heap.size + 1 + 1, 3, none⟩ = false := (by simp [World.frozen?, hv5]); have f4 : w5.frozen? ⟨w.heap.size + 1 + 1, 4, none⟩ = false := (by simp [World.frozen?, hv5]); clear hv5; obtain ⟨-, -, -, -, l0⟩ := c5of (box_keep HV1.out hb5 (by omega)); obtain ⟨l1, l2, l3, l4, l5⟩ := c5of (box_keep HV2.out hb5 (by omega))))
      go_wp2
      have hp5 := put5 (.int .i64 5) (.int .i64 0) (.string ⟨#[]⟩) (.slice none 0 0) (.slice va N vc) HV5.out
      have hpb := put5_below (.int .i64 5) (.int .i64 0) (.string ⟨#[]⟩) (.slice none 0 0) (.slice va N vc) (HB3.out.trans (hb5.mono HB3.out.size)) (b := w.heap.size + 1 + 1) (by omega)
      have HC9 := Lib.hid (HC5.out.keep (put5_below (.int .i64 5) (.int .i64 0) (.string ⟨#[]⟩) (.slice none 0 0) (.slice va N vc) (Below.refl n₀ w5) (b := w.heap.size + 1 + 1) (by have := HZ.out; omega)))
      have HO9 := Lib.hid (ownsRow_set (b := w.heap.size + 1 + 1) (i := 4) (u := .slice va N vc) (ownsRow_set (b := w.heap.size + 1 + 1) (i := 3) (u := .slice none 0 0) (ownsRow_set (b := w.heap.size + 1 + 1) (i := 2) (u := .string ⟨#[]⟩) (ownsRow_set (b := w.heap.size + 1 + 1) (i := 1) (u := .int .i64 0) (ownsRow_set (b := w.heap.size + 1 + 1) (i := 0) (u := .int .i64 5) HO5.out (by omega)) (by omega)) (by omega)) (by omega)) (by omega))
      generalize ((((w5.setCell _ _).setCell _ _).setCell _ _).setCell _ _).setCell _ _ = W9 at hp5 hpb HC9 HO9 ⊢
      obtain ⟨q0, q1, q2, q3, q4⟩ := c5of hp5
      refine bodyPost_ret (v := .agg #[.int .i64 5, .int .i64 0, .string ⟨#[]⟩, .slice none 0 0, .slice va N vc]) (by simp [results, Try.results22, go_sem, q0, q1, q2, q3, q4]) rfl ?_
      exact ⟨_, _, rfl, HSQ.out, HC9.out.map HO9.out (Nat.le_trans HZ.out hpb.size) (by simp; omega), hpb⟩
    · have HR := Lib.hid (HM.out.behind2 (p := p) (by omega) hc HCM.out)
      go_wp2_with fail
      go_region_held3 (fun x => x.cell? ⟨w.heap.size, 4, none⟩ = some (.slice am m.length cap) ∧ x.cell? ⟨w.heap.size + 1, 0, none⟩ = some x0 ∧ x.cell? ⟨w.heap.size + 1, 1, none⟩ = some x1 ∧ x.cell? ⟨w.heap.size + 1, 2, none⟩ = some x2 ∧ x.cell? ⟨w.heap.size + 1, 3, none⟩ = some x3 ∧ x.cell? ⟨w.heap.size + 1, 4, none⟩ = some x4)
        (first | with_reducible exact ⟨HYD.out.1, HYD.out.2.1, HYD.out.2.2.1, HYD.out.2.2.2.1, HYD.out.2.2.2.2.1, HYD.out.2.2.2.2.2⟩ | with_reducible exact ⟨y4, z0, z1, z2, z3, z4⟩ | with_reducible exact ⟨by with_reducible assumption, by with_reducible assumption, by with_reducible assumption, by with_reducible assumption, by with_reducible assumption, by with_reducible assumption⟩ | with_reducible exact ⟨Lib.cell?_alloc_some _ (by with_reducible assumption), Lib.cell?_alloc_some _ (by with_reducible assumption), Lib.cell?_alloc_some _ (by with_reducible assumption), Lib.cell?_alloc_some _ (by with_reducible assumption), Lib.cell?_alloc_some _ (by with_reducible assumption), Lib.cell?_alloc_some _ (by with_reducible assumption)⟩ | with_reducible exact ⟨Lib.cell?_alloc_some _ (Lib.cell?_alloc_some _ (by with_reducible assumption)), Lib.cell?_alloc_some _ (Lib.cell?_alloc_some _ (by with_reducible assumption)), Lib.cell?_alloc_some _ (Lib.cell?_alloc_some _ (by with_reducible assumption)), Lib.cell?_alloc_some _ (Lib.cell?_alloc_some _ (by with_reducible assumption)), Lib.cell?_alloc_some _ (Lib.cell?_alloc_some _ (by with_reducible assumption)), Lib.cell?_alloc_some _ (Lib.cell?_alloc_some _ (by with_reducible assumption))⟩ | with_reducible exact ⟨put5_cell hne1 (by with_reducible assumption), put5_cell hne2 (by with_reducible assumption), put5_cell hne2 (by with_reducible assumption), put5_cell hne2 (by with_reducible assumption), put5_cell hne2 (by with_reducible assumption), put5_cell hne2 (by with_reducible assumption)⟩ | go_keep)
        (first
          | (go_at_call 47; refine (concat3d w3 HB0.out HZ0.out HFR.out HR.out HK.out HX.out (by simp; omega)).mono ?_; rintro e w4 ⟨v4, xs, rfl, ho4, hc4, hb4', hz4⟩; have hz4' : w3.heap.size + 2 ≤ w4.heap.size := hz4; clear hz4; obtain ⟨N, hN⟩ : ∃ N, N = (List.take p m ++ [(key, tx)] ++ List.drop (p + 1) m).length := ⟨_, rfl⟩; rw [← hN] at ho4; have HN := Lib.hid hN; clear hN; have hb4 : Below w3.heap.size w3 w4 := hb4'; clear hb4'; obtain ⟨va, vc, rfl, -⟩ := ownsRow_slice ho4; have HO4 := Lib.hid ho4; have HC4 := Lib.hid hc4; clear ho4 hc4; obtain ⟨-, -, -, -, k0⟩ := c5of (box_keep HV1.out hb4 (by omega)); obtain ⟨k1, k2, k3, k4, k5⟩ := c5of (box_keep HV2.out hb4 (by omega)))
          | (go_at_call 38; refine (mapOf_any _ _ _ _).mono ?_; rintro e w5 ⟨rfl, hq⟩; have hb5 : Below w3.heap.size w3 w5 := hb4.trans (hq.mono hb4.size); have hz5' : w4.heap.size ≤ w5.heap.size := hq.size; have HO5 := Lib.hid (ownsRow_keep HO4.out hq); have HC5 := Lib.hid (HC4.out.keep (hq.mono (Nat.le_trans HZ0.out hb4.size))); clear hq; have hv5 := box_keep HV3.out hb5 (by omega); have HV5 := Lib.hid hv5; obtain ⟨r0, r1, r2, r3, r4⟩ := c5of hv5; have f0 : w5.frozen? ⟨w.heap.size + 1 + 1, 0, none⟩ = false := (by simp [World.frozen?, hv5]); have f1 : w5.frozen? ⟨w.heap.size + 1 + 1, 1, none⟩ = false := (by simp [World.frozen?, hv5]); have f2 : w5.frozen? ⟨w.heap.size + 1 + 1, 2, none⟩ = false := (by simp [World.frozen?, hv5]); have f3 : w5.frozen? ⟨w.heap.size + 1 + 1, 3, none⟩ = false := (by simp [World.frozen?, hv5]); have f4 : w5.frozen? ⟨w.heap.size + 1 + 1, 4, none⟩ = false := (by simp [World.frozen?, hv5]); clear hv5; obtain ⟨-, -, -, -, l0⟩ := c5of (box_keep HV1.out hb5 (by omega)); obtain ⟨l1, l2, l3, l4, l5⟩ := c5of (box_keep HV2.out hb5 (by omega))))
      go_wp2
      have hp5 := put5 (.int .i64 5) (.int .i64 0) (.string ⟨#[]⟩) (.slice none 0 0) (.slice va N vc) HV5.out
      have hpb := put5_below (.int .i64 5) (.int .i64 0) (.string ⟨#[]⟩) (.slice none 0 0) (.slice va N vc) (HB3.out.trans (hb5.mono HB3.out.size)) (b := w.heap.size + 1 + 1) (by omega)
      have HC9 := Lib.hid (HC5.out.keep (put5_below (.int .i64 5) (.int .i64 0) (.string ⟨#[]⟩) (.slice none 0 0) (.slice va N vc) (Below.refl n₀ w5) (b := w.heap.size + 1 + 1) (by have := HZ.out; omega)))
      have HO9 := Lib.hid (ownsRow_set (b := w.heap.size + 1 + 1) (i := 4) (u := .slice va N vc) (ownsRow_set (b := w.heap.size + 1 + 1) (i := 3) (u := .slice none 0 0) (ownsRow_set (b := w.heap.size + 1 + 1) (i := 2) (u := .string ⟨#[]⟩) (ownsRow_set (b := w.heap.size + 1 + 1) (i := 1) (u := .int .i64 0) (ownsRow_set (b := w.heap.size + 1 + 1) (i := 0) (u := .int .i64 5) HO5.out (by omega)) (by omega)) (by omega)) (by omega)) (by omega))
      generalize ((((w5.setCell _ _).setCell _ _).setCell _ _).setCell _ _).setCell _ _ = W9 at hp5 hpb HC9 HO9 ⊢
      obtain ⟨q0, q1, q2, q3, q4⟩ := c5of hp5
      refine bodyPost_ret (v := .agg #[.int .i64 5, .int .i64 0, .string ⟨#[]⟩, .slice none 0 0, .slice va N vc]) (by simp [results, Try.results22, go_sem, q0, q1, q2, q3, q4]) rfl ?_
      exact ⟨_, _, rfl, HSQ.out, HC9.out.map HO9.out (Nat.le_trans HZ.out hpb.size) (by simp; omega), hpb⟩

set_option maxRecDepth 100000 in
set_option maxHeartbeats 1000000 in
theorem set_other {n₀ : Nat} {w0 : World} {t : VT} {v : Value} (h : VAt n₀ w0 t v) (h5 : t.k ≠ 5) (key : ByteArray) {tx : VT} {vx : Value} (hx : VAt n₀ w0 tx vx) (w : World) :
    Calls Try.prog 22 #[v, .string key, vx] w fun e w' => e = .returned v ∧ Below w.heap.size w w' := by
  obtain ⟨x0, x1, x2, x3, x4, rfl⟩ := vAt_agg hx
  cases h with
  | @mk k n s l m sl sm cl cm hk hn hs hl hm hL hK hM =>
    obtain ⟨al, pl, rfl, -⟩ := hl.form
    obtain ⟨am, pm, rfl, -⟩ := hm.form
    have hkb : (k != 5) = true := by simpa [VT.k] using h5
    clear hk hn hs hl hm hL hK hM hx h5
    go_enter Try.func22, Try.ntmps22
    go_wp2
    refine bodyPost_ret (v := .agg #[.int .i64 k, .int .i64 n, .string s, .slice al l.length pl, .slice am m.length pm]) (by simp [results, Try.results22, go_sem]) rfl ?_
    refine ⟨rfl, ?_⟩
    exact (((Below.refl _ w).alloc (Nat.le_refl _) _).alloc (by simp) _).alloc (by simp; omega) _

/-- What Set makes of a value. -/
def SetV (t : VT) (key : ByteArray) (x u : VT) : Prop := (t.k = 5 ∧ ∃ L, IsMap (t.m ++ [(key, x)]) L ∧ u = .mk 5 0 ⟨#[]⟩ [] L) ∨ (t.k ≠ 5 ∧ u = t)
theorem SetV.unique {t x u u' : VT} {key : ByteArray} (h : SetV t key x u) (h' : SetV t key x u') : u = u' := by
  rcases h with ⟨h1, L, h2, rfl⟩ | ⟨h1, rfl⟩
  · rcases h' with ⟨_, L', h3, rfl⟩ | ⟨h3, _⟩
    · rw [h2.unique h3]
    · exact absurd h1 h3
  · rcases h' with ⟨h3, _⟩ | ⟨_, rfl⟩
    · exact absurd h3 h1
    · rfl
theorem set_any {n₀ : Nat} {w0 : World} {t : VT} {v : Value} (h : VAt n₀ w0 t v) (hA : t.k = 5 → Asc t.m) (hm : t.m.length ≤ 800000) (key : ByteArray) (hk : key.size ≤ sMax) {tx : VT} {vx : Value} (hx : VAt n₀ w0 tx vx) (w : World) (hw : Below n₀ w0 w) (hz : n₀ ≤ w.heap.size) :
    Calls Try.prog 22 #[v, .string key, vx] w fun e w' => ∃ y u, e = .returned y ∧ SetV t key tx u ∧ VAt w'.heap.size w' u y ∧ Below w.heap.size w w' := by
  by_cases h5 : t.k = 5
  · obtain ⟨k, n, s, l, m⟩ := t
    obtain rfl : k = 5 := h5
    refine (set_map h (hA rfl) hm key hk hx w hw hz).mono ?_
    rintro e w' ⟨y, L, he, hL, hy, hb⟩
    exact ⟨y, _, he, .inl ⟨rfl, L, hL, rfl⟩, hy, hb⟩
  · refine (set_other h h5 key hx w).mono ?_
    rintro e w' ⟨he, hb⟩
    exact ⟨v, t, he, .inr ⟨h5, rfl⟩, ((h.keep hw).mono hz |>.keep hb).mono hb.size, hb⟩
end Go.Proofs.Ythcphfpkinfjoaa
