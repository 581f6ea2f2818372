/-
  Package value's iterator within: the values in a value, in their order, for whatever loop body.
  The document's own answer: how deep lists and maps are nested in a value.
  Package value's Depth: how deep lists and maps are nested.
  Conditions: none.
-/
import Derived.Test.YthcphfpkinfjoaaValA
import Derived.RangeFuncNested
import Derived.RangeFuncBound
import Derived.RangeFuncCalls
import Derived.RangeFuncLeaves
import Derived.Shelf.Abstract
import Derived.Shelf.RegionOpen
import Derived.OwnWalkIn
import Derived.TacticsInMore
import Derived.LoopNIn
import Derived.LoopIn
import Derived.Deep.LoopGhost
import Derived.BigQuiet
import Derived.Deep.RegionHeld3
namespace Go.Proofs.Ythcphfpkinfjoaa
open Go.RowKit Go.Shelf
attribute [local go_sem] Oper.semAt_some

/-- What a round keeps: all below n₀, and one block. -/
def KpB (B n₀ : Nat) (W W' : World) : Prop := Below n₀ W W' ∧ W'.heap[B]? = W.heap[B]?
theorem KpB.t {B n₀ : Nat} {X Y Z : World} (h : KpB B n₀ X Y) (k : KpB B n₀ Y Z) : KpB B n₀ X Z := ⟨h.1.trans k.1, k.2.trans h.2⟩
theorem KpB.b {B n₀ : Nat} {w : World} (hn : n₀ ≤ w.heap.size) (hB : B < w.heap.size) (W : World) (l : Nat) (o o' : Obj) (hl : w.heap.size ≤ l) (h : W.heap[l]? = some o) (h1 : o.isCells = false) (h2 : o.isWalk = false) : KpB B n₀ W (W.putObj l o') :=
  ⟨belowK_b hn W l o o' hl h h1 h2, (grownBy_putObj' W l o').block B (by have := (Array.getElem?_eq_some_iff.1 h).1; omega) (by intro e; cases e; omega)⟩
theorem KpB.refl (B n₀ : Nat) (W : World) : KpB B n₀ W W := ⟨Below.refl _ _, rfl⟩
theorem KpB.cell {B n₀ : Nat} {W W' : World} (h : KpB B n₀ W W') (i : Nat) : W'.cell? ⟨B, i, none⟩ = W.cell? ⟨B, i, none⟩ := World.cell?_of_block (w := W) h.2

theorem within_any (v : Value) (c0 c1 c2 c3 c4 : Value) (hv : v = .agg #[c0, c1, c2, c3, c4]) (w : World) :
    Calls Try.prog 42 #[v] w fun e w' => e = .returned (.func (.func 66) #[] #[.pointer (some ⟨w.heap.size, 0, none⟩)]) ∧ w' = w.alloc (.cells #[c0, c1, c2, c3, c4] 26) := by
  subst hv
  go_enter Try.func42, Try.ntmps42
  go_wp2
  go_ret
  exact ⟨rfl, rfl⟩

theorem finTake (N k : Nat) (hk : k < N) : (List.finRange N).take (k + 1) = (List.finRange N).take k ++ [⟨k, hk⟩] := by
  rw [List.take_succ_eq_append_getElem (by simpa using hk)]; simp

set_option maxRecDepth 100000 in
set_option maxHeartbeats 2000000 in
theorem within_list (n : Nat) (hn : 1 ≤ n) (Bv n₀ N cap : Nat) (ao : Option Addr) (cl : Nat → Nat → Value) (w : World) (hBv : Bv < w.heap.size) (hn₀ : n₀ ≤ w.heap.size)
    (hc0 : w.cell? ⟨Bv, 0, none⟩ = some (.int .i64 4)) (hc3 : w.cell? ⟨Bv, 3, none⟩ = some (.slice ao N cap)) (hrow : RowAt n₀ w 5 (.slice ao N cap) N cl) (hN : N ≤ 1000000000000000) (hf : ∀ i, i < N → Form5 (cl i) 0) :
    SeqStopsK Fence.wide n Try.prog 66 #[.pointer (some ⟨Bv, 0, none⟩)] (fun x : Fin N => #[Value.agg #[cl x 0, cl x 1, cl x 2, cl x 3, cl x 4]]) (KpB Bv n₀) (fun ys => ys = List.finRange N) (fun pre => pre <+: List.finRange N) N w := fun l J Jx W hW hJ hJx hY h0 => by
  have hc0' := (hW.cell (p := ⟨Bv, 0, none⟩) hBv).trans hc0
  have hc3' := (hW.cell (p := ⟨Bv, 3, none⟩) hBv).trans hc3
  have HR := Lib.hid (hrow.below (hW.mono hn₀))
  have HZ := Lib.hid hW.size
  clear hrow hc0 hc3
  refine callsIn_of_wp Try.func66 rfl trivial ?_ rfl
  simp only [Try.ntmps66, List.size_toArray, List.length_cons, List.length_nil, Nat.reduceAdd, Nat.reduceSub, Array.replicate_succ, Array.replicate_zero, List.push_toArray, List.append_toArray, List.nil_append, List.cons_append]
  gi_wp2
  gi_loopw [13] (fun i wr => ∃ k : Nat, k ≤ N ∧ i = .int .i64 k ∧ J ((List.finRange N).take k) wr ∧ KpB Bv n₀ W wr ∧ W.heap.size ≤ wr.heap.size) (fun i _ => N - (intOf i).toNat)
  case atStart => exact ⟨0, Nat.zero_le _, rfl, h0, KpB.refl _ _ _, Nat.le_refl _⟩
  case round =>
    obtain ⟨k, hk, rfl, hJs, hkp, hsz⟩ := hrel
    by_cases hlt : k < N
    · obtain ⟨b, off, rfl, hbn, c0, c1, c2, c3, c4⟩ := (HR.out.below hkp.1).at5 hlt
      obtain ⟨kk, nn, ss, a1, l1, p1, a2, l2, p2, e0, e1, e2, e3, e4⟩ := hf k hlt
      simp only [Nat.zero_add] at e0 e1 e2 e3 e4
      rw [e0] at c0; rw [e1] at c1; rw [e2] at c2; rw [e3] at c3; rw [e4] at c4
      have hJa : J ((List.finRange N).take k) (wr.alloc (.cells #[.int .i64 kk, .int .i64 nn, .string ss, .slice a1 l1 p1, .slice a2 l2 p2] 26)) := hJ _ _ _ none hJs (World.grownBy_alloc _ _ none) (fun r e => by cases e)
      obtain ⟨fn, tmps, assign, body, hy, hR⟩ := hY _ ⟨k, hlt⟩ _ hJa (by simp; omega)
      dsimp only at hy
      rw [e0, e1, e2, e3, e4] at hy
      have HJ := Lib.hid hJ
      have HJX := Lib.hid hJx
      have HKP := Lib.hid hkp
      have HY := Lib.hid hY
      clear e0 e1 e2 e3 e4 hf hJ hkp hY hJx hJa
      gi_wp2
      refine hR.mono ?_
      rintro e W3 (⟨rfl, hJ3, hk3⟩ | ⟨rfl, hJx3⟩)
      · rw [← finTake N k hlt] at hJ3
        have hk4 : KpB Bv n₀ W W3 := HKP.out.t (KpB.t ⟨(Below.refl n₀ wr).alloc (by have := HZ.out; omega) _, Below.heap_alloc _ _ _ (by have := HZ.out; omega)⟩ hk3)
        have hsz3 : W.heap.size ≤ W3.heap.size := by have := hk3.1.size; simp at this; omega
        have HK4 := Lib.hid hk4
        clear hk3 hk4
        gi_wp2
        go_roundw
        case rel => exact ⟨k + 1, by omega, by go_num, hJ3, HK4.out, hsz3⟩
        case measure => simp [intOf]; omega
      · rw [← finTake N k hlt] at hJx3
        gi_wp2
        refine bodyPost_ret (results_none rfl _ _ _) rfl ?_
        exact ⟨⟨_, rfl⟩, .inr ⟨_, List.take_prefix _ _, hJx3⟩⟩
    · obtain rfl : k = N := by omega
      rw [List.take_of_length_le (by simp)] at hJs
      have hc9 : wr.cell? ⟨Bv, 0, none⟩ = some (.int .i64 4) := (hkp.cell 0).trans hc0'
      gi_wp2
      go_end0
      exact ⟨⟨_, rfl⟩, .inl ⟨_, rfl, hJs⟩⟩
set_option maxRecDepth 100000 in
set_option maxHeartbeats 2000000 in
theorem within_map (n : Nat) (hn : 1 ≤ n) (Bv n₀ N cap : Nat) (ao : Option Addr) (cl : Nat → Nat → Value) (w : World) (hBv : Bv < w.heap.size) (hn₀ : n₀ ≤ w.heap.size)
    (hc0 : w.cell? ⟨Bv, 0, none⟩ = some (.int .i64 5)) (hc4 : w.cell? ⟨Bv, 4, none⟩ = some (.slice ao N cap)) (hrow : RowAt n₀ w 6 (.slice ao N cap) N cl) (hN : N ≤ 1000000000000000) (hf : ∀ i, i < N → Form5 (cl i) 1 ∧ ∃ key, cl i 0 = .string key) :
    SeqStopsK Fence.wide n Try.prog 66 #[.pointer (some ⟨Bv, 0, none⟩)] (fun x : Fin N => #[Value.agg #[cl x 1, cl x 2, cl x 3, cl x 4, cl x 5]]) (KpB Bv n₀) (fun ys => ys = List.finRange N) (fun pre => pre <+: List.finRange N) N w := fun l J Jx W hW hJ hJx hY h0 => by
  have hc0' := (hW.cell (p := ⟨Bv, 0, none⟩) hBv).trans hc0
  have hc4' := (hW.cell (p := ⟨Bv, 4, none⟩) hBv).trans hc4
  have HR := Lib.hid (hrow.below (hW.mono hn₀))
  have HZ := Lib.hid hW.size
  clear hrow hc0 hc4
  refine callsIn_of_wp Try.func66 rfl trivial ?_ rfl
  simp only [Try.ntmps66, List.size_toArray, List.length_cons, List.length_nil, Nat.reduceAdd, Nat.reduceSub, Array.replicate_succ, Array.replicate_zero, List.push_toArray, List.append_toArray, List.nil_append, List.cons_append]
  gi_wp2
  gi_loopw [28] (fun i wr => ∃ k : Nat, k ≤ N ∧ i = .int .i64 k ∧ J ((List.finRange N).take k) wr ∧ KpB Bv n₀ W wr ∧ W.heap.size ≤ wr.heap.size) (fun i _ => N - (intOf i).toNat)
  case atStart => exact ⟨0, Nat.zero_le _, rfl, h0, KpB.refl _ _ _, Nat.le_refl _⟩
  case round =>
    obtain ⟨k, hk, rfl, hJs, hkp, hsz⟩ := hrel
    by_cases hlt : k < N
    · obtain ⟨b, off, rfl, hbn, c0, c1, c2, c3, c4, c5⟩ := (HR.out.below hkp.1).at6 hlt
      obtain ⟨⟨kk, nn, ss, a1, l1, p1, a2, l2, p2, e0, e1, e2, e3, e4⟩, key, ek⟩ := hf k hlt
      simp only [Nat.reduceAdd] at e0 e1 e2 e3 e4
      rw [ek] at c0; rw [e0] at c1; rw [e1] at c2; rw [e2] at c3; rw [e3] at c4; rw [e4] at c5
      have hJa : J ((List.finRange N).take k) (wr.alloc (.cells #[.string key, .int .i64 kk, .int .i64 nn, .string ss, .slice a1 l1 p1, .slice a2 l2 p2] 28)) := hJ _ _ _ none hJs (World.grownBy_alloc _ _ none) (fun r e => by cases e)
      obtain ⟨fn, tmps, assign, body, hy, hR⟩ := hY _ ⟨k, hlt⟩ _ hJa (by simp; omega)
      dsimp only at hy
      rw [e0, e1, e2, e3, e4] at hy
      have HJ := Lib.hid hJ
      have HJX := Lib.hid hJx
      have HKP := Lib.hid hkp
      have HY := Lib.hid hY
      clear ek e0 e1 e2 e3 e4 hf hJ hkp hY hJx hJa
      gi_wp2
      refine hR.mono ?_
      rintro e W3 (⟨rfl, hJ3, hk3⟩ | ⟨rfl, hJx3⟩)
      · rw [← finTake N k hlt] at hJ3
        have hk4 : KpB Bv n₀ W W3 := HKP.out.t (KpB.t ⟨(Below.refl n₀ wr).alloc (by have := HZ.out; omega) _, Below.heap_alloc _ _ _ (by have := HZ.out; omega)⟩ hk3)
        have hsz3 : W.heap.size ≤ W3.heap.size := by have := hk3.1.size; simp at this; omega
        have HK4 := Lib.hid hk4
        clear hk3 hk4
        gi_wp2
        go_roundw
        case rel => exact ⟨k + 1, by omega, by go_num, hJ3, HK4.out, hsz3⟩
        case measure => simp [intOf]; omega
      · rw [← finTake N k hlt] at hJx3
        gi_wp2
        refine bodyPost_ret (results_none rfl _ _ _) rfl ?_
        exact ⟨⟨_, rfl⟩, .inr ⟨_, List.take_prefix _ _, hJx3⟩⟩
    · obtain rfl : k = N := by omega
      rw [List.take_of_length_le (by simp)] at hJs
      have hc9 : wr.cell? ⟨Bv, 0, none⟩ = some (.int .i64 5) := (hkp.cell 0).trans hc0'
      gi_wp2
      go_end0
      exact ⟨⟨_, rfl⟩, .inl ⟨_, rfl, hJs⟩⟩
set_option maxRecDepth 100000 in
set_option maxHeartbeats 2000000 in
theorem within_none (n : Nat) (_ : 1 ≤ n) (Bv n₀ : Nat) (k : Int) (h4 : (k == 4) = false) (h5 : (k == 5) = false) (enc : Fin 0 → Array Value) (w : World) (hBv : Bv < w.heap.size)
    (hc0 : w.cell? ⟨Bv, 0, none⟩ = some (.int .i64 k)) :
    SeqStopsK Fence.wide n Try.prog 66 #[.pointer (some ⟨Bv, 0, none⟩)] enc (KpB Bv n₀) (fun ys => ys = []) (fun _ => False) 0 w := fun l J Jx W hW hJ hJx hY h0 => by
  have hc0' := (hW.cell (p := ⟨Bv, 0, none⟩) hBv).trans hc0
  clear hc0 hJ hJx hY
  refine callsIn_of_wp Try.func66 rfl trivial ?_ rfl
  simp only [Try.ntmps66, List.size_toArray, List.length_cons, List.length_nil, Nat.reduceAdd, Nat.reduceSub, Array.replicate_succ, Array.replicate_zero, List.push_toArray, List.append_toArray, List.nil_append, List.cons_append]
  gi_wp2
  go_end0
  exact ⟨⟨_, rfl⟩, .inl ⟨_, rfl, h0⟩⟩

end Go.Proofs.Ythcphfpkinfjoaa

namespace Go.Proofs.Ythcphfpkinfjoaa
open Go.RowKit

theorem dep_k (k n : Int) (s : ByteArray) (l : List VT) (m : List (ByteArray × VT)) (h4 : k ≠ 4) (h5 : k ≠ 5) : dep (.mk k n s l m) = 0 := by
  rw [dep, if_neg h4, if_neg h5]
theorem max_cast (a b : Nat) : max (a : Int) (b : Int) = ((max a b : Nat) : Int) := by omega

set_option maxHeartbeats 1000000 in
theorem rdepth_any {n₀ : Nat} {w0 : World} {t : VT} {v : Value} (h : VAt n₀ w0 t v) (hbig : dep t ≤ 1000000) : ∀ (w : World) (_ : Below n₀ w0 w) (_ : n₀ ≤ w.heap.size),
    Calls Try.prog 101 #[v] w fun e w' => e = .returned (.int .i64 (dep t : Nat)) ∧ Below w.heap.size w w' := by
  induction h with
  | @mk k n s l m sl sm cl cm hk hn hs hl hm hL hK hM ihL ihM =>
    intro w hw hz
    obtain ⟨aol, capl, rfl, hl1, hl2, hl3⟩ := hl.form
    obtain ⟨aom, capm, rfl, hm1, hm2, hm3⟩ := hm.form
    have hll : l.length ≤ 1000000000000000 := by have := sMax_lt; omega
    have hmm : m.length ≤ 1000000000000000 := by have := sMax_lt; omega
    have IHL := Lib.hid ihL
    have IHM := Lib.hid ihM
    have HBG := Lib.hid hbig
    clear hbig hs hk hn hl1 hl2 hl3 hm1 hm2 hm3 ihL ihM hL hM hK
    go_enter Try.func101, Try.ntmps101
    go_wp2_with fail
    · have hk4 : k = 4 := by simpa using ‹(k == 4) = true›
      have hd : dep (.mk k n s l m) = 1 + depL l := by rw [dep, if_pos hk4]
      have HDE := Lib.hid hd
      clear hd
      generalize hW0 : w.alloc _ = W0
      have hb : W0.cell? ⟨w.heap.size, 3, none⟩ = some (.slice aol l.length capl) := by subst hW0; simp
      have hw0 : Below w.heap.size w W0 := by subst hW0; exact (Below.refl _ w).alloc (Nat.le_refl _) _
      have hz0 : W0.heap.size = w.heap.size + 1 := by subst hW0; simp
      clear hW0
      have HBW := Lib.hid hw
      have HZ := Lib.hid (And.intro hz hz0)
      have HW0 := Lib.hid hw0
      have HRL := Lib.hid hl
      clear hw hz hw0 hl hm hz0
      go_loopw [3, 4] (fun dv iv wr => ∃ j : Nat, j ≤ l.length ∧ iv = .int .i64 j ∧ dv = .int .i64 (depL (l.take j) : Nat) ∧ Below W0.heap.size W0 wr) (fun _ i _ => l.length - (intOf i).toNat)
      case atStart => exact ⟨0, by omega, rfl, rfl, Below.refl _ _⟩
      case round =>
        obtain ⟨j, hj, rfl, rfl, hbr⟩ := hrel
        have hc3 : wr.cell? ⟨w.heap.size, 3, none⟩ = some (.slice aol l.length capl) := by rw [hbr.cell (by show w.heap.size < _; have := HZ.out; omega)]; exact hb
        have HBR := Lib.hid hbr
        have hdl := depL_take l j
        have HDL := Lib.hid hdl
        generalize hdd : depL (l.take j) = dd at HDL
        have HDD := Lib.hid hdd
        clear hdd hdl hbr hb
        by_cases hA1 : j < l.length
        · have hB0 : Below n₀ w0 wr := (HBW.out.trans (HW0.out.mono HZ.out.1)).trans (HBR.out.mono (by have := HZ.out; omega))
          obtain ⟨b, off, rfl, hbn, c0, c1, c2, c3, c4⟩ := (HRL.out.below hB0).at5 hA1
          have HB0 := Lib.hid hB0
          clear hB0
          go_wp2_with fail
          refine (IHL.out j hA1 (by have := depL_mem l j hA1; have := HBG.out; have := HDE.out; omega) _ HB0.out (by have := HZ.out; have := HBR.out.size; omega)).mono ?_
          rintro e w' ⟨rfl, hb'⟩
          go_wp2_with fail
          all_goals
            go_roundw
            case measure => simp [intOf]; omega
            case rel =>
              have hst := depL_step l j hA1
              rw [HDD.out] at hst
              exact ⟨j + 1, by omega, by go_num, by rw [hst]; first | rw [Nat.max_eq_right (by omega)] | rw [Nat.max_eq_left (by omega)], HBR.out.trans (hb'.mono HBR.out.size)⟩
        · have hfull : dd = depL l := by rw [← HDD.out, List.take_of_length_le (by omega)]
          have HFU := Lib.hid hfull
          have hdd9 : dd ≤ 1000000 := by have := HBG.out; have := HDE.out; omega
          clear hfull
          go_wp2
          go_ret
          exact ⟨by rw [HDE.out, ← HFU.out]; go_num, HW0.out.trans (HBR.out.mono HW0.out.size)⟩
    · have hk4 : k ≠ 4 := by simpa using ‹(k == 4) = false›
      have hk5 : k = 5 := by simpa using ‹(k == 5) = true›
      have hd : dep (.mk k n s l m) = 1 + depM m := by rw [dep, if_neg hk4, if_pos hk5]
      have HDE := Lib.hid hd
      clear hd
      generalize hW0 : w.alloc _ = W0
      have hb : W0.cell? ⟨w.heap.size, 4, none⟩ = some (.slice aom m.length capm) := by subst hW0; simp
      have hw0 : Below w.heap.size w W0 := by subst hW0; exact (Below.refl _ w).alloc (Nat.le_refl _) _
      have hz0 : W0.heap.size = w.heap.size + 1 := by subst hW0; simp
      clear hW0
      have HBW := Lib.hid hw
      have HZ := Lib.hid (And.intro hz hz0)
      have HW0 := Lib.hid hw0
      have HRL := Lib.hid hm
      clear hw hz hw0 hl hm hz0
      go_loopw [3, 5] (fun dv iv wr => ∃ j : Nat, j ≤ m.length ∧ iv = .int .i64 j ∧ dv = .int .i64 (depM (m.take j) : Nat) ∧ Below W0.heap.size W0 wr) (fun _ i _ => m.length - (intOf i).toNat)
      case atStart => exact ⟨0, by omega, rfl, rfl, Below.refl _ _⟩
      case round =>
        obtain ⟨j, hj, rfl, rfl, hbr⟩ := hrel
        have hc3 : wr.cell? ⟨w.heap.size, 4, none⟩ = some (.slice aom m.length capm) := by rw [hbr.cell (by show w.heap.size < _; have := HZ.out; omega)]; exact hb
        have HBR := Lib.hid hbr
        have hdl := depM_take m j
        have HDL := Lib.hid hdl
        generalize hdd : depM (m.take j) = dd at HDL
        have HDD := Lib.hid hdd
        clear hdd hdl hbr hb
        by_cases hA1 : j < m.length
        · have hB0 : Below n₀ w0 wr := (HBW.out.trans (HW0.out.mono HZ.out.1)).trans (HBR.out.mono (by have := HZ.out; omega))
          obtain ⟨b, off, rfl, hbn, c0, c1, c2, c3, c4, c5⟩ := (HRL.out.below hB0).at6 hA1
          have HB0 := Lib.hid hB0
          clear hB0
          go_wp2_with fail
          refine (IHM.out j hA1 (by have := depM_mem m j hA1; have := HBG.out; have := HDE.out; omega) _ HB0.out (by have := HZ.out; have := HBR.out.size; omega)).mono ?_
          rintro e w' ⟨rfl, hb'⟩
          go_wp2_with fail
          all_goals
            go_roundw
            case measure => simp [intOf]; omega
            case rel =>
              have hst := depM_step m j hA1
              rw [HDD.out] at hst
              exact ⟨j + 1, by omega, by go_num, by rw [hst]; first | rw [Nat.max_eq_right (by omega)] | rw [Nat.max_eq_left (by omega)], HBR.out.trans (hb'.mono HBR.out.size)⟩
        · have hfull : dd = depM m := by rw [← HDD.out, List.take_of_length_le (by omega)]
          have HFU := Lib.hid hfull
          have hdd9 : dd ≤ 1000000 := by have := HBG.out; have := HDE.out; omega
          clear hfull
          go_wp2
          go_ret
          exact ⟨by rw [HDE.out, ← HFU.out]; go_num, HW0.out.trans (HBR.out.mono HW0.out.size)⟩
    · have hk4 : k ≠ 4 := by simpa using ‹(k == 4) = false›
      have hk5 : k ≠ 5 := by simpa using ‹(k == 5) = false›
      go_ret
      exact ⟨by rw [dep_k _ _ _ _ _ hk4 hk5]; rfl, (Below.refl _ w).alloc (Nat.le_refl _) _⟩
end Go.Proofs.Ythcphfpkinfjoaa

namespace Go.Proofs.Ythcphfpkinfjoaa
open Go.RowKit Go.Shelf
attribute [local go_sem] Oper.semAt_some

theorem nests_any (k : Int) (c1 c2 c3 c4 : Value) (w : World) (r : Bool) (hr : (k == 4 || k == 5) = r) :
    Calls Try.prog 41 #[.agg #[.int .i64 k, c1, c2, c3, c4]] w fun e w' => e = .returned (.bool r) ∧ w' = w.alloc (.cells #[.int .i64 k, c1, c2, c3, c4] 26) := by
  by_cases h4 : k = 4
  · subst h4
    simp at hr
    subst hr
    go_enter Try.func41, Try.ntmps41
    go_wp2
    go_ret
    exact ⟨rfl, rfl⟩
  · have h4' : (k == 4) = false := by simpa using h4
    rw [h4', Bool.false_or] at hr
    subst hr
    clear h4
    go_enter Try.func41, Try.ntmps41
    go_wp2
    go_ret
    exact ⟨rfl, rfl⟩

theorem keepsFrom_below {B : Nat} {W W' : World} (hb : Below W.heap.size W W') : KeepsFrom B W W' :=
  ⟨hb.size, fun k _ _ hk _ => (hb.block k (Array.getElem?_eq_some_iff.1 hk).1).trans hk⟩
theorem boxed_below {B : Nat} {W W' : World} {t : TypeId} {v : Value} (h : Boxed W B t v) (hb : Below W.heap.size W W') : Boxed W' B t v := (hb.block B h.lt).trans h
/-- A round that calls and then stores into one box. -/
theorem round_store {W w' w : World} {B n₀ b2 b3 k : Nat} {t : TypeId} {u v : Value} (hb : Below W.heap.size W w') (hB1 : Below k w W) (hS : Boxed W b2 t u) (hk : k ≤ b2) (hkW : k ≤ W.heap.size) (hn : n₀ ≤ b2) (hn' : n₀ ≤ W.heap.size) (h3 : b3 < W.heap.size) (h23 : b3 ≠ b2) :
    KeepsFrom B W (w'.setCell ⟨b2, 0, none⟩ v) ∧ KpB b3 n₀ W (w'.setCell ⟨b2, 0, none⟩ v) ∧ Boxed (w'.setCell ⟨b2, 0, none⟩ v) b2 t v ∧ Below k w (w'.setCell ⟨b2, 0, none⟩ v) := by
  refine ⟨(keepsFrom_below hb).trans ((KeepsOthers.setCell _ _ _).from _), ⟨(hb.mono hn').setCell (p := ⟨b2, 0, none⟩) hn _, ?_⟩, (boxed_below hS hb).set _, (hB1.trans (hb.mono hkW)).setCell (p := ⟨b2, 0, none⟩) hk _⟩
  rw [Below.heap_setCell _ _ _ _ h23]
  exact hb.block b3 h3

def accD {N : Nat} (f : Fin N → Nat) (pre : List (Fin N)) : Nat := pre.foldl (fun a i => max a (f i)) 0
theorem accD_snoc {N : Nat} (f : Fin N → Nat) (pre : List (Fin N)) (x : Fin N) : accD f (pre ++ [x]) = max (accD f pre) (f x) := by simp [accD]
theorem foldl_max (l : List VT) : ∀ a, (l.map dep).foldl (fun a i => max a i) a = max a (depL l) := by
  induction l with
  | nil => intro a; simp [depL]
  | cons t l ih => intro a; simp only [List.map_cons, List.foldl_cons, ih, depL]; omega
theorem foldl_maxM (l : List (ByteArray × VT)) : ∀ a, (l.map fun x => dep x.2).foldl (fun a i => max a i) a = max a (depM l) := by
  induction l with
  | nil => intro a; simp [depM]
  | cons t l ih => intro a; simp only [List.map_cons, List.foldl_cons, ih, depM]; omega
theorem accD_L (l : List VT) : accD (fun i : Fin l.length => dep l[i.1]) (List.finRange l.length) = depL l := by
  have h := foldl_max l 0
  have e : l.map dep = (List.finRange l.length).map fun i => dep l[i.1] := by
    apply List.ext_getElem <;> simp
  rw [e, List.foldl_map] at h
  unfold accD; rw [h]; omega
theorem accD_M (l : List (ByteArray × VT)) : accD (fun i : Fin l.length => dep l[i.1].2) (List.finRange l.length) = depM l := by
  have h := foldl_maxM l 0
  have e : (l.map fun x => dep x.2) = (List.finRange l.length).map fun i => dep l[i.1].2 := by
    apply List.ext_getElem <;> simp
  rw [e, List.foldl_map] at h
  unfold accD; rw [h]; omega

set_option maxRecDepth 100000 in
set_option maxHeartbeats 2000000 in
theorem depth_any {n₀ : Nat} {w0 : World} {t : VT} {v : Value} (h : VAt n₀ w0 t v) (hbig : dep t ≤ 1000000) : ∀ (w : World) (_ : Below n₀ w0 w) (_ : n₀ ≤ w.heap.size),
    Calls Try.prog 18 #[v] w fun e w' => e = .returned (.int .i64 (dep t : Nat)) ∧ Below w.heap.size w w' := by
  induction h with
  | @mk k n s l m sl sm cl cm hk hn hs hl hm hL hK hM ihL ihM =>
    intro w hw hz
    obtain ⟨aol, capl, rfl, hl1, hl2, hl3⟩ := hl.form
    obtain ⟨aom, capm, rfl, hm1, hm2, hm3⟩ := hm.form
    have hll : l.length ≤ 1000000000000000 := by have := sMax_lt; omega
    have hmm : m.length ≤ 1000000000000000 := by have := sMax_lt; omega
    have IHL := Lib.hid ihL
    have IHM := Lib.hid ihM
    have HBG := Lib.hid hbig
    have HFL := Lib.hid (fun i hi => (hL i hi).form5)
    have HFM := Lib.hid (fun i hi => (hM i hi).form6)
    have HKE := Lib.hid hK
    clear hbig hs hk hn hl1 hl2 hl3 hm1 hm2 hm3 ihL ihM hL hM hK
    refine (callsIn_wide (n := 9)).1 ?_
    refine callsIn_of_wp_marks Try.func18 rfl trivial ?_ rfl
    simp only [Try.ntmps18, List.size_toArray, List.length_cons, List.length_nil, Nat.reduceAdd, Nat.reduceSub, Array.replicate_succ, Array.replicate_zero, List.push_toArray, List.append_toArray, List.nil_append, List.cons_append]
    by_cases hk4 : k = 4
    · subst hk4
      gi_wp2_with (first | (refine ⟨trivial, ?_⟩; gi_at_call 41; refine (callsIn_wide.2 (nests_any _ _ _ _ _ _ true (by decide))).mono ?_; rintro e w' ⟨rfl, rfl⟩) | (refine ⟨trivial, ?_⟩; gi_at_call 42; refine (callsIn_wide.2 (within_any _ _ _ _ _ _ rfl _)).mono ?_; rintro e w' ⟨rfl, rfl⟩))
      have hde : dep (.mk 4 n s l m) = 1 + depL l := by rw [dep]; rfl
      have HDE := Lib.hid hde
      have bS := (Boxed.new ((w.alloc (.cells #[.int .i64 4, .int .i64 n, .string s, .slice aol l.length capl, .slice aom m.length capm] 26)).alloc (.cells #[.int .i64 4, .int .i64 n, .string s, .slice aol l.length capl, .slice aom m.length capm] 26)) 3 (.int .i64 0)).alloc (.cells #[.int .i64 4, .int .i64 n, .string s, .slice aol l.length capl, .slice aom m.length capm] 26)
      have hB0 : Below w.heap.size w ((((w.alloc (.cells #[.int .i64 4, .int .i64 n, .string s, .slice aol l.length capl, .slice aom m.length capm] 26)).alloc (.cells #[.int .i64 4, .int .i64 n, .string s, .slice aol l.length capl, .slice aom m.length capm] 26)).alloc (.cells #[.int .i64 0] 3)).alloc (.cells #[.int .i64 4, .int .i64 n, .string s, .slice aol l.length capl, .slice aom m.length capm] 26)) := ((((Below.refl _ w).alloc (Nat.le_refl _) _).alloc (by simp) _).alloc (by simp; omega) _).alloc (by simp; omega) _
      have hsz : ((((w.alloc (.cells #[.int .i64 4, .int .i64 n, .string s, .slice aol l.length capl, .slice aom m.length capm] 26)).alloc (.cells #[.int .i64 4, .int .i64 n, .string s, .slice aol l.length capl, .slice aom m.length capm] 26)).alloc (.cells #[.int .i64 0] 3)).alloc (.cells #[.int .i64 4, .int .i64 n, .string s, .slice aol l.length capl, .slice aom m.length capm] 26)).heap.size = w.heap.size + 4 := by simp
      have q0 := (fun X : World => (by simp : (X.alloc (.cells #[.int .i64 4, .int .i64 n, .string s, .slice aol l.length capl, .slice aom m.length capm] 26)).cell? ⟨X.heap.size, 0, none⟩ = some (.int .i64 4))) (((w.alloc (.cells #[.int .i64 4, .int .i64 n, .string s, .slice aol l.length capl, .slice aom m.length capm] 26)).alloc (.cells #[.int .i64 4, .int .i64 n, .string s, .slice aol l.length capl, .slice aom m.length capm] 26)).alloc (.cells #[.int .i64 0] 3))
      have q3 := (fun X : World => (by simp : (X.alloc (.cells #[.int .i64 4, .int .i64 n, .string s, .slice aol l.length capl, .slice aom m.length capm] 26)).cell? ⟨X.heap.size, 3, none⟩ = some (.slice aol l.length capl))) (((w.alloc (.cells #[.int .i64 4, .int .i64 n, .string s, .slice aol l.length capl, .slice aom m.length capm] 26)).alloc (.cells #[.int .i64 4, .int .i64 n, .string s, .slice aol l.length capl, .slice aom m.length capm] 26)).alloc (.cells #[.int .i64 0] 3))
      simp only [World.size_alloc] at bS q0 q3
      generalize ((((w.alloc (.cells #[.int .i64 4, .int .i64 n, .string s, .slice aol l.length capl, .slice aom m.length capm] 26)).alloc (.cells #[.int .i64 4, .int .i64 n, .string s, .slice aol l.length capl, .slice aom m.length capm] 26)).alloc (.cells #[.int .i64 0] 3)).alloc (.cells #[.int .i64 4, .int .i64 n, .string s, .slice aol l.length capl, .slice aom m.length capm] 26)) = W0 at bS hB0 hsz q0 q3 ⊢
      have hrow := hl.below (hw.trans (hB0.mono hz))
      have HBW := Lib.hid hw
      clear hde hl hm hw
      refine wpIn_rangeFunc_ownH rfl (by decide) (gf := 66) (lb := #[.pointer (some ⟨w.heap.size + 1 + 1 + 1, 0, none⟩)]) rfl trivial (enters_of Try.func66 (by kernel_rfl) rfl)
        (within_list 8 (by decide) (w.heap.size + 1 + 1 + 1) n₀ l.length capl aol cl W0 (by omega) (by omega) q0 q3 hrow (by omega) (fun i hi => HFL.out i hi)) KpB.t (KpB.b (by omega) (by omega)) (Below.refl _ _) (fun _ => rfl)
        (fun pre W => Boxed W (w.heap.size + 1 + 1) 3 (.int .i64 (accD (fun x : Fin l.length => dep l[x.1]) pre : Nat)) ∧ Below w.heap.size w W ∧ w.heap.size + 4 ≤ W.heap.size)
        (fun _ _ _ => False)
        (OwnFrom.and (Own.from (boxed_own _ _ _) _) (OwnFrom.and (ownFrom_below (Nat.le_refl _) (by omega)) (fun _ _ _ _ hs hg _ => Nat.le_trans hs hg.size)))
        (fun _ _ _ _ _ hs _ _ => hs)
        ⟨bS, hB0, by omega⟩
        (fun x a' W => ∃ Bx, w.heap.size + 1 + 1 + 1 < Bx ∧ W.heap[Bx]? = some (.cells #[cl x 0, cl x 1, cl x 2, cl x 3, cl x 4] 26 (0, 0)) ∧ a' = { tmps := #[.agg #[.int .i64 4, .int .i64 n, .string s, .slice aol l.length capl, .slice aom m.length capm], .pointer (some ⟨w.heap.size, 0, none⟩), .int .i64 0, .pointer (some ⟨w.heap.size + 1 + 1, 0, none⟩), .pointer (some ⟨Bx, 0, none⟩), .agg #[.int .i64 4, .int .i64 n, .string s, .slice aol l.length capl, .slice aom m.length capm], .bool true, .bool false, .agg #[.int .i64 4, .int .i64 n, .string s, .slice aol l.length capl, .slice aom m.length capm], .func (.func 66) #[] #[.pointer (some ⟨w.heap.size + 1 + 1 + 1, 0, none⟩)], .agg #[cl x 0, cl x 1, cl x 2, cl x 3, cl x 4], undef, undef, undef, undef, undef, undef], defers := [] })
        (fun x a' _ X Y row hs hg hr => by
          obtain ⟨Bx, h1, h2, h3⟩ := hs
          exact ⟨Bx, h1, (hg.block Bx (Array.getElem?_eq_some_iff.1 h2).1 (fun e => by obtain ⟨_, o, ho, hc⟩ := hr Bx e.symm; rw [h2] at ho; cases ho; cases hc)).trans h2, h3⟩)
        ?assign ?body ?done ?stop
      case assign =>
        rintro lo pre x W K ⟨bS1, hB1, hs1⟩ hK
        obtain ⟨kk, nn, ss, a1, l1, p1, a2, l2, p2, e0, e1, e2, e3, e4⟩ := HFL.out x x.2
        simp only [Nat.zero_add] at e0 e1 e2 e3 e4
        simp only [e0, e1, e2, e3, e4] at hK ⊢
        gi_wp2
        exact hK _ _ ((KeepsOthers.alloc _ _).from _) ⟨(Below.refl _ W).alloc (by omega) _, Below.heap_alloc _ _ _ (by omega)⟩ ⟨bS1.alloc _, hB1.alloc hB1.size _, by simp; omega⟩ ⟨W.heap.size, by omega, World.alloc_heap_new W _, rfl⟩
      case body =>
        rintro lo pre x a' W hlo ⟨r, hr⟩ ⟨bS1, hB1, hs1⟩ ⟨Bx, hBx, bX, rfl⟩ hlt
        have cS := bS1.cell
        have fS := bS1.frozen
        have hBxs : Bx < W.heap.size := (Array.getElem?_eq_some_iff.1 bX).1
        have x0 : W.cell? ⟨Bx, 0, none⟩ = some (cl x 0) := by simp [World.cell?, bX]
        have x1 : W.cell? ⟨Bx, 1, none⟩ = some (cl x 1) := by simp [World.cell?, bX]
        have x2 : W.cell? ⟨Bx, 2, none⟩ = some (cl x 2) := by simp [World.cell?, bX]
        have x3 : W.cell? ⟨Bx, 3, none⟩ = some (cl x 3) := by simp [World.cell?, bX]
        have x4 : W.cell? ⟨Bx, 4, none⟩ = some (cl x 4) := by simp [World.cell?, bX]
        have HBS := Lib.hid bS1
        have HB1 := Lib.hid hB1
        have hmx : Try.prog.follows .mixedOrders = true := by kernel_rfl
        clear bX bS1 hB1
        have hBn : Below n₀ w0 W := HBW.out.trans (HB1.out.mono hz)
        have HBN := Lib.hid hBn
        have hdx : dep l[x.1] ≤ 1000000 := by
          have h1 : dep l[x.1] ≤ depL l := depL_mem l x x.2
          have := HBG.out; have := HDE.out; omega
        have HDX := Lib.hid hdx
        have IHX := Lib.hid (IHL.out x x.2 hdx)
        generalize hdd : accD (fun x : Fin l.length => dep l[x.1]) pre = dd at cS HBS
        generalize hdy : dep l[x.1] = dx at HDX IHX
        have HDD := Lib.hid hdd
        have HDY := Lib.hid hdy
        have hacc : accD (fun x : Fin l.length => dep l[x.1]) (pre ++ [x]) = max dd dx := by rw [accD_snoc, hdd]; congr 1
        have HACC := Lib.hid hacc
        clear hBn hdx hdd hdy hacc
        by_cases hgt : dd < dx
        · gi_wp2
          gi_region_with_o (refine ⟨trivial, ?_⟩; gi_at_call 18; refine (CallsIn.inRound lo (callsIn_wide.2 (IHX.out _ (by first | exact HBN.out | exact HBN.out.drew) (by simp; omega)))).mono ?_; rintro e w' ⟨rfl, hb0⟩; have hb : Below W.heap.size W w' := (by first | exact hb0 | exact (Below.refl _ W).drew.trans hb0); clear hb0; have cS' : w'.cell? ⟨w.heap.size + 1 + 1, 0, none⟩ = some (.int .i64 (dd : Int)) := (hb.cell (p := ⟨w.heap.size + 1 + 1, 0, none⟩) (show w.heap.size + 1 + 1 < W.heap.size by omega)).trans cS; have fS' : w'.frozen? ⟨w.heap.size + 1 + 1, 0, none⟩ = false := (hb.frozen (p := ⟨w.heap.size + 1 + 1, 0, none⟩) (show w.heap.size + 1 + 1 < W.heap.size by omega)).trans fS)
          all_goals gi_wp2
          all_goals have hR := round_store (B := W0.heap.size) (n₀ := n₀) (b3 := w.heap.size + 1 + 1 + 1) (v := .int .i64 (dx : Int)) hb HB1.out HBS.out (by omega) (by omega) (by omega) (by omega) (by omega) (by omega)
          all_goals exact ⟨hR.1, hR.2.1, by rw [HACC.out, Nat.max_eq_right (by omega)]; exact hR.2.2.1, hR.2.2.2, by have := hb.size; simp; omega⟩
        · gi_wp2
          gi_region_with_o (refine ⟨trivial, ?_⟩; gi_at_call 18; refine (CallsIn.inRound lo (callsIn_wide.2 (IHX.out _ (by first | exact HBN.out | exact HBN.out.drew) (by simp; omega)))).mono ?_; rintro e w' ⟨rfl, hb0⟩; have hb : Below W.heap.size W w' := (by first | exact hb0 | exact (Below.refl _ W).drew.trans hb0); clear hb0; have cS' : w'.cell? ⟨w.heap.size + 1 + 1, 0, none⟩ = some (.int .i64 (dd : Int)) := (hb.cell (p := ⟨w.heap.size + 1 + 1, 0, none⟩) (show w.heap.size + 1 + 1 < W.heap.size by omega)).trans cS; have fS' : w'.frozen? ⟨w.heap.size + 1 + 1, 0, none⟩ = false := (hb.frozen (p := ⟨w.heap.size + 1 + 1, 0, none⟩) (show w.heap.size + 1 + 1 < W.heap.size by omega)).trans fS)
          all_goals gi_wp2
          all_goals have hR := round_store (B := W0.heap.size) (n₀ := n₀) (b3 := w.heap.size + 1 + 1 + 1) (v := .int .i64 (dd : Int)) hb HB1.out HBS.out (by omega) (by omega) (by omega) (by omega) (by omega) (by omega)
          all_goals exact ⟨hR.1, hR.2.1, by rw [HACC.out, Nat.max_eq_left (by omega)]; exact hR.2.2.1, hR.2.2.2, by have := hb.size; simp; omega⟩
      case done =>
        rintro D ys W hD rfl ⟨bS1, hB1, hs1⟩ hK
        have cS := bS1.cell
        rw [accD_L] at cS
        have HDE2 := Lib.hid hK
        have hdb : depL l ≤ 1000000 := by have := HBG.out; have := HDE.out; omega
        gi_wp2
        refine ⟨by simp, .inl ⟨_, _, rfl, run_takeDeferred hK, ?_⟩⟩
        exact ⟨_, results_tmp rfl _ _ _, by rw [HDE.out]; simp, hB1.trans (belowK_b (w := w) (Nat.le_refl _) W D _ _ (by omega) hK rfl rfl)⟩
      case stop =>
        rintro D c pre W _ _ h _
        exact h.elim
    · by_cases hk5 : k = 5
      · subst hk5
        gi_wp2_with (first | (refine ⟨trivial, ?_⟩; gi_at_call 41; refine (callsIn_wide.2 (nests_any _ _ _ _ _ _ true (by decide))).mono ?_; rintro e w' ⟨rfl, rfl⟩) | (refine ⟨trivial, ?_⟩; gi_at_call 42; refine (callsIn_wide.2 (within_any _ _ _ _ _ _ rfl _)).mono ?_; rintro e w' ⟨rfl, rfl⟩))
        have hde : dep (.mk 5 n s l m) = 1 + depM m := by rw [dep]; rfl
        have HDE := Lib.hid hde
        have bS := (Boxed.new ((w.alloc (.cells #[.int .i64 5, .int .i64 n, .string s, .slice aol l.length capl, .slice aom m.length capm] 26)).alloc (.cells #[.int .i64 5, .int .i64 n, .string s, .slice aol l.length capl, .slice aom m.length capm] 26)) 3 (.int .i64 0)).alloc (.cells #[.int .i64 5, .int .i64 n, .string s, .slice aol l.length capl, .slice aom m.length capm] 26)
        have hB0 : Below w.heap.size w ((((w.alloc (.cells #[.int .i64 5, .int .i64 n, .string s, .slice aol l.length capl, .slice aom m.length capm] 26)).alloc (.cells #[.int .i64 5, .int .i64 n, .string s, .slice aol l.length capl, .slice aom m.length capm] 26)).alloc (.cells #[.int .i64 0] 3)).alloc (.cells #[.int .i64 5, .int .i64 n, .string s, .slice aol l.length capl, .slice aom m.length capm] 26)) := ((((Below.refl _ w).alloc (Nat.le_refl _) _).alloc (by simp) _).alloc (by simp; omega) _).alloc (by simp; omega) _
        have hsz : ((((w.alloc (.cells #[.int .i64 5, .int .i64 n, .string s, .slice aol l.length capl, .slice aom m.length capm] 26)).alloc (.cells #[.int .i64 5, .int .i64 n, .string s, .slice aol l.length capl, .slice aom m.length capm] 26)).alloc (.cells #[.int .i64 0] 3)).alloc (.cells #[.int .i64 5, .int .i64 n, .string s, .slice aol l.length capl, .slice aom m.length capm] 26)).heap.size = w.heap.size + 4 := by simp
        have q0 := (fun X : World => (by simp : (X.alloc (.cells #[.int .i64 5, .int .i64 n, .string s, .slice aol l.length capl, .slice aom m.length capm] 26)).cell? ⟨X.heap.size, 0, none⟩ = some (.int .i64 5))) (((w.alloc (.cells #[.int .i64 5, .int .i64 n, .string s, .slice aol l.length capl, .slice aom m.length capm] 26)).alloc (.cells #[.int .i64 5, .int .i64 n, .string s, .slice aol l.length capl, .slice aom m.length capm] 26)).alloc (.cells #[.int .i64 0] 3))
        have q3 := (fun X : World => (by simp : (X.alloc (.cells #[.int .i64 5, .int .i64 n, .string s, .slice aol l.length capl, .slice aom m.length capm] 26)).cell? ⟨X.heap.size, 4, none⟩ = some (.slice aom m.length capm))) (((w.alloc (.cells #[.int .i64 5, .int .i64 n, .string s, .slice aol l.length capl, .slice aom m.length capm] 26)).alloc (.cells #[.int .i64 5, .int .i64 n, .string s, .slice aol l.length capl, .slice aom m.length capm] 26)).alloc (.cells #[.int .i64 0] 3))
        simp only [World.size_alloc] at bS q0 q3
        generalize ((((w.alloc (.cells #[.int .i64 5, .int .i64 n, .string s, .slice aol l.length capl, .slice aom m.length capm] 26)).alloc (.cells #[.int .i64 5, .int .i64 n, .string s, .slice aol l.length capl, .slice aom m.length capm] 26)).alloc (.cells #[.int .i64 0] 3)).alloc (.cells #[.int .i64 5, .int .i64 n, .string s, .slice aol l.length capl, .slice aom m.length capm] 26)) = W0 at bS hB0 hsz q0 q3 ⊢
        have hrow := hm.below (hw.trans (hB0.mono hz))
        have HBW := Lib.hid hw
        clear hde hl hm hw
        refine wpIn_rangeFunc_ownH rfl (by decide) (gf := 66) (lb := #[.pointer (some ⟨w.heap.size + 1 + 1 + 1, 0, none⟩)]) rfl trivial (enters_of Try.func66 (by kernel_rfl) rfl)
          (within_map 8 (by decide) (w.heap.size + 1 + 1 + 1) n₀ m.length capm aom cm W0 (by omega) (by omega) q0 q3 hrow (by omega) (fun i hi => ⟨HFM.out i hi, _, (HKE.out i hi).1⟩)) KpB.t (KpB.b (by omega) (by omega)) (Below.refl _ _) (fun _ => rfl)
          (fun pre W => Boxed W (w.heap.size + 1 + 1) 3 (.int .i64 (accD (fun x : Fin m.length => dep m[x.1].2) pre : Nat)) ∧ Below w.heap.size w W ∧ w.heap.size + 4 ≤ W.heap.size)
          (fun _ _ _ => False)
          (OwnFrom.and (Own.from (boxed_own _ _ _) _) (OwnFrom.and (ownFrom_below (Nat.le_refl _) (by omega)) (fun _ _ _ _ hs hg _ => Nat.le_trans hs hg.size)))
          (fun _ _ _ _ _ hs _ _ => hs)
          ⟨bS, hB0, by omega⟩
          (fun x a' W => ∃ Bx, w.heap.size + 1 + 1 + 1 < Bx ∧ W.heap[Bx]? = some (.cells #[cm x 1, cm x 2, cm x 3, cm x 4, cm x 5] 26 (0, 0)) ∧ a' = { tmps := #[.agg #[.int .i64 5, .int .i64 n, .string s, .slice aol l.length capl, .slice aom m.length capm], .pointer (some ⟨w.heap.size, 0, none⟩), .int .i64 0, .pointer (some ⟨w.heap.size + 1 + 1, 0, none⟩), .pointer (some ⟨Bx, 0, none⟩), .agg #[.int .i64 5, .int .i64 n, .string s, .slice aol l.length capl, .slice aom m.length capm], .bool true, .bool false, .agg #[.int .i64 5, .int .i64 n, .string s, .slice aol l.length capl, .slice aom m.length capm], .func (.func 66) #[] #[.pointer (some ⟨w.heap.size + 1 + 1 + 1, 0, none⟩)], .agg #[cm x 1, cm x 2, cm x 3, cm x 4, cm x 5], undef, undef, undef, undef, undef, undef], defers := [] })
          (fun x a' _ X Y row hs hg hr => by
            obtain ⟨Bx, h1, h2, h3⟩ := hs
            exact ⟨Bx, h1, (hg.block Bx (Array.getElem?_eq_some_iff.1 h2).1 (fun e => by obtain ⟨_, o, ho, hc⟩ := hr Bx e.symm; rw [h2] at ho; cases ho; cases hc)).trans h2, h3⟩)
          ?assign ?body ?done ?stop
        case assign =>
          rintro lo pre x W K ⟨bS1, hB1, hs1⟩ hK
          obtain ⟨kk, nn, ss, a1, l1, p1, a2, l2, p2, e0, e1, e2, e3, e4⟩ := HFM.out x x.2
          simp only [Nat.reduceAdd] at e0 e1 e2 e3 e4
          simp only [e0, e1, e2, e3, e4] at hK ⊢
          gi_wp2
          exact hK _ _ ((KeepsOthers.alloc _ _).from _) ⟨(Below.refl _ W).alloc (by omega) _, Below.heap_alloc _ _ _ (by omega)⟩ ⟨bS1.alloc _, hB1.alloc hB1.size _, by simp; omega⟩ ⟨W.heap.size, by omega, World.alloc_heap_new W _, rfl⟩
        case body =>
          rintro lo pre x a' W hlo ⟨r, hr⟩ ⟨bS1, hB1, hs1⟩ ⟨Bx, hBx, bX, rfl⟩ hlt
          have cS := bS1.cell
          have fS := bS1.frozen
          have hBxs : Bx < W.heap.size := (Array.getElem?_eq_some_iff.1 bX).1
          have x0 : W.cell? ⟨Bx, 0, none⟩ = some (cm x 1) := by simp [World.cell?, bX]
          have x1 : W.cell? ⟨Bx, 1, none⟩ = some (cm x 2) := by simp [World.cell?, bX]
          have x2 : W.cell? ⟨Bx, 2, none⟩ = some (cm x 3) := by simp [World.cell?, bX]
          have x3 : W.cell? ⟨Bx, 3, none⟩ = some (cm x 4) := by simp [World.cell?, bX]
          have x4 : W.cell? ⟨Bx, 4, none⟩ = some (cm x 5) := by simp [World.cell?, bX]
          have HBS := Lib.hid bS1
          have HB1 := Lib.hid hB1
          have hmx : Try.prog.follows .mixedOrders = true := by kernel_rfl
          clear bX bS1 hB1
          have hBn : Below n₀ w0 W := HBW.out.trans (HB1.out.mono hz)
          have HBN := Lib.hid hBn
          have hdx : dep m[x.1].2 ≤ 1000000 := by
            have h1 : dep m[x.1].2 ≤ depM m := depM_mem m x x.2
            have := HBG.out; have := HDE.out; omega
          have HDX := Lib.hid hdx
          have IHX := Lib.hid (IHM.out x x.2 hdx)
          generalize hdd : accD (fun x : Fin m.length => dep m[x.1].2) pre = dd at cS HBS
          generalize hdy : dep m[x.1].2 = dx at HDX IHX
          have HDD := Lib.hid hdd
          have HDY := Lib.hid hdy
          have hacc : accD (fun x : Fin m.length => dep m[x.1].2) (pre ++ [x]) = max dd dx := by rw [accD_snoc, hdd]; congr 1
          have HACC := Lib.hid hacc
          clear hBn hdx hdd hdy hacc
          by_cases hgt : dd < dx
          · gi_wp2
            gi_region_with_o (refine ⟨trivial, ?_⟩; gi_at_call 18; refine (CallsIn.inRound lo (callsIn_wide.2 (IHX.out _ (by first | exact HBN.out | exact HBN.out.drew) (by simp; omega)))).mono ?_; rintro e w' ⟨rfl, hb0⟩; have hb : Below W.heap.size W w' := (by first | exact hb0 | exact (Below.refl _ W).drew.trans hb0); clear hb0; have cS' : w'.cell? ⟨w.heap.size + 1 + 1, 0, none⟩ = some (.int .i64 (dd : Int)) := (hb.cell (p := ⟨w.heap.size + 1 + 1, 0, none⟩) (show w.heap.size + 1 + 1 < W.heap.size by omega)).trans cS; have fS' : w'.frozen? ⟨w.heap.size + 1 + 1, 0, none⟩ = false := (hb.frozen (p := ⟨w.heap.size + 1 + 1, 0, none⟩) (show w.heap.size + 1 + 1 < W.heap.size by omega)).trans fS)
            all_goals gi_wp2
            all_goals have hR := round_store (B := W0.heap.size) (n₀ := n₀) (b3 := w.heap.size + 1 + 1 + 1) (v := .int .i64 (dx : Int)) hb HB1.out HBS.out (by omega) (by omega) (by omega) (by omega) (by omega) (by omega)
            all_goals exact ⟨hR.1, hR.2.1, by rw [HACC.out, Nat.max_eq_right (by omega)]; exact hR.2.2.1, hR.2.2.2, by have := hb.size; simp; omega⟩
          · gi_wp2
            gi_region_with_o (refine ⟨trivial, ?_⟩; gi_at_call 18; refine (CallsIn.inRound lo (callsIn_wide.2 (IHX.out _ (by first | exact HBN.out | exact HBN.out.drew) (by simp; omega)))).mono ?_; rintro e w' ⟨rfl, hb0⟩; have hb : Below W.heap.size W w' := (by first | exact hb0 | exact (Below.refl _ W).drew.trans hb0); clear hb0; have cS' : w'.cell? ⟨w.heap.size + 1 + 1, 0, none⟩ = some (.int .i64 (dd : Int)) := (hb.cell (p := ⟨w.heap.size + 1 + 1, 0, none⟩) (show w.heap.size + 1 + 1 < W.heap.size by omega)).trans cS; have fS' : w'.frozen? ⟨w.heap.size + 1 + 1, 0, none⟩ = false := (hb.frozen (p := ⟨w.heap.size + 1 + 1, 0, none⟩) (show w.heap.size + 1 + 1 < W.heap.size by omega)).trans fS)
            all_goals gi_wp2
            all_goals have hR := round_store (B := W0.heap.size) (n₀ := n₀) (b3 := w.heap.size + 1 + 1 + 1) (v := .int .i64 (dd : Int)) hb HB1.out HBS.out (by omega) (by omega) (by omega) (by omega) (by omega) (by omega)
            all_goals exact ⟨hR.1, hR.2.1, by rw [HACC.out, Nat.max_eq_left (by omega)]; exact hR.2.2.1, hR.2.2.2, by have := hb.size; simp; omega⟩
        case done =>
          rintro D ys W hD rfl ⟨bS1, hB1, hs1⟩ hK
          have cS := bS1.cell
          rw [accD_M] at cS
          have HDE2 := Lib.hid hK
          have hdb : depM m ≤ 1000000 := by have := HBG.out; have := HDE.out; omega
          gi_wp2
          refine ⟨by simp, .inl ⟨_, _, rfl, run_takeDeferred hK, ?_⟩⟩
          exact ⟨_, results_tmp rfl _ _ _, by rw [HDE.out]; simp, hB1.trans (belowK_b (w := w) (Nat.le_refl _) W D _ _ (by omega) hK rfl rfl)⟩
        case stop =>
          rintro D c pre W _ _ h _
          exact h.elim
      · have e4 : (k == 4) = false := by simpa using hk4
        have e5 : (k == 5) = false := by simpa using hk5
        gi_wp2_with (first | (refine ⟨trivial, ?_⟩; gi_at_call 41; refine (callsIn_wide.2 (nests_any _ _ _ _ _ _ false (by rw [e4, e5]; rfl))).mono ?_; rintro e w' ⟨rfl, rfl⟩))
        refine ⟨_, results_tmp rfl _ _ _, by rw [dep_k _ _ _ _ _ hk4 hk5]; rfl, ((Below.refl _ w).alloc (Nat.le_refl _) _).alloc (by simp) _⟩
end Go.Proofs.Ythcphfpkinfjoaa
