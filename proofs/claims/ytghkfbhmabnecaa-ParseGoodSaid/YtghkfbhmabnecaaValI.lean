/-
  Package value's iterator within: the values in a value, in their order, for whatever loop body.
  Conditions: none.
-/
import Derived.Test.YtghkfbhmabnecaaValA
import Derived.RangeFuncNested
import Derived.RangeFuncBound
import Derived.RangeFuncCalls
import Derived.RangeFuncLeaves
import Derived.Shelf.Abstract
import Derived.Shelf.RegionOpen
import Derived.OwnWalkIn
import Derived.TacticsInMore
import Derived.LoopNIn
import Derived.LoopIn
namespace Go.Proofs.Ytghkfbhmabnecaa
open Go.RowKit Go.Shelf
attribute [local go_sem] Oper.semAt_some

/-- What a round keeps: all below n₀, and one block. -/
def KpB (B n₀ : Nat) (W W' : World) : Prop := Below n₀ W W' ∧ W'.heap[B]? = W.heap[B]?
theorem KpB.t {B n₀ : Nat} {X Y Z : World} (h : KpB B n₀ X Y) (k : KpB B n₀ Y Z) : KpB B n₀ X Z := ⟨h.1.trans k.1, k.2.trans h.2⟩
theorem KpB.b {B n₀ : Nat} {w : World} (hn : n₀ ≤ w.heap.size) (hB : B < w.heap.size) (W : World) (l : Nat) (o o' : Obj) (hl : w.heap.size ≤ l) (h : W.heap[l]? = some o) (h1 : o.isCells = false) (h2 : o.isWalk = false) : KpB B n₀ W (W.putObj l o') :=
  ⟨belowK_b hn W l o o' hl h h1 h2, (grownBy_putObj' W l o').block B (by have := (Array.getElem?_eq_some_iff.1 h).1; omega) (by intro e; cases e; omega)⟩
theorem KpB.refl (B n₀ : Nat) (W : World) : KpB B n₀ W W := ⟨Below.refl _ _, rfl⟩
theorem KpB.cell {B n₀ : Nat} {W W' : World} (h : KpB B n₀ W W') (i : Nat) : W'.cell? ⟨B, i, none⟩ = W.cell? ⟨B, i, none⟩ := World.cell?_of_block (w := W) h.2

theorem within_any (v : Value) (c0 c1 c2 c3 c4 : Value) (hv : v = .agg #[c0, c1, c2, c3, c4]) (w : World) :
    Calls Try.prog 44 #[v] w fun e w' => e = .returned (.func (.func 68) #[] #[.pointer (some ⟨w.heap.size, 0, none⟩)]) ∧ w' = w.alloc (.cells #[c0, c1, c2, c3, c4] 26) := by
  subst hv
  go_enter Try.func44, Try.ntmps44
  go_wp2
  go_ret
  exact ⟨rfl, rfl⟩

theorem finTake (N k : Nat) (hk : k < N) : (List.finRange N).take (k + 1) = (List.finRange N).take k ++ [⟨k, hk⟩] := by
  rw [List.take_succ_eq_append_getElem (by simpa using hk)]; simp

set_option maxRecDepth 100000 in
set_option maxHeartbeats 2000000 in
theorem within_list (n : Nat) (hn : 1 ≤ n) (Bv n₀ N cap : Nat) (ao : Option Addr) (cl : Nat → Nat → Value) (w : World) (hBv : Bv < w.heap.size) (hn₀ : n₀ ≤ w.heap.size)
    (hc0 : w.cell? ⟨Bv, 0, none⟩ = some (.int .i64 4)) (hc3 : w.cell? ⟨Bv, 3, none⟩ = some (.slice ao N cap)) (hrow : RowAt n₀ w 5 (.slice ao N cap) N cl) (hN : N ≤ 1000000000000000) (hf : ∀ i, i < N → Form5 (cl i) 0) :
    SeqStopsK Fence.wide n Try.prog 68 #[.pointer (some ⟨Bv, 0, none⟩)] (fun x : Fin N => #[Value.agg #[cl x 0, cl x 1, cl x 2, cl x 3, cl x 4]]) (KpB Bv n₀) (fun ys => ys = List.finRange N) (fun pre => pre <+: List.finRange N) N w := fun l J Jx W hW hJ hJx hY h0 => by
  have hc0' := (hW.cell (p := ⟨Bv, 0, none⟩) hBv).trans hc0
  have hc3' := (hW.cell (p := ⟨Bv, 3, none⟩) hBv).trans hc3
  have HR := Lib.hid (hrow.below (hW.mono hn₀))
  have HZ := Lib.hid hW.size
  clear hrow hc0 hc3
  refine callsIn_of_wp Try.func68 rfl trivial ?_ rfl
  simp only [Try.ntmps68, List.size_toArray, List.length_cons, List.length_nil, Nat.reduceAdd, Nat.reduceSub, Array.replicate_succ, Array.replicate_zero, List.push_toArray, List.append_toArray, List.nil_append, List.cons_append]
  gi_wp2
  gi_loopw [13] (fun i wr => ∃ k : Nat, k ≤ N ∧ i = .int .i64 k ∧ J ((List.finRange N).take k) wr ∧ KpB Bv n₀ W wr ∧ W.heap.size ≤ wr.heap.size) (fun i _ => N - (intOf i).toNat)
  case atStart => exact ⟨0, Nat.zero_le _, rfl, h0, KpB.refl _ _ _, Nat.le_refl _⟩
  case round =>
    obtain ⟨k, hk, rfl, hJs, hkp, hsz⟩ := hrel
    by_cases hlt : k < N
    · obtain ⟨b, off, rfl, hbn, c0, c1, c2, c3, c4⟩ := (HR.out.below hkp.1).at5 hlt
      obtain ⟨kk, nn, ss, a1, l1, p1, a2, l2, p2, e0, e1, e2, e3, e4⟩ := hf k hlt
      simp only [Nat.zero_add] at e0 e1 e2 e3 e4
      rw [e0] at c0; rw [e1] at c1; rw [e2] at c2; rw [e3] at c3; rw [e4] at c4
      have hJa : J ((List.finRange N).take k) (wr.alloc (.cells #[.int .i64 kk, .int .i64 nn, .string ss, .slice a1 l1 p1, .slice a2 l2 p2] 26)) := hJ _ _ _ none hJs (World.grownBy_alloc _ _ none) (fun r e => by cases e)
      obtain ⟨fn, tmps, assign, body, hy, hR⟩ := hY _ ⟨k, hlt⟩ _ hJa (by simp; omega)
      dsimp only at hy
      rw [e0, e1, e2, e3, e4] at hy
      have HJ := Lib.hid hJ
      have HJX := Lib.hid hJx
      have HKP := Lib.hid hkp
      have HY := Lib.hid hY
      clear e0 e1 e2 e3 e4 hf hJ hkp hY hJx hJa
      gi_wp2
      refine hR.mono ?_
      rintro e W3 (⟨rfl, hJ3, hk3⟩ | ⟨rfl, hJx3⟩)
      · rw [← finTake N k hlt] at hJ3
        have hk4 : KpB Bv n₀ W W3 := HKP.out.t (KpB.t ⟨(Below.refl n₀ wr).alloc (by have := HZ.out; omega) _, Below.heap_alloc _ _ _ (by have := HZ.out; omega)⟩ hk3)
        have hsz3 : W.heap.size ≤ W3.heap.size := by have := hk3.1.size; simp at this; omega
        have HK4 := Lib.hid hk4
        clear hk3 hk4
        gi_wp2
        go_roundw
        case rel => exact ⟨k + 1, by omega, by go_num, hJ3, HK4.out, hsz3⟩
        case measure => simp [intOf]; omega
      · rw [← finTake N k hlt] at hJx3
        gi_wp2
        refine bodyPost_ret (results_none rfl _ _ _) rfl ?_
        exact ⟨⟨_, rfl⟩, .inr ⟨_, List.take_prefix _ _, hJx3⟩⟩
    · obtain rfl : k = N := by omega
      rw [List.take_of_length_le (by simp)] at hJs
      have hc9 : wr.cell? ⟨Bv, 0, none⟩ = some (.int .i64 4) := (hkp.cell 0).trans hc0'
      gi_wp2
      go_end0
      exact ⟨⟨_, rfl⟩, .inl ⟨_, rfl, hJs⟩⟩
set_option maxRecDepth 100000 in
set_option maxHeartbeats 2000000 in
theorem within_map (n : Nat) (hn : 1 ≤ n) (Bv n₀ N cap : Nat) (ao : Option Addr) (cl : Nat → Nat → Value) (w : World) (hBv : Bv < w.heap.size) (hn₀ : n₀ ≤ w.heap.size)
    (hc0 : w.cell? ⟨Bv, 0, none⟩ = some (.int .i64 5)) (hc4 : w.cell? ⟨Bv, 4, none⟩ = some (.slice ao N cap)) (hrow : RowAt n₀ w 6 (.slice ao N cap) N cl) (hN : N ≤ 1000000000000000) (hf : ∀ i, i < N → Form5 (cl i) 1 ∧ ∃ key, cl i 0 = .string key) :
    SeqStopsK Fence.wide n Try.prog 68 #[.pointer (some ⟨Bv, 0, none⟩)] (fun x : Fin N => #[Value.agg #[cl x 1, cl x 2, cl x 3, cl x 4, cl x 5]]) (KpB Bv n₀) (fun ys => ys = List.finRange N) (fun pre => pre <+: List.finRange N) N w := fun l J Jx W hW hJ hJx hY h0 => by
  have hc0' := (hW.cell (p := ⟨Bv, 0, none⟩) hBv).trans hc0
  have hc4' := (hW.cell (p := ⟨Bv, 4, none⟩) hBv).trans hc4
  have HR := Lib.hid (hrow.below (hW.mono hn₀))
  have HZ := Lib.hid hW.size
  clear hrow hc0 hc4
  refine callsIn_of_wp Try.func68 rfl trivial ?_ rfl
  simp only [Try.ntmps68, List.size_toArray, List.length_cons, List.length_nil, Nat.reduceAdd, Nat.reduceSub, Array.replicate_succ, Array.replicate_zero, List.push_toArray, List.append_toArray, List.nil_append, List.cons_append]
  gi_wp2
  gi_loopw [28] (fun i wr => ∃ k : Nat, k ≤ N ∧ i = .int .i64 k ∧ J ((List.finRange N).take k) wr ∧ KpB Bv n₀ W wr ∧ W.heap.size ≤ wr.heap.size) (fun i _ => N - (intOf i).toNat)
  case atStart => exact ⟨0, Nat.zero_le _, rfl, h0, KpB.refl _ _ _, Nat.le_refl _⟩
  case round =>
    obtain ⟨k, hk, rfl, hJs, hkp, hsz⟩ := hrel
    by_cases hlt : k < N
    · obtain ⟨b, off, rfl, hbn, c0, c1, c2, c3, c4, c5⟩ := (HR.out.below hkp.1).at6 hlt
      obtain ⟨⟨kk, nn, ss, a1, l1, p1, a2, l2, p2, e0, e1, e2, e3, e4⟩, key, ek⟩ := hf k hlt
      simp only [Nat.reduceAdd] at e0 e1 e2 e3 e4
      rw [ek] at c0; rw [e0] at c1; rw [e1] at c2; rw [e2] at c3; rw [e3] at c4; rw [e4] at c5
      have hJa : J ((List.finRange N).take k) (wr.alloc (.cells #[.string key, .int .i64 kk, .int .i64 nn, .string ss, .slice a1 l1 p1, .slice a2 l2 p2] 28)) := hJ _ _ _ none hJs (World.grownBy_alloc _ _ none) (fun r e => by cases e)
      obtain ⟨fn, tmps, assign, body, hy, hR⟩ := hY _ ⟨k, hlt⟩ _ hJa (by simp; omega)
      dsimp only at hy
      rw [e0, e1, e2, e3, e4] at hy
      have HJ := Lib.hid hJ
      have HJX := Lib.hid hJx
      have HKP := Lib.hid hkp
      have HY := Lib.hid hY
      clear ek e0 e1 e2 e3 e4 hf hJ hkp hY hJx hJa
      gi_wp2
      refine hR.mono ?_
      rintro e W3 (⟨rfl, hJ3, hk3⟩ | ⟨rfl, hJx3⟩)
      · rw [← finTake N k hlt] at hJ3
        have hk4 : KpB Bv n₀ W W3 := HKP.out.t (KpB.t ⟨(Below.refl n₀ wr).alloc (by have := HZ.out; omega) _, Below.heap_alloc _ _ _ (by have := HZ.out; omega)⟩ hk3)
        have hsz3 : W.heap.size ≤ W3.heap.size := by have := hk3.1.size; simp at this; omega
        have HK4 := Lib.hid hk4
        clear hk3 hk4
        gi_wp2
        go_roundw
        case rel => exact ⟨k + 1, by omega, by go_num, hJ3, HK4.out, hsz3⟩
        case measure => simp [intOf]; omega
      · rw [← finTake N k hlt] at hJx3
        gi_wp2
        refine bodyPost_ret (results_none rfl _ _ _) rfl ?_
        exact ⟨⟨_, rfl⟩, .inr ⟨_, List.take_prefix _ _, hJx3⟩⟩
    · obtain rfl : k = N := by omega
      rw [List.take_of_length_le (by simp)] at hJs
      have hc9 : wr.cell? ⟨Bv, 0, none⟩ = some (.int .i64 5) := (hkp.cell 0).trans hc0'
      gi_wp2
      go_end0
      exact ⟨⟨_, rfl⟩, .inl ⟨_, rfl, hJs⟩⟩
set_option maxRecDepth 100000 in
set_option maxHeartbeats 2000000 in
theorem within_none (n : Nat) (_ : 1 ≤ n) (Bv n₀ : Nat) (k : Int) (h4 : (k == 4) = false) (h5 : (k == 5) = false) (enc : Fin 0 → Array Value) (w : World) (hBv : Bv < w.heap.size)
    (hc0 : w.cell? ⟨Bv, 0, none⟩ = some (.int .i64 k)) :
    SeqStopsK Fence.wide n Try.prog 68 #[.pointer (some ⟨Bv, 0, none⟩)] enc (KpB Bv n₀) (fun ys => ys = []) (fun _ => False) 0 w := fun l J Jx W hW hJ hJx hY h0 => by
  have hc0' := (hW.cell (p := ⟨Bv, 0, none⟩) hBv).trans hc0
  clear hc0 hJ hJx hY
  refine callsIn_of_wp Try.func68 rfl trivial ?_ rfl
  simp only [Try.ntmps68, List.size_toArray, List.length_cons, List.length_nil, Nat.reduceAdd, Nat.reduceSub, Array.replicate_succ, Array.replicate_zero, List.push_toArray, List.append_toArray, List.nil_append, List.cons_append]
  gi_wp2
  go_end0
  exact ⟨⟨_, rfl⟩, .inl ⟨_, rfl, h0⟩⟩

end Go.Proofs.Ytghkfbhmabnecaa
