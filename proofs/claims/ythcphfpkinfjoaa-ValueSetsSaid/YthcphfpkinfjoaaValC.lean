/-
  slices.Clone of members: a row of the call's own.
  Conditions: none.
-/
import Derived.Test.YthcphfpkinfjoaaValO
import Derived.Laws.AppendOwn
import Derived.Lib.SliceRun
namespace Go.Proofs.Ythcphfpkinfjoaa
open Go.RowKit

theorem info_mem : (Try.prog.info? 28).map (fun i => (i.zero, i.size, i.bytes)) = some (some (.agg #[.string ⟨#[]⟩, .int .i64 0, .int .i64 0, .string ⟨#[]⟩, .slice none 0 0, .slice none 0 0]), 6, 96) := by kernel_rfl
/-- The cells of the members of these numbers, one behind another. -/
def flat6 (enc : Nat → Nat → Value) (d : List Nat) : List Value := d.flatMap fun x => [enc x 0, enc x 1, enc x 2, enc x 3, enc x 4, enc x 5]
theorem flat6_len (enc : Nat → Nat → Value) (d : List Nat) : (flat6 enc d).length = d.length * 6 := by
  induction d with
  | nil => rfl
  | cons x d ih => simp only [flat6, List.flatMap_cons, List.length_append, List.length_cons, List.length_nil] at *; omega
theorem flat6_get (enc : Nat → Nat → Value) : ∀ (d : List Nat) (i : Nat) (h : i < d.length) (j : Nat), j < 6 → (flat6 enc d)[i * 6 + j]? = some (enc d[i] j)
  | x :: d, 0, _, j, hj => by
    simp only [flat6, List.flatMap_cons]
    rw [List.getElem?_append_left (by simp; omega)]
    rcases (show j = 0 ∨ j = 1 ∨ j = 2 ∨ j = 3 ∨ j = 4 ∨ j = 5 by omega) with rfl | rfl | rfl | rfl | rfl | rfl <;> rfl
  | x :: d, i + 1, h, j, hj => by
    simp only [flat6, List.flatMap_cons]
    rw [List.getElem?_append_right (by simp; omega)]
    have := flat6_get enc d i (by simpa using h) j hj
    simp only [flat6] at this
    rw [List.getElem_cons_succ, ← this]
    congr 1
    simp; omega
theorem flat6_append (enc : Nat → Nat → Value) (d e : List Nat) : flat6 enc (d ++ e) = flat6 enc d ++ flat6 enc e := by simp [flat6]
/-- A row that is owned, by its numbers. -/
theorem rowOwn_of {W : World} {base n : Nat} {enc : Nat → Nat → Value} {d : List Nat} {v : Value} (h : W.ownsRow base 28 6 v n (flat6 enc d)) (hn : 0 < n) (hd : d.length = n) :
    ∃ g cap, v = .slice (some ⟨g, 0, none⟩) n cap ∧ base ≤ g ∧ n ≤ cap ∧ cap ≤ maxLen ∧ RowOwn W g cap enc d := by
  obtain ⟨h0, h1 | ⟨g, cap, cur, rfl, hg, hh, hc, hcm, hcs, ht⟩⟩ := h
  · omega
  · refine ⟨g, cap, rfl, hg, hc, hcm, cur, hh, hcs, by omega, fun i hi j hj => ?_⟩
    have h2 := flat6_get enc d i hi j hj
    rw [← ht, List.getElem?_take_of_lt (by omega)] at h2
    simpa using h2
theorem ownsRow_of {W : World} {base g cap : Nat} {enc : Nat → Nat → Value} {d : List Nat} (h : RowOwn W g cap enc d) (hb : base ≤ g) (hcm : cap ≤ maxLen) : W.ownsRow base 28 6 (.slice (some ⟨g, 0, none⟩) d.length cap) d.length (flat6 enc d) := by
  obtain ⟨cur, hh, hcs, hc, hcell⟩ := h
  refine ⟨flat6_len _ _, .inr ⟨g, cap, cur, rfl, hb, hh, hc, hcm, hcs, ?_⟩⟩
  apply List.ext_getElem?
  intro p
  by_cases hp : p < d.length * 6
  · have e : p = p / 6 * 6 + p % 6 := by omega
    rw [List.getElem?_take_of_lt hp, e, flat6_get enc d (p / 6) (by omega) (p % 6) (by omega)]
    simpa using hcell (p / 6) (by omega) (p % 6) (by omega)
  · rw [List.getElem?_eq_none (by simp; omega), List.getElem?_eq_none (by rw [flat6_len]; omega)]

set_option maxRecDepth 100000 in
set_option maxHeartbeats 1000000 in
theorem clone_any (enc : Nat → Nat → Value) (b off n cap : Nat) (w : World) (hn : 0 < n) (hn1 : n ≤ 1000000) (hc : ∀ i j, i < n → j < 6 → w.cell? ⟨b, off + i * 6 + j, none⟩ = some (enc i j)) (h1 : ∀ i, i < n → Form5 (enc i) 1 ∧ ∃ k, enc i 0 = .string k) :
    Calls Try.prog 35 #[.slice (some ⟨b, off, none⟩) n cap] w fun e w' => ∃ g cap', e = .returned (.slice (some ⟨g, 0, none⟩) n cap') ∧ w.heap.size ≤ g ∧ n ≤ cap' ∧ cap' ≤ maxLen ∧ RowOwn w' g cap' enc (List.range n) ∧ Below w.heap.size w w' := by
  obtain ⟨i0, hi, hz0, hz1, hz2⟩ := info_parts info_mem
  have HC := Lib.hid hc
  have H1 := Lib.hid h1
  clear hc h1
  have q24 : ∀ (w : World) (a : Option Addr) (n c n' c' : Nat), (binOp .eql 24 (.slice a n c) (.slice none n' c')).run Try.prog w = .ok (.bool a.isNone) w := fun w a n c n' c' => Lib.run_eql_slice_nil w _ _ a n c n' c' Try.underlying24
  go_enter Try.func35, Try.ntmps35
  go_wp2_with (at_builtin; (refine wpList_append_own _ rfl _ _ 24 rfl w.heap.size 28 i0 _ 6 96 Try.underlying24 hi hz0 hz1 hz2 rfl (by decide) _ _ _ rfl (World.ownsRow_made w #[] 0 (Nat.le_refl _) (Nat.zero_le _) (by simp)) ⟨b, off, none⟩ n cap (flat6 enc (List.range n)) rfl ?qc1 ?qc2 ?qc3 ?qc4 ?qc5 ?qc6 ?_))
  case qc1 => rw [flat6_len]; simp
  case qc2 =>
    intro p u hp
    have hpl : p < n * 6 := by
      have := (List.getElem?_eq_some_iff.1 hp).1
      rw [flat6_len] at this; simpa using this
    have e : p = p / 6 * 6 + p % 6 := by omega
    rw [e, flat6_get enc (List.range n) (p / 6) (by simp; omega) (p % 6) (by omega)] at hp
    have h2 := HC.out (p / 6) (p % 6) (by omega) (by omega)
    simp at hp
    rw [Addr.add_lit]
    refine Lib.cell?_alloc_some _ ?_
    rw [← hp, ← h2]
    congr 2
    omega
  case qc3 =>
    intro u hu
    simp only [flat6, List.mem_flatMap, List.mem_range] at hu
    obtain ⟨i, hi, hu⟩ := hu
    obtain ⟨⟨k, m, s, a1, l1, p1, a2, l2, p2, e1, e2, e3, e4, e5⟩, key, e0⟩ := H1.out i hi
    simp only [Nat.reduceAdd] at e1 e2 e3 e4 e5
    simp only [e0, e1, e2, e3, e4, e5, List.mem_cons, List.mem_nil_iff, or_false] at hu
    rcases hu with rfl | rfl | rfl | rfl | rfl | rfl <;> rfl
  case qc4 => rw [Nat.zero_add]; unfold maxLen; omega
  case qc5 => omega
  case qc6 => simp
  intro v' w1 hown hgrow hnil
  go_wp2
  go_ret
  obtain ⟨g, cap', rfl, h2, h3, h4, h5⟩ := rowOwn_of hown hn (by simp)
  exact ⟨g, cap', rfl, h2, h3, h4, h5, ((Below.refl _ w).alloc (Nat.le_refl _) _).grown hgrow (by simp) (by intro k hk; simp [Value.ownBlock] at hk; omega)⟩

/-- What the stable sort leaves: the numbers by their keys, of one key the one that was ahead first. -/
def Sorted (key : Nat → ByteArray) (n : Nat) (S : List Nat) : Prop := S.Perm (List.range n) ∧ S.Pairwise (sl key)

set_option maxRecDepth 100000 in
set_option maxHeartbeats 1000000 in
theorem stable_small (enc : Nat → Nat → Value) (key : Nat → ByteArray) (n : Nat) (hE : Mems enc key n) (g cap : Nat) (w : World) (hrow : RowOwn w g cap enc (List.range n)) (hn : n < 20) :
    Calls Try.prog 61 #[.slice (some ⟨g, 0, none⟩) n cap, .int .i64 n, .func (.func 37) #[] #[]] w fun e w' => e = .returned (.tuple #[]) ∧ But g w w' ∧ ∃ S, Sorted key n S ∧ RowOwn w' g cap enc S := by
  have HI := Lib.hid (fun (w : World) (hrow : RowOwn w g cap enc (List.range n)) => isort_any enc key n hE g cap [] (List.range n) [] w (by simp) (by simpa using hrow) (by simp; omega) (by simpa using List.pairwise_lt_range) 0 n (by simp) (by simp))
  have HROW := Lib.hid hrow
  clear hE hrow
  have hn' : (n : Int) < 20 := by omega
  go_enter Try.func61, Try.ntmps61
  go_wp2_with fail
  go_loopw [7, 8] (fun a b wr => a = .int .i64 0 ∧ b = .int .i64 20 ∧ wr = w) (fun _ _ _ => 0)
  case atStart => exact ⟨rfl, rfl, rfl⟩
  case round =>
    obtain ⟨rfl, rfl, rfl⟩ := hrel
    go_wp2_with fail
    have h1 := HI.out wr HROW.out
    simp only [List.nil_append, List.append_nil, List.length_range] at h1
    refine h1.mono ?_
    rintro e w1 ⟨rfl, hb1, S, hp, hs, hr⟩
    have HF := Lib.hid (show But g wr w1 ∧ ∃ S, Sorted key n S ∧ RowOwn w1 g cap enc S from ⟨hb1, S, ⟨hp, hs⟩, hr⟩)
    clear h1 hb1 hp hs hr
    go_wp2_with fail
    go_loopw [6] (fun a wq => a = .int .i64 20 ∧ wq = w1) (fun _ _ => 0)
    case atStart => exact ⟨rfl, rfl⟩
    case round =>
      obtain ⟨rfl, rfl⟩ := hrel
      go_wp2
      go_end0
      exact ⟨rfl, HF.out⟩

set_option maxRecDepth 100000 in
theorem sortStable_small (enc : Nat → Nat → Value) (key : Nat → ByteArray) (n : Nat) (hE : Mems enc key n) (g cap : Nat) (w : World) (hrow : RowOwn w g cap enc (List.range n)) (hn : n < 20) :
    Calls Try.prog 36 #[.slice (some ⟨g, 0, none⟩) n cap, .func (.func 37) #[] #[]] w fun e w' => e = .returned (.tuple #[]) ∧ But g w w' ∧ ∃ S, Sorted key n S ∧ RowOwn w' g cap enc S := by
  have HS := Lib.hid (stable_small enc key n hE g cap w hrow hn)
  clear hE hrow
  go_enter Try.func36, Try.ntmps36
  go_wp2_with fail
  refine HS.out.mono ?_
  rintro e w1 ⟨rfl, h1⟩
  have HF := Lib.hid h1
  clear h1
  go_wp2
  go_end0
  exact ⟨rfl, HF.out⟩
end Go.Proofs.Ythcphfpkinfjoaa
