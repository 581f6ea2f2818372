/-
  The statements' own function awake: what the document tells of a map.
  Conditions: none.
-/
import Derived.Test.YthcphfpkinfjoaaValMap
import Derived.Test.YthcphfpkinfjoaaValAt
import Derived.Test.YthcphfpkinfjoaaValM
namespace Go.Proofs.Ythcphfpkinfjoaa
open Go.RowKit Go.Shelf

theorem sorted_unique {key : Nat → ByteArray} {n : Nat} {S S' : List Nat} (h : Sorted key n S) (h' : Sorted key n S') : S = S' := by
  refine List.Perm.eq_of_pairwise (le := sl key) (fun a b _ _ h1 h2 => ?_) h.2 h'.2 (h.1.trans h'.1.symm)
  have := sl_trans h1 h2
  unfold sl at this
  rcases this with h3 | ⟨_, h3⟩
  · rw [ltS_irrefl] at h3; cases h3
  · omega

def bA : ByteArray := ⟨#[97]⟩
def bB : ByteArray := ⟨#[98]⟩
def vInt (n : Int) : VT := .mk 2 n ⟨#[]⟩ [] []
def aw : List (ByteArray × VT) := [(bB, vInt 1), (bA, vInt 2), (bB, vInt 3)]
def awT : VT := .mk 5 0 ⟨#[]⟩ [] [(bA, vInt 2), (bB, vInt 3)]
theorem aw_sorted : Sorted (keyD aw) 3 [1, 0, 2] := by
  refine ⟨by decide, ?_⟩
  have h1 : ltS bA bB = true := by decide +kernel
  simp only [List.pairwise_cons, List.mem_cons, List.mem_nil_iff, or_false]
  refine ⟨?_, ?_, ?_, List.Pairwise.nil⟩
  · rintro a (rfl | rfl)
    · exact .inl h1
    · exact .inl h1
  · rintro a rfl
    exact .inr ⟨rfl, by decide⟩
  · rintro a h; cases h
theorem aw_map : mapL aw [1, 0, 2] = [(bA, vInt 2), (bB, vInt 3)] := by
  have k0 : keepAt (keyD aw) [1, 0, 2] 0 = true := by decide +kernel
  have k1 : keepAt (keyD aw) [1, 0, 2] 1 = false := by decide +kernel
  have k2 : keepAt (keyD aw) [1, 0, 2] 2 = true := by decide +kernel
  unfold mapL
  simp only [List.length_cons, List.length_nil, Nat.zero_add, Nat.reduceAdd, kept, k0, k1, k2, if_true, Bool.false_eq_true, if_false]
  rfl
theorem vInt_at (n₀ : Nat) (w : World) (n : Int) (hn : (Lit.int .i64 n).wf = true) : VAt n₀ w (vInt n) (.agg #[.int .i64 2, .int .i64 n, .string ⟨#[]⟩, .slice none 0 0, .slice none 0 0]) :=
  .mk (cl := fun _ _ => undef) (cm := fun _ _ => undef) rfl hn (by decide) (.inl ⟨rfl, none, 0, rfl, by decide, fun _ => rfl⟩) (.inl ⟨rfl, none, 0, rfl, by decide, fun _ => rfl⟩) (fun i h => absurd h (Nat.not_lt_zero _)) (fun i h => absurd h (Nat.not_lt_zero _)) (fun i h => absurd h (Nat.not_lt_zero _))
theorem aw_good : GoodV awT := by
  rw [goodV_iff]
  have hg1 : gS bA = true := by decide +kernel
  have hg2 : gS bB = true := by decide +kernel
  have hl : ltS bA bB = true := by decide +kernel
  have he : (⟨#[]⟩ : ByteArray).toList = [] := by decide +kernel
  refine ⟨by decide, ?_⟩
  unfold awT
  have hi : ∀ n : Int, -9007199254740991 ≤ n ∧ n ≤ 9007199254740991 → May (vInt n) := by
    intro n hn
    unfold vInt
    rw [May]
    refine ⟨?_, by simp, by simp⟩
    unfold NodeOK
    right; right; left
    exact ⟨rfl, hn.1, hn.2, he, rfl, rfl⟩
  rw [May]
  refine ⟨?_, by simp, fun _ => ?_⟩
  · unfold NodeOK
    right; right; right; right; right
    refine ⟨rfl, rfl, he, rfl, ?_⟩
    intro i hi'
    have : i = 0 ∨ i = 1 := by simp at hi'; omega
    rcases this with rfl | rfl
    · exact ⟨hg1, fun h => absurd h (Nat.lt_irrefl _)⟩
    · exact ⟨hg2, fun _ => hl⟩
  · simp only [MayM]
    exact ⟨hi 2 (by decide), hi 3 (by decide), trivial⟩
theorem aw_asc : Asc awT.m := by
  intro i j hij hj
  have h2 : j < 2 := hj
  have : i = 0 ∧ j = 1 := by omega
  obtain ⟨rfl, rfl⟩ := this
  show ltS bA bB = true
  decide +kernel

set_option maxHeartbeats 400000 in
theorem intv_any (n : Int) (w : World) : Calls Try.prog 12 #[.int .i64 n] w fun e w' => e = .returned (.agg #[.int .i64 2, .int .i64 n, .string ⟨#[]⟩, .slice none 0 0, .slice none 0 0]) ∧ Below w.heap.size w w' := by
  go_enter Try.func12, Try.ntmps12
  go_wp2
  refine bodyPost_ret (v := .agg #[.int .i64 2, .int .i64 n, .string ⟨#[]⟩, .slice none 0 0, .slice none 0 0]) (by simp [results, Try.results12, go_sem]) rfl ?_
  exact ⟨rfl, (Below.refl _ w).alloc (Nat.le_refl _) _⟩

set_option maxRecDepth 100000 in
set_option maxHeartbeats 1000000 in
theorem awake_true (w : World) : Calls Try.prog 9 #[] w fun e w' => e = .returned (.bool true) ∧ Below w.heap.size w w' := by
  go_enter Try.func9, Try.ntmps9
  go_wp2_with fail
  refine (intv_any 1 _).mono ?_
  rintro e w1 ⟨rfl, hb1⟩
  go_wp2_with fail
  refine (intv_any 2 _).mono ?_
  rintro e w2 ⟨rfl, hb2⟩
  go_wp2_with fail
  refine (intv_any 3 _).mono ?_
  rintro e w3 ⟨rfl, hb3⟩
  have hB3 : Below w.heap.size w w3 := (hb1.trans (hb2.mono hb1.size)).trans (hb3.mono (Nat.le_trans hb1.size hb2.size))
  have HB3 := Lib.hid hB3
  clear hb1 hb2 hb3 hB3
  go_wp2_with fail
  generalize hW4 : w3.alloc _ = W4
  have hv4 : W4.heap[w3.heap.size]? = some (.cells #[.string ⟨#[98]⟩, .int .i64 2, .int .i64 1, .string ⟨#[]⟩, .slice none 0 0, .slice none 0 0, .string ⟨#[97]⟩, .int .i64 2, .int .i64 2, .string ⟨#[]⟩, .slice none 0 0, .slice none 0 0, .string ⟨#[98]⟩, .int .i64 2, .int .i64 3, .string ⟨#[]⟩, .slice none 0 0, .slice none 0 0] 28 (0, 0)) := by subst hW4; exact World.alloc_heap_new w3 _
  have hb4 : Below w.heap.size w W4 := by subst hW4; exact HB3.out.alloc HB3.out.size _
  have hz4 : W4.heap.size = w3.heap.size + 1 := by subst hW4; simp
  clear hW4
  have hM : MAt W4.heap.size W4 aw (.slice (some ⟨w3.heap.size, 0, none⟩) 3 3) (fun i j => (#[.string ⟨#[98]⟩, .int .i64 2, .int .i64 1, .string ⟨#[]⟩, .slice none 0 0, .slice none 0 0, .string ⟨#[97]⟩, .int .i64 2, .int .i64 2, .string ⟨#[]⟩, .slice none 0 0, .slice none 0 0, .string ⟨#[98]⟩, .int .i64 2, .int .i64 3, .string ⟨#[]⟩, .slice none 0 0, .slice none 0 0] : Array Value).getD (i * 6 + j) undef) := by
    refine ⟨.inr ⟨w3.heap.size, 0, 3, by decide, by decide, ⟨by decide, by decide⟩, rfl, by omega, fun i j hi hj => ?_⟩, fun i hi => ?_, fun i hi => ?_⟩
    · have hi3 : i < 3 := hi
      rcases (show i = 0 ∨ i = 1 ∨ i = 2 by omega) with rfl | rfl | rfl <;> rcases (show j = 0 ∨ j = 1 ∨ j = 2 ∨ j = 3 ∨ j = 4 ∨ j = 5 by omega) with rfl | rfl | rfl | rfl | rfl | rfl <;> simp [World.cell?, hv4]
    · have hi3 : i < 3 := hi
      rcases (show i = 0 ∨ i = 1 ∨ i = 2 by omega) with rfl | rfl | rfl <;> exact ⟨rfl, (show (1 : Nat) ≤ sMax by decide)⟩
    · have hi3 : i < 3 := hi
      rcases (show i = 0 ∨ i = 1 ∨ i = 2 by omega) with rfl | rfl | rfl
      · exact vInt_at _ _ 1 rfl
      · exact vInt_at _ _ 2 rfl
      · exact vInt_at _ _ 3 rfl
  have HMAP := Lib.hid (map_small (m := aw) hM (Nat.le_refl _) (by decide) (by decide))
  have HB4 := Lib.hid hb4
  clear hM hv4 hb4
  refine HMAP.out.mono ?_
  rintro e w5 ⟨x, S, rfl, hS, hx, hb5⟩
  obtain rfl := sorted_unique hS aw_sorted
  rw [aw_map] at hx
  have hxT : VAt w5.heap.size w5 awT x := hx
  have HX := Lib.hid hxT
  have HB5 := Lib.hid (HB4.out.trans (hb5.mono HB4.out.size))
  clear hx hS hb5
  obtain ⟨sl, a2, c2, hxe, hrow, hkey⟩ : ∃ sl a2 c2, x = .agg #[.int .i64 5, .int .i64 0, .string ⟨#[]⟩, sl, .slice (some a2) 2 c2] ∧ (∃ a1 l1 c1, sl = .slice a1 l1 c1) ∧ a2.spot = none ∧ a2.block < w5.heap.size ∧ w5.cell? ⟨a2.block, a2.off, none⟩ = some (.string bA) := by
    unfold awT at hxT
    cases hxT with
    | mk hk hn hs hl hm hL hK hM =>
      obtain ⟨a1, c1, rfl, -⟩ := hl.form
      rcases hm with ⟨h0, _⟩ | ⟨b, off, cap, h0, h1, h2, rfl, h4, h5⟩
      · cases h0
      · refine ⟨_, ⟨b, off, none⟩, cap, rfl, ⟨_, _, _, rfl⟩, rfl, h4, ?_⟩
        have := h5 0 0 (by decide) (by decide)
        rw [(hK 0 (by decide)).1] at this
        simpa using this
  obtain ⟨a1, l1, c1, rfl⟩ := hrow
  obtain ⟨bb, off, sp⟩ := a2
  obtain ⟨hsp, hbb, hc0⟩ := hkey
  simp at hsp hbb hc0
  subst hsp hxe
  clear hxT
  have HIA := Lib.hid (fun (W : World) (hW : Below w5.heap.size w5 W) => intAt_any HX.out (fun _ => aw_asc) bB W hW hW.size)
  have HGD := Lib.hid (fun (W : World) (hW : Below w5.heap.size w5 W) => vgood_any HX.out W hW hW.size true (by simp [aw_good]))
  have hia : intAtV awT bB = (3, true) := by decide +kernel
  go_wp2_with fail
  generalize hW6 : w5.alloc _ = W6
  have hv6 : W6.heap[w5.heap.size]? = some (.cells #[.int .i64 5, .int .i64 0, .string ⟨#[]⟩, .slice a1 l1 c1, .slice (some ⟨bb, off, none⟩) 2 c2] 26 (0, 0)) := by subst hW6; exact World.alloc_heap_new w5 _
  have hb6 : Below w5.heap.size w5 W6 := by subst hW6; exact (Below.refl _ w5).alloc (Nat.le_refl _) _
  have hz6 : W6.heap.size = w5.heap.size + 1 := by subst hW6; simp
  clear hW6
  have h1 := HIA.out W6 hb6
  rw [hia] at h1
  refine h1.mono ?_
  rintro e w7 ⟨rfl, hb7⟩
  have hb57 : Below w5.heap.size w5 w7 := hb6.trans (hb7.mono hb6.size)
  obtain ⟨z0, z1, z2, z3, z4⟩ := c5of ((hb7.block _ (by omega)).trans hv6)
  have zc : w7.cell? ⟨bb, off, none⟩ = some (.string bA) := by rw [hb57.cell (by show bb < _; exact hbb)]; exact hc0
  have HB57 := Lib.hid hb57
  have hAe : bA.toList = [97] := by decide +kernel
  have hAb : (bA.toList == [97]) = true := by rw [hAe]; rfl
  clear h1 hb7 hv6 hb6 hz6 hb57 hc0
  go_wp2_with fail
  refine (HGD.out w7 HB57.out).mono ?_
  rintro e w8 ⟨rfl, hb8⟩
  go_wp2
  go_ret
  exact ⟨rfl, HB5.out.trans ((HB57.out.trans (hb8.mono HB57.out.size)).mono HB5.out.size)⟩
end Go.Proofs.Ythcphfpkinfjoaa
