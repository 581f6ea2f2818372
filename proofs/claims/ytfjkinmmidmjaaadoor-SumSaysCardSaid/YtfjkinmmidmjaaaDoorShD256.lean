/-
  A byte is taken in: what (*hash256).add does.
  Conditions: none.
-/
import Derived.Test.YtfjkinmmidmjaaaDoorShM256
namespace Go.Proofs.YtfjkinmmidmjaaaDoor
open Go.RowKit

/-- Block b is a hash that has taken in so much: h of whole blocks, and the bytes buf. -/
def ST256 (w : World) (b : Nat) (s : W8 × List UInt8) : Prop := ∃ L, HB256 w b s.1 L s.2.length ∧ L.take s.2.length = s.2 ∧ s.2.length < 64
theorem ST256.keep {w w' : World} {b : Nat} {s : W8 × List UInt8} (h : ST256 w b s) (hb : w'.heap[b]? = w.heap[b]?) : ST256 w' b s :=
  let ⟨L, h1, h2⟩ := h
  ⟨L, h1.keep hb, h2⟩
theorem ST256.lt {w : World} {b : Nat} {s : W8 × List UInt8} (h : ST256 w b s) : b < w.heap.size := let ⟨_, h1, _⟩ := h; h1.lt
theorem take_set_256 (L : List UInt8) (k : Nat) (x : UInt8) (h : k < L.length) : (L.set k x).take (k + 1) = L.take k ++ [x] := by
  rw [List.take_add_one]
  simp [h, List.take_set_of_le]
set_option maxRecDepth 100000 in
set_option maxHeartbeats 2000000 in
theorem add256_any (b : Nat) (x : UInt8) (y : Int) (s : W8 × List UInt8) (w : World) (hy : y = (x.toNat : Int)) (h : ST256 w b s) (hG : Gl w) (hb : 1 < b) :
    Calls Tryd.prog 14 #[.pointer (some ⟨b, 0, none⟩), .int .u8 y] w fun e w' => e = .returned (.tuple #[]) ∧ ST256 w' b (eat256 s.1 s.2 [x]) ∧ BelowX w.heap.size b w w' := by
  subst hy
  obtain ⟨hh, buf⟩ := s
  obtain ⟨L, hb0, htk, hlen⟩ := h
  simp only at hb0 htk hlen ⊢
  obtain ⟨k, hk⟩ : ∃ k, buf.length = k := ⟨_, rfl⟩
  rw [hk] at hb0 htk hlen
  have hkI : (k : Int) < 64 := by omega
  have hpl : w.cell? ⟨b, 72, none⟩ = some (.int .i64 (k : Int)) := hb0.place
  have hby := hb0.byte hlen
  have hfb := hb0.frozen (8 + k)
  have hne : ¬ 8 + k = 72 := by omega
  have hbl := hb0.lt
  have HB0 := Lib.hid hb0
  have HTK := Lib.hid htk
  have HK := Lib.hid hk
  have HG := Lib.hid hG
  have HLL := Lib.hid hb0.2.1
  clear hb0 htk hk hG
  go_enter Tryd.func14, Tryd.ntmps14
  go_wp2_with fail
  go_still_tail 9, (by kernel_rfl)
  change wpList _ _ _ _ _ w.drew
  generalize hWY : w.drew = wy
  have hby2 : wy.cell? ⟨b, 8 + k, none⟩ = some (.int .u8 ((L.getD k 0).toNat : Int)) := by subst hWY; exact hby
  have hfb2 : wy.frozen? ⟨b, 8 + k, none⟩ = false := by subst hWY; exact hfb
  have HHY := Lib.hid (show HB256 wy b hh L k by subst hWY; exact HB0.out)
  have HBY := Lib.hid (show BelowX w.heap.size b w wy by subst hWY; exact ⟨rfl, rfl, rfl, Nat.le_refl _, fun _ _ _ => rfl⟩)
  have hpl2 : wy.cell? ⟨b, 72, none⟩ = some (.int .i64 (k : Int)) := by subst hWY; exact hpl
  have hfp2 : wy.frozen? ⟨b, 72, none⟩ = false := HHY.out.frozen 72
  have hne2 : ¬ 72 = 8 + k := fun e => hne e.symm
  clear hby hfb hpl HB0 hWY
  by_cases hlast : k + 1 = 64
  · have hl2 : (k : Int) + 1 = 64 := by omega
    go_wp2_with fail
    generalize hW3 : World.setCell _ _ _ = W3
    have h3 : HB256 W3 b hh (L.set k x) 0 := by
      subst hW3
      have h1 := ((HHY.out.setByte hlen x).setPlace (k + 1)).setPlace 0
      rw [show ((k + 1 : Nat) : Int) = 64 by omega] at h1
      exact h1
    have h4 : BelowX w.heap.size b w W3 := by
      subst hW3
      exact ((HBY.out.trans (BelowX.set1 _ _ _)).trans (BelowX.set1 _ _ _)).trans (BelowX.set1 _ _ _)
    clear hW3
    have h5 : Gl W3 := HG.out.belowX h4 hb (by omega)
    refine (mix256_any b hh (L.set k x) 0 W3 h3 h5).mono ?_
    rintro e w4 ⟨rfl, h6, h7⟩
    have HE := Lib.hid (show ST256 w4 b (eat256 hh buf [x]) ∧ BelowX w.heap.size b w w4 by
      refine ⟨?_, h4.trans ⟨h7.os, h7.tape, h7.output, h7.size, fun i hi hn => h7.block i (by have := h4.size; omega) hn⟩⟩
      have e1 : eat256 hh buf [x] = (mix256 hh (L.set k x), []) := by
        conv => lhs; unfold eat256
        rw [if_pos (by rw [HK.out]; exact hlast)]
        have : L.set k x = buf ++ [x] := by
          rw [← HTK.out, ← take_set_256 L k x (by rw [HLL.out]; exact hlen), hlast, List.take_of_length_le (by rw [List.length_set, HLL.out]; exact Nat.le_refl _)]
        rw [this]
        rfl
      rw [e1]
      exact ⟨L.set k x, h6, rfl, by show 0 < 64; decide⟩)
    clear h3 h4 h5 h6 h7
    go_wp2
    go_end0
    exact ⟨rfl, HE.out⟩
  · have hl2 : ¬ (k : Int) + 1 = 64 := by omega
    go_wp2
    go_end0
    refine ⟨rfl, ?_⟩
    generalize hW3 : World.setCell _ _ _ = W3
    have h3 : HB256 W3 b hh (L.set k x) (k + 1) := by
      subst hW3
      exact (HHY.out.setByte hlen x).setPlace (k + 1)
    have h4 : BelowX w.heap.size b w W3 := by
      subst hW3
      exact (HBY.out.trans (BelowX.set1 _ _ _)).trans (BelowX.set1 _ _ _)
    refine ⟨?_, h4⟩
    have e1 : eat256 hh buf [x] = (hh, buf ++ [x]) := by
      conv => lhs; unfold eat256
      rw [if_neg (by rw [HK.out]; exact hlast)]
      rfl
    rw [e1]
    have e2 : (buf ++ [x]).length = k + 1 := by rw [List.length_append, HK.out]; rfl
    refine ⟨L.set k x, ?_, ?_, ?_⟩
    · show HB256 W3 b hh (L.set k x) (buf ++ [x]).length
      rw [e2]; exact h3
    · show (L.set k x).take (buf ++ [x]).length = buf ++ [x]
      rw [e2, take_set_256 L k x (by rw [HLL.out]; exact hlen), HTK.out]
    · show (buf ++ [x]).length < 64
      omega
end Go.Proofs.YtfjkinmmidmjaaaDoor
