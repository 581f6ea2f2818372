/-
  What package b64 puts and gets.
  Conditions: none.
-/
import Derived.Test.YtnbonoallcjlbaaBaD
namespace Go.Proofs.Ytnbonoallcjlbaa
open Go.RowKit

theorem Bys.low {w : World} {v : Value} {l : List UInt8} (h : Bys w v l) : ∀ g off len cap, 0 < len → v = .slice (some ⟨g, off, none⟩) len cap → g < w.heap.size := by
  obtain ⟨ao, c, rfl, _, rfl | ⟨g, off, rfl, hg, _⟩⟩ := h
  · intro g off len cap h0 e; cases e; simp at h0
  · intro g' off' len cap _ e; cases e; exact hg
set_option maxRecDepth 100000 in
set_option maxHeartbeats 1000000 in
theorem encoded_any (u : Bool) (s : ByteArray) (v : Value) (l : List UInt8) (w : World) (hs : s = ⟨(al u).toArray⟩) (hlen : l.length ≤ 100000) (hl : Bys w v l) :
    Calls Try.prog 15 #[v, .string s] w fun e w' => e = .returned (.string ⟨(put u l).toArray⟩) ∧ Below w.heap.size w w' := by
  have HL := Lib.hid hl
  have HS := Lib.hid hs
  clear hl hs
  go_enter Try.func15, Try.ntmps15
  go_wp2_with fail
  generalize hW1 : w.alloc _ = W1
  have hb1 : Below w.heap.size w W1 := by subst hW1; exact (Below.refl _ w).alloc (Nat.le_refl _) _
  have hblk : W1.heap[w.heap.size]? = some (.cells #[.string s, .slice none 0 0] 41 (0, 0)) := by subst hW1; show (w.heap.push _)[w.heap.size]? = _; simp
  have hsz : W1.heap.size = w.heap.size + 1 := by subst hW1; simp
  have hbys := HL.out.below hb1
  have hlow := HL.out.low
  clear hW1
  obtain ⟨b, hb⟩ : ∃ b, w.heap.size = b := ⟨_, rfl⟩
  rw [hb] at hb1 hblk hsz ⊢
  have HB1 := Lib.hid hb1
  have HBYS := Lib.hid hbys
  have HLOW := Lib.hid hlow
  have HBLK := Lib.hid hblk
  have HSZ := Lib.hid hsz
  have HB := Lib.hid hb
  clear hb1 hblk hsz hbys hlow hb
  refine (eachSix_any u s b (b + 1) v l [] W1 HS.out (by omega) (by rw [HSZ.out]; exact Nat.le_refl _) (by simpa using hlen) HBYS.out (fun g off len cap h0 e => by have := HLOW.out g off len cap h0 e; have := HB.out; omega) ⟨_, HBLK.out, World.ownsRow_nil _ _ _ _⟩).mono ?_
  rintro e w1 ⟨rfl, ⟨ov, hbl, hown⟩, hbx⟩
  obtain ⟨c0, c1, f1⟩ := c2of hbl
  have hstr := hown.toStr
  rw [List.nil_append] at hstr
  have HBX := Lib.hid hbx
  clear hbx hown hbl
  go_wp2
  go_ret
  refine ⟨rfl, ?_⟩
  have h1 := HB1.out
  have h2 := HBX.out
  have h3 := HB.out
  exact ⟨h2.os.trans h1.os, h2.tape.trans h1.tape, h2.output.trans h1.output, Nat.le_trans h1.size h2.size, fun k hk => (h2.block k (by omega) (by omega)).trans (h1.block k (by omega))⟩
set_option maxRecDepth 100000 in
set_option maxHeartbeats 1000000 in
theorem put_std (v : Value) (l : List UInt8) (w : World) (hlen : l.length ≤ 100000) (hl : Bys w v l) :
    Calls Try.prog 10 #[v] w fun e w' => e = .returned (.string ⟨(put false l).toArray⟩) ∧ Below w.heap.size w w' := by
  have HL := Lib.hid hl
  clear hl
  go_enter Try.func10, Try.ntmps10
  go_wp2_with fail
  refine (encoded_any false _ v l w rfl hlen HL.out).mono ?_
  rintro e w1 ⟨rfl, hb⟩
  go_wp2
  go_ret
  exact ⟨rfl, hb⟩
set_option maxRecDepth 100000 in
set_option maxHeartbeats 1000000 in
theorem put_url (v : Value) (l : List UInt8) (w : World) (hlen : l.length ≤ 100000) (hl : Bys w v l) :
    Calls Try.prog 13 #[v] w fun e w' => e = .returned (.string ⟨(put true l).toArray⟩) ∧ Below w.heap.size w w' := by
  have HL := Lib.hid hl
  clear hl
  go_enter Try.func13, Try.ntmps13
  go_wp2_with fail
  refine (encoded_any true _ v l w rfl hlen HL.out).mono ?_
  rintro e w1 ⟨rfl, hb⟩
  go_wp2
  go_ret
  exact ⟨rfl, hb⟩
end Go.Proofs.Ytnbonoallcjlbaa
