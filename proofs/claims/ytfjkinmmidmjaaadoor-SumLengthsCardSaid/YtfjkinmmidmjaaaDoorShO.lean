/-
  What awake of the statements of stage 6 answers.
  Conditions: the two tables hold what the program's text lays there.
-/
import Derived.Test.YtfjkinmmidmjaaaDoorShU256
import Derived.Test.YtfjkinmmidmjaaaDoorShU512
import Derived.Test.YtfjkinmmidmjaaaDoorShQ
import Derived.Lib.SlBytesConst
namespace Go.Proofs.YtfjkinmmidmjaaaDoor
open Go.ChangeShapes Go.WideShapes Go.ChangeAt Go.RowKit

/-- A row of one slice of bytes. -/
theorem bss_one {w : World} {v : Value} {l : List UInt8} (h : Bys w v l) : Bss (w.alloc (.cells #[v] 22)).heap.size (w.alloc (.cells #[v] 22)) (.slice (some ⟨w.heap.size, 0, none⟩) 1 1) [l] := by
  refine ⟨_, 1, rfl, .inr ⟨w.heap.size, 0, rfl, by simp, fun i hi => ?_⟩⟩
  have h0 : i = 0 := by simpa using hi
  subst h0
  refine ⟨v, ?_, ?_⟩
  · rw [cell_of_row _ _ _ _ _ _ (Go.heap_alloc_new _ _)]; rfl
  · exact (h.b (B := w.heap.size) (Nat.le_refl _) |>.keep (fun k hk => Go.heap_alloc_old _ _ hk)).mono (by simp)
theorem row_lit (w : World) (l : List UInt8) (fr : Nat × Nat) (h : l.length ≤ 100000) :
    Bss ((w.alloc (.cells (byteVals l).toArray 5 fr)).alloc (.cells #[.slice (some ⟨w.heap.size, 0, none⟩) l.length l.length] 22)).heap.size ((w.alloc (.cells (byteVals l).toArray 5 fr)).alloc (.cells #[.slice (some ⟨w.heap.size, 0, none⟩) l.length l.length] 22)) (.slice (some ⟨w.heap.size + 1, 0, none⟩) 1 1) [l] ∧
    Below w.heap.size w ((w.alloc (.cells (byteVals l).toArray 5 fr)).alloc (.cells #[.slice (some ⟨w.heap.size, 0, none⟩) l.length l.length] 22)) := by
  have := bss_one (bys_newF w l fr h)
  rw [show (w.alloc (.cells (byteVals l).toArray 5 fr)).heap.size = w.heap.size + 1 by simp] at this
  exact ⟨this, ((Below.refl _ w).alloc (Nat.le_refl _) _).alloc (by simp) _⟩
theorem bss_none (w : World) : Bss w.heap.size w (.slice none 0 0) [] := ⟨none, 0, rfl, .inl rfl⟩
theorem flat_one (l : List UInt8) : flat [l] = l := by simp [flat]
/-- An array of bytes, sliced. -/
theorem BT.bys {w : World} {b : Nat} {t : TypeId} {l : List UInt8} (h : BT w b t l) (m n : Nat) (hm : m ≤ l.length) (hn : m ≤ n) (h2 : n ≤ 1000) : Bys w (.slice (some ⟨b, 0, none⟩) m n) (l.take m) := by
  have hl : (l.take m).length = m := by rw [List.length_take]; omega
  refine ⟨_, n, by rw [hl], ⟨by rw [hl]; exact hn, by unfold maxLen; omega, fun h => by cases h⟩, .inr ⟨b, 0, rfl, (Array.getElem?_eq_some_iff.1 h).1, fun i hi => ?_⟩⟩
  have h3 : i < l.length := by omega
  rw [Nat.zero_add, h.cell h3, List.getElem_take]
  simp [List.getD_eq_getElem?_getD, List.getElem?_eq_getElem h3]
theorem sum256_len (l : List UInt8) : (sum256 l).length = 32 := by show (dig256 _).length = _; rw [dig256_eq]; simp
theorem sum512_len (l : List UInt8) : (sum512 l).length = 64 := by show (dig512 _).length = _; rw [dig512_eq]; simp
theorem put2 (w : World) (c1 c2 : Array Value) (t1 t2 : TypeId) (S1 S2 : Array Value) :
    let W := (((w.alloc (.cells c1 t1)).alloc (.cells c2 t2)).setRow w.heap.size S1).setRow (w.heap.size + 1) S2
    W.heap[w.heap.size]? = some (.cells S1 t1 (0, 0)) ∧ W.heap[w.heap.size + 1]? = some (.cells S2 t2 (0, 0)) ∧ Below w.heap.size w W := by
  refine ⟨?_, ?_, ?_⟩
  · rw [setRow_other _ _ _ _ (by omega)]; exact setRow_heap _ _ _ _ _ _ (alloc2_at w _ _).1
  · exact setRow_heap _ _ _ _ _ _ ((setRow_other _ _ _ _ (by omega)).trans (alloc2_at w _ _).2)
  · exact Below.setRow (Below.setRow (((Below.refl _ w).alloc (Nat.le_refl _) _).alloc (by simp) _) (Nat.le_refl _) _) (by omega) _
set_option maxRecDepth 100000 in
set_option maxHeartbeats 2000000 in
theorem awake6_true (w : World) (hG : Gl w) : Calls Tryd.prog 5 #[] w fun e w' => e = .returned (.bool true) ∧ Below w.heap.size w w' := by
  have HG := Lib.hid hG
  clear hG
  go_enter Tryd.func5, Tryd.ntmps5
  have kc := fun (w : World) (C : Array Value) (n c : Nat) => Lib.run_convert_bytes_const (P := Tryd.prog) w 22 5 C n c Tryd.underlying22 Tryd.underlying5
  have z24 := zd256
  have z26 := zd512
  go_wp2_with fail
  generalize hW1 : World.alloc _ _ = W1
  obtain ⟨hr1, hb1⟩ : Bss W1.heap.size W1 (.slice (some ⟨w.heap.size + 1, 0, none⟩) 1 1) [[97, 98, 99]] ∧ Below w.heap.size w W1 := by subst hW1; exact row_lit w [97, 98, 99] _ (by decide)
  have HB1 := Lib.hid hb1
  have HG1 := Lib.hid (HG.out.below hb1)
  have HR1 := Lib.hid hr1
  clear hW1 hb1 hr1
  refine (sum256_any _ _ W1 HR1.out (by decide) (by decide) HG1.out).mono ?_
  rintro e w2 ⟨rfl, hb2⟩
  rw [flat_one]
  generalize hS1 : sum256 [97, 98, 99] = S1
  have HS1 := Lib.hid (show S1.length = 32 ∧ hx S1 = _ by rw [← hS1]; exact ⟨sum256_len _, k256_abc⟩)
  have HB2 := Lib.hid (bchain HB1.out hb2)
  have HG2 := Lib.hid (HG1.out.below hb2)
  clear hb2 hS1 HB1 HG1 HR1
  go_wp2_with fail
  generalize hW3 : World.alloc _ _ = W3
  obtain ⟨hr3, hb3⟩ : Bss W3.heap.size W3 (.slice (some ⟨w2.heap.size + 1, 0, none⟩) 1 1) [[97, 98, 99]] ∧ Below w2.heap.size w2 W3 := by subst hW3; exact row_lit w2 [97, 98, 99] _ (by decide)
  have HB3 := Lib.hid (bchain HB2.out hb3)
  have HG3 := Lib.hid (HG2.out.below hb3)
  have HR3 := Lib.hid hr3
  clear hW3 hb3 hr3 HB2 HG2
  refine (sum512_any _ _ W3 HR3.out (by decide) (by decide) HG3.out).mono ?_
  rintro e w4 ⟨rfl, hb4⟩
  rw [flat_one]
  generalize hS2 : sum512 [97, 98, 99] = S2
  have HS2 := Lib.hid (show S2.length = 64 ∧ hx (S2.take 8) = _ by rw [← hS2]; exact ⟨sum512_len _, k512_abc8⟩)
  have HB4 := Lib.hid (bchain HB3.out hb4)
  clear hb4 hS2 HB3 HG3 HR3 HG
  have HZ1 := Lib.hid (show (Tryd.prog.info? 24).map (·.size) = some (byteVals S1).toArray.size by rw [size_byteVals, HS1.out.1]; exact szd256)
  have HZ2 := Lib.hid (show (Tryd.prog.info? 26).map (·.size) = some (byteVals S2).toArray.size by rw [size_byteVals, HS2.out.1]; exact szd512)
  go_wp2_with (first
    | (refine wpList_store_row rfl 24 _ _ rfl w4.heap.size (byteVals S1).toArray rfl rfl 24 _ (alloc2_at w4 _ _).1 HZ1.out ?hold1 (byteVals_one _) ?_)
    | (refine wpList_store_row rfl 26 _ _ rfl (w4.heap.size + 1) (byteVals S2).toArray rfl rfl 26 _ ((setRow_other _ _ _ _ (by omega)).trans (alloc2_at w4 _ _).2) HZ2.out ?hold2 (byteVals_one _) (Stop.out ?_)))
  case hold1 => rw [size_byteVals, size_byteVals, zerB_len, HS1.out.1]
  case hold2 => rw [size_byteVals, size_byteVals, zerB_len, HS2.out.1]
  generalize hW5 : World.setRow _ _ _ = W5
  obtain ⟨p1, p2, p3⟩ : BT W5 w4.heap.size 24 S1 ∧ BT W5 (w4.heap.size + 1) 26 S2 ∧ Below w4.heap.size w4 W5 := by subst hW5; exact put2 w4 _ _ _ _ _ _
  have HT1 := Lib.hid p1
  have HT2 := Lib.hid p2
  have HB5 := Lib.hid (bchain HB4.out p3)
  generalize w4.heap.size = m at *
  clear hW5 p1 p2 p3 z24 z26 HZ1 HZ2
  refine ⟨?_⟩
  have HY1 := Lib.hid (show Bys W5 (.slice (some ⟨m, 0, none⟩) 32 32) S1 by
    have := HT1.out.bys 32 32 (by rw [HS1.out.1]; exact Nat.le_refl _) (Nat.le_refl _) (by decide)
    rwa [List.take_of_length_le (by rw [HS1.out.1]; exact Nat.le_refl _)] at this)
  have HY2 := Lib.hid (HT2.out.bys 8 64 (by rw [HS2.out.1]; decide) (by decide) (by decide))
  go_wp2_with fail
  refine (hexC_any _ S1 W5 (by rw [HS1.out.1]; decide) HY1.out).mono ?_
  rintro e w6 ⟨rfl, hb6⟩
  rw [HS1.out.2]
  have HB6 := Lib.hid hb6
  clear hb6
  go_wp2_with fail
  refine (hexC_any _ (S2.take 8) w6 (by rw [List.length_take, HS2.out.1]; decide) (HY2.out.below HB6.out)).mono ?_
  rintro e w7 ⟨rfl, hb7⟩
  rw [HS2.out.2]
  have HB7 := Lib.hid (bchain HB5.out (bchain HB6.out hb7))
  clear hb7
  go_wp2
  go_ret
  exact ⟨rfl, HB7.out⟩
end Go.Proofs.YtfjkinmmidmjaaaDoor
