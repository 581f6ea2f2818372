/-
  The statement SumKnown of the stage sha: the call answers true.
  Conditions: the two tables hold what the program's text lays there (tied by the card).
-/
import Derived.Test.YtchghmcjnppmkaaDoorShO
import Derived.Test.YtchghmcjnppmkaaDoorShL
namespace Go.Proofs.YtchghmcjnppmkaaDoor
open Go.ChangeShapes Go.WideShapes Go.ChangeAt Go.RowKit

set_option maxRecDepth 100000 in
set_option maxHeartbeats 4000000 in
theorem sknown_true (w : World) (hG : Gl w) : Calls Tryd.prog 3 #[] w fun e w' => e = .returned (.bool true) ∧ Below w.heap.size w w' := by
  have HG := Lib.hid hG
  clear hG
  have kc := fun (w : World) (C : Array Value) (n c : Nat) => Lib.run_convert_bytes_const (P := Tryd.prog) w 23 5 C n c Tryd.underlying23 Tryd.underlying5
  have z24 := zd256
  have z26 := zd512
  go_enter Tryd.func3, Tryd.ntmps3
  go_wp2_with fail
  refine (awake6_true w HG.out).mono ?_
  rintro e w1 ⟨rfl, hb1⟩
  have HB1 := Lib.hid hb1
  have HG1 := Lib.hid (HG.out.below hb1)
  clear hb1 HG
  go_wp2_with fail
  generalize hW2 : World.alloc _ _ = W2
  have HY2 := Lib.hid (show Bys W2 (.slice (some ⟨w1.heap.size, 0, none⟩) 56 56) longL by subst hW2; exact bys_newF w1 longL _ (by decide))
  have hb2 : Below w1.heap.size w1 W2 := by subst hW2; exact (Below.refl _ w1).alloc (Nat.le_refl _) _
  have HB2 := Lib.hid (bchain HB1.out hb2)
  have HG2 := Lib.hid (HG1.out.below hb2)
  clear hW2 hb2 HB1 HG1
  refine (sum256_any _ _ W2 (bss_none W2) (by decide) (by decide) HG2.out).mono ?_
  rintro e w3 ⟨rfl, hb3⟩
  generalize hS1 : sum256 (flat []) = S1
  have HS1 := Lib.hid (show S1.length = 32 ∧ hx S1 = _ by rw [← hS1]; exact ⟨sum256_len _, k256_no⟩)
  have HB3 := Lib.hid (bchain HB2.out hb3)
  have HG3 := Lib.hid (HG2.out.below hb3)
  have HY3 := Lib.hid (HY2.out.below hb3)
  clear hb3 hS1 HB2 HG2 HY2
  go_wp2_with fail
  generalize hW4 : World.alloc _ _ = W4
  obtain ⟨hr4, hb4⟩ : Bss W4.heap.size W4 (.slice (some ⟨w3.heap.size, 0, none⟩) 1 1) [longL] ∧ Below w3.heap.size w3 W4 := by subst hW4; exact ⟨bss_one HY3.out, (Below.refl _ w3).alloc (Nat.le_refl _) _⟩
  have HR4 := Lib.hid hr4
  have HB4 := Lib.hid (bchain HB3.out hb4)
  have HG4 := Lib.hid (HG3.out.below hb4)
  clear hW4 hr4 hb4 HB3 HG3 HY3
  refine (sum256_any _ _ W4 HR4.out (by rw [flat_one]; decide) (by decide) HG4.out).mono ?_
  rintro e w5 ⟨rfl, hb5⟩
  rw [flat_one]
  generalize hS2 : sum256 longL = S2
  have HS2 := Lib.hid (show S2.length = 32 ∧ hx S2 = _ by rw [← hS2]; exact ⟨sum256_len _, k256_long⟩)
  have HB5 := Lib.hid (bchain HB4.out hb5)
  have HG5 := Lib.hid (HG4.out.below hb5)
  clear hb5 hS2 HB4 HG4 HR4
  have HZ1 := Lib.hid (show (Tryd.prog.info? 24).map (·.size) = some (byteVals S1).toArray.size by rw [size_byteVals, HS1.out.1]; exact szd256)
  have HZ2 := Lib.hid (show (Tryd.prog.info? 24).map (·.size) = some (byteVals S2).toArray.size by rw [size_byteVals, HS2.out.1]; exact szd256)
  go_wp2_with (first
    | (refine wpList_store_row rfl 24 _ _ rfl w5.heap.size (byteVals S1).toArray rfl rfl 24 _ (alloc2_at w5 _ _).1 HZ1.out ?hold1 (byteVals_one _) ?_)
    | (refine wpList_store_row rfl 24 _ _ rfl (w5.heap.size + 1) (byteVals S2).toArray rfl rfl 24 _ ((setRow_other _ _ _ _ (by omega)).trans (alloc2_at w5 _ _).2) HZ2.out ?hold2 (byteVals_one _) (Stop.out ?_)))
  case hold1 => rw [size_byteVals, size_byteVals, zerB_len, HS1.out.1]
  case hold2 => rw [size_byteVals, size_byteVals, zerB_len, HS2.out.1]
  generalize hW6 : World.setRow _ _ _ = W6
  obtain ⟨p1, p2, p3⟩ : BT W6 w5.heap.size 24 S1 ∧ BT W6 (w5.heap.size + 1) 24 S2 ∧ Below w5.heap.size w5 W6 := by subst hW6; exact put2 w5 _ _ _ _ _ _
  have HT1 := Lib.hid p1
  have HT2 := Lib.hid p2
  have HB6 := Lib.hid (bchain HB5.out p3)
  have HG6 := Lib.hid (HG5.out.below p3)
  generalize w5.heap.size = m at HT1 HT2 ⊢
  clear hW6 p1 p2 p3 HZ1 HZ2 HB5 HG5
  have HY1 := Lib.hid (show Bys W6 (.slice (some ⟨m, 0, none⟩) 32 32) S1 by
    have := HT1.out.bys 32 32 (by rw [HS1.out.1]; exact Nat.le_refl _) (Nat.le_refl _) (by decide)
    rwa [List.take_of_length_le (by rw [HS1.out.1]; exact Nat.le_refl _)] at this)
  have HY2 := Lib.hid (show Bys W6 (.slice (some ⟨m + 1, 0, none⟩) 32 32) S2 by
    have := HT2.out.bys 32 32 (by rw [HS2.out.1]; exact Nat.le_refl _) (Nat.le_refl _) (by decide)
    rwa [List.take_of_length_le (by rw [HS2.out.1]; exact Nat.le_refl _)] at this)
  refine ⟨?_⟩
  go_wp2_with fail
  refine (sum512_any _ _ W6 (bss_none W6) (by decide) (by decide) HG6.out).mono ?_
  rintro e w7 ⟨rfl, hb7⟩
  generalize hS3 : sum512 (flat []) = S3
  have HS3 := Lib.hid (show S3.length = 64 ∧ hx S3 = _ by rw [← hS3]; exact ⟨sum512_len _, k512_no⟩)
  have HB7 := Lib.hid (bchain HB6.out hb7)
  have HG7 := Lib.hid (HG6.out.below hb7)
  have HA7 := Lib.hid (HY1.out.below hb7)
  have HC7 := Lib.hid (HY2.out.below hb7)
  clear hb7 hS3 HB6 HG6 HY1 HY2 HT1 HT2
  go_wp2_with fail
  generalize hW8 : World.alloc _ _ = W8'
  obtain ⟨hr8, hb8⟩ : Bss W8'.heap.size W8' (.slice (some ⟨w7.heap.size + 1, 0, none⟩) 1 1) [[97, 98, 99]] ∧ Below w7.heap.size w7 W8' := by subst hW8; exact row_lit w7 [97, 98, 99] _ (by decide)
  have HR8 := Lib.hid hr8
  have HB8 := Lib.hid (bchain HB7.out hb8)
  have HG8 := Lib.hid (HG7.out.below hb8)
  have HA8 := Lib.hid (HA7.out.below hb8)
  have HC8 := Lib.hid (HC7.out.below hb8)
  clear hW8 hr8 hb8 HB7 HG7 HA7 HC7
  refine (sum512_any _ _ W8' HR8.out (by decide) (by decide) HG8.out).mono ?_
  rintro e w9 ⟨rfl, hb9⟩
  rw [flat_one]
  generalize hS4 : sum512 [97, 98, 99] = S4
  have HS4 := Lib.hid (show S4.length = 64 ∧ hx S4 = _ by rw [← hS4]; exact ⟨sum512_len _, k512_abc⟩)
  have HB9 := Lib.hid (bchain HB8.out hb9)
  have HA9 := Lib.hid (HA8.out.below hb9)
  have HC9 := Lib.hid (HC8.out.below hb9)
  clear hb9 hS4 HB8 HG8 HR8 HA8 HC8
  have HZ1 := Lib.hid (show (Tryd.prog.info? 26).map (·.size) = some (byteVals S3).toArray.size by rw [size_byteVals, HS3.out.1]; exact szd512)
  have HZ2 := Lib.hid (show (Tryd.prog.info? 26).map (·.size) = some (byteVals S4).toArray.size by rw [size_byteVals, HS4.out.1]; exact szd512)
  go_wp2_with (first
    | (refine wpList_store_row rfl 26 _ _ rfl w9.heap.size (byteVals S3).toArray rfl rfl 26 _ (alloc2_at w9 _ _).1 HZ1.out ?hold1 (byteVals_one _) ?_)
    | (refine wpList_store_row rfl 26 _ _ rfl (w9.heap.size + 1) (byteVals S4).toArray rfl rfl 26 _ ((setRow_other _ _ _ _ (by omega)).trans (alloc2_at w9 _ _).2) HZ2.out ?hold2 (byteVals_one _) (Stop.out ?_)))
  case hold1 => rw [size_byteVals, size_byteVals, zerB_len, HS3.out.1]
  case hold2 => rw [size_byteVals, size_byteVals, zerB_len, HS4.out.1]
  generalize hWa : World.setRow _ _ _ = Wa
  obtain ⟨p1, p2, p3⟩ : BT Wa w9.heap.size 26 S3 ∧ BT Wa (w9.heap.size + 1) 26 S4 ∧ Below w9.heap.size w9 Wa := by subst hWa; exact put2 w9 _ _ _ _ _ _
  have HT3 := Lib.hid p1
  have HT4 := Lib.hid p2
  have HBa := Lib.hid (bchain HB9.out p3)
  have HAa := Lib.hid (HA9.out.below p3)
  have HCa := Lib.hid (HC9.out.below p3)
  generalize w9.heap.size = m2 at HT3 HT4 ⊢
  clear hWa p1 p2 p3 HZ1 HZ2 HB9 HA9 HC9 z24 z26
  have HDa := Lib.hid (show Bys Wa (.slice (some ⟨m2, 0, none⟩) 64 64) S3 by
    have := HT3.out.bys 64 64 (by rw [HS3.out.1]; exact Nat.le_refl _) (Nat.le_refl _) (by decide)
    rwa [List.take_of_length_le (by rw [HS3.out.1]; exact Nat.le_refl _)] at this)
  have HEa := Lib.hid (show Bys Wa (.slice (some ⟨m2 + 1, 0, none⟩) 64 64) S4 by
    have := HT4.out.bys 64 64 (by rw [HS4.out.1]; exact Nat.le_refl _) (Nat.le_refl _) (by decide)
    rwa [List.take_of_length_le (by rw [HS4.out.1]; exact Nat.le_refl _)] at this)
  refine ⟨?_⟩
  go_wp2_with fail
  refine (hexC_any _ S1 Wa (by rw [HS1.out.1]; decide) HAa.out).mono ?_
  rintro e wb ⟨rfl, hb⟩
  rw [HS1.out.2]
  have HBb := Lib.hid hb
  clear hb
  go_wp2_with fail
  refine (hexC_any _ S2 wb (by rw [HS2.out.1]; decide) (HCa.out.below HBb.out)).mono ?_
  rintro e wc ⟨rfl, hb⟩
  rw [HS2.out.2]
  have HBc := Lib.hid (bchain HBb.out hb)
  clear hb HBb
  go_wp2_with fail
  refine (hexC_any _ S3 wc (by rw [HS3.out.1]; decide) (HDa.out.below HBc.out)).mono ?_
  rintro e wd ⟨rfl, hb⟩
  rw [HS3.out.2]
  have HBd := Lib.hid (bchain HBc.out hb)
  clear hb HBc
  go_wp2_with fail
  refine (hexC_any _ S4 wd (by rw [HS4.out.1]; decide) (HEa.out.below HBd.out)).mono ?_
  rintro e we ⟨rfl, hb⟩
  rw [HS4.out.2]
  have HBe := Lib.hid (bchain HBd.out hb)
  clear hb HBd
  go_wp2_with fail
  refine (hexC_any (.slice none 0 0) [] we (by decide) ⟨none, 0, rfl, ⟨by decide, by decide, fun _ => rfl⟩, .inl rfl⟩).mono ?_
  rintro e wf ⟨rfl, hb⟩
  rw [show hx [] = [] from rfl]
  have HBf := Lib.hid (bchain HBe.out hb)
  clear hb HBe
  go_wp2_with fail
  refine (hexC_any _ [0, 255, 16] _ (by decide) (bys_newF wf [0, 255, 16] _ (by decide))).mono ?_
  rintro e wg ⟨rfl, hb⟩
  rw [show hx [0, 255, 16] = [48, 48, 102, 102, 49, 48] by decide +kernel]
  have HBg := Lib.hid (bchain HBa.out (bchain HBf.out (bchain ((Below.refl _ wf).alloc (Nat.le_refl _) _) hb)))
  clear hb HBf
  go_wp2
  go_ret
  exact ⟨rfl, HBg.out⟩

theorem sknown_laid : laidOutB Tryd.prog = true := by kernel_rfl
set_option maxRecDepth 100000 in
theorem sknown_lifted (os : Os) (started : os.Started) (H : Type) (enc : TypeId × Value → H) :
    ReturnsInHanded {} Tryd.checked os 3 .any (fun w args => (Rows.sumKnownSpec.pre enc Tryd.prog Tryd.f3 [] false w args ∧ laidMetH Tryd.prog laid2 w) ∧ sizedMet enc Tryd.prog Tryd.f3 (OpenSpec.ofChange Rows.sumKnownSpec) false w args)
      (Rows.sumKnownSpec.post enc Tryd.prog Tryd.f3 false true false false) := by
  refine returnsInHanded_of_change_and (C := Tryd.checked) (X := fun w _ => laidMetH Tryd.prog laid2 w) (fun _ _ _ hh h => h.of_heap hh) door_own started (by kernel_rfl) Tryd.func3
    (ChangeSpec.witness_shaped (enc := enc) (C := Tryd.checked) (os := os) (X := fun w _ => laidMetH Tryd.prog laid2 w) false (World.doorLaid Tryd.prog doorSteps os) #[] 8 rfl (World.shaped_of_RefB (by kernel_rfl) (by kernel_rfl)) (by kernel_rfl) (by kernel_rfl) (by kernel_rfl) (door_met os _)) ?_
  intro W base args ds gs before hval0 hW _ _ hL _
  have hW' := hW
  obtain ⟨p, q, hA0, hV, rfl, hfz, hnd⟩ := hW
  have hA : DataW.TrodAll enc Tryd.prog W 0 (fun _ => true) true Tryd.f3.params.toList args.toList ds p := hA0
  rw [Tryd.params3] at hA
  obtain ⟨rfl, rfl, rfl⟩ := trodAll_none hA
  obtain ⟨rfl, rfl⟩ := trodVars_none hV
  clear hA0 hval0
  simp only [List.append_nil] at hW'
  refine (sknown_true  W  (of_laid hL)).mono fun e W' ⟨he, bel⟩ => ?_
  subst he
  exact ⟨_, rfl, _, _, _, [], _, [], hW', trodAll_mk1 (shut_bool Tryd.underlying4 _), trodAll_mk0, rfl, bel.frame _, fun h => by cases h⟩

theorem sknown_holds : Rows.SumKnownSaid :=
  OpenClaim.holds_of_wide 3 Tryd.f3 rfl rfl rfl rfl rfl rfl rfl ⟨rfl, rfl, rfl, rfl, rfl⟩ rfl rfl rfl rfl rfl (by kernel_rfl) Tryd.func3 (by kernel_rfl)
    (of_decide_eq_true (by kernel_rfl)) (by unfold Func.isWrapper; first | (rw [if_pos (by decide +kernel)]; kernel_rfl) | (rw [if_neg (by decide +kernel)]; exact ⟨rfl, rfl⟩))
    (fun os started H enc _ => sknown_lifted os started H enc)
theorem sknown_card : Rows.SumKnownCardSaid :=
  Claim7.holds_tied_plain_at .later [] Rows.sumKnownCard.laidKinds true Rows.sumKnownCard.stood.harness false
    sknown_holds (fun _ h => by cases h) (by kernel_rfl) (fun _ h => by cases h) sumKnown_row_tie rfl ⟨rfl, rfl⟩ (by kernel_rfl) rfl
    (fun f fn hf hfn => by
      obtain rfl : f = 3 := Option.some.inj ((show Tryd.prog.funcNamed "introit/introitlaw6.SumKnown" = some 3 by kernel_rfl).symm.trans hf) |>.symm
      obtain rfl : fn = Tryd.f3 := (Option.some.inj (Tryd.func3.symm.trans hfn)).symm
      exact ⟨by kernel_rfl, fun j t ht => by
        rw [Tryd.params3] at ht
        simp at ht⟩)
    (by kernel_rfl)
#print axioms sknown_card

end Go.Proofs.YtchghmcjnppmkaaDoor
