/-
  The statement ValueSays holds.
  Conditions: none.
-/
import Derived.Test.YthncckdagmjjnaaRows
import Derived.Test.YthncckdagmjjnaaValOpen
import Derived.Test.YthncckdagmjjnaaValRn
import Derived.Test.YthncckdagmjjnaaValAw
import Derived.Test.YthncckdagmjjnaaValLi
import Derived.Test.YthncckdagmjjnaaValQ
import Derived.Test.YthncckdagmjjnaaValMore
import Derived.Deep.RegionHeld3
import Derived.ProofKit
import Derived.OpenShut
import Derived.ShutString
namespace Go.Proofs.Ythncckdagmjjnaa
open Go.RowKit Go.Shelf

set_option maxRecDepth 100000 in
set_option maxHeartbeats 4000000 in
theorem says_true (t : VT) (v : Value) (m : List (ByteArray × VT)) (sv : Value) (cm : Nat → Nat → Value) (w : World) (hv : VAt w.heap.size w t v) (hm : MAt w.heap.size w m sv cm) :
    Calls Try.prog 4 #[v, sv] w fun e w' => e = .returned (.bool true) ∧ Below w.heap.size w w' := by
  obtain ⟨c0, c1, c2, c3, c4, rfl⟩ := vAt_agg hv
  obtain ⟨ao, cap, rfl, -⟩ := hm.1.form
  have HV := Lib.hid hv
  have HM := Lib.hid hm
  clear hv hm
  go_enter Try.func4, Try.ntmps4
  go_wp2_with fail
  generalize hW0 : w.alloc _ = W0
  have hbx : W0.heap[w.heap.size]? = some (.cells #[c0, c1, c2, c3, c4] 26 (0, 0)) := by subst hW0; exact World.alloc_heap_new w _
  have hb0 : Below w.heap.size w W0 := by subst hW0; exact (Below.refl _ w).alloc (Nat.le_refl _) _
  have hz0 : w.heap.size < W0.heap.size := by subst hW0; simp
  have HX0 := Lib.hid hbx
  have HB0 := Lib.hid hb0
  clear hW0 hbx hb0
  refine (awake_true _).mono ?_
  rintro e w1 ⟨rfl, hb1⟩
  have HX1 := Lib.hid (box_keep HX0.out hb1 hz0)
  have HB1 := Lib.hid (HB0.out.trans (hb1.mono HB0.out.size))
  have hz1 : w.heap.size < w1.heap.size := Nat.lt_of_lt_of_le hz0 hb1.size
  clear hb1
  obtain ⟨x0, x1, x2, x3, x4⟩ := c5of HX1.out
  go_wp2_with fail
  obtain ⟨r, hr⟩ : ∃ r : Bool, r = true ↔ wt 800 71 t ≤ 800 := ⟨decide (wt 800 71 t ≤ 800), by simp⟩
  refine (light_any HV.out w1 HB1.out HB1.out.size r hr).mono ?_
  rintro e w2 ⟨rfl, hb2⟩
  have HX2 := Lib.hid (box_keep HX1.out hb2 hz1)
  have HB2 := Lib.hid (HB1.out.trans (hb2.mono HB1.out.size))
  have hz2 : w.heap.size < w2.heap.size := Nat.lt_of_lt_of_le hz1 hb2.size
  clear hb2 x0 x1 x2 x3 x4
  cases r with
  | false =>
    clear hr
    go_wp2
    go_ret
    exact ⟨rfl, HB2.out⟩
  | true =>
    have HL1 := Lib.hid (hr.1 rfl)
    clear hr
    go_wp2_with fail
    obtain ⟨r, hr⟩ : ∃ r : Bool, r = true ↔ wt 800 71 (.mk 0 0 ⟨#[]⟩ [] m) ≤ 800 := ⟨decide (wt 800 71 (.mk 0 0 ⟨#[]⟩ [] m) ≤ 800), by simp⟩
    refine (light_any (HM.out.val 0 rfl) w2 HB2.out HB2.out.size r hr).mono ?_
    rintro e w3 ⟨rfl, hb3⟩
    have HX3 := Lib.hid (box_keep HX2.out hb3 hz2)
    have HB3 := Lib.hid (HB2.out.trans (hb3.mono HB2.out.size))
    have hz3 : w.heap.size < w3.heap.size := Nat.lt_of_lt_of_le hz2 hb3.size
    clear hb3
    cases r with
    | false =>
      clear hr
      go_wp2
      go_ret
      exact ⟨rfl, HB3.out⟩
    | true =>
      have HL2 := Lib.hid (hr.1 rfl)
      clear hr
      have HML := Lib.hid (show m.length ≤ 1000000 by have := (light_len _ HL2.out).1; simp [VT.m] at this; omega)
      have HDL := Lib.hid (show dep t ≤ 1000000 by have := light_dep _ HL1.out; omega)
      obtain ⟨rg, hrg⟩ : ∃ r : Bool, r = true ↔ GoodV t := by classical exact ⟨decide (GoodV t), by rw [decide_eq_true_iff]⟩
      have HRG := Lib.hid hrg
      clear hrg
      obtain ⟨x0, x1, x2, x3, x4⟩ := c5of HX3.out
      have HQ : ∀ x : World, Below w3.heap.size w3 x → Hid (Below w.heap.size w x ∧ w.heap.size ≤ x.heap.size) := fun x h => Lib.hid ⟨HB3.out.trans (h.mono (Nat.le_of_lt hz3)), Nat.le_trans (Nat.le_of_lt hz3) h.size⟩
      have HBX : ∀ x : World, Below w3.heap.size w3 x → Hid (x.heap[w.heap.size]? = some (.cells #[c0, c1, c2, c3, c4] 26 (0, 0))) := fun x h => Lib.hid (box_keep HX3.out h hz3)
      have HD3 := Lib.hid (show Below w3.heap.size w3 w3.drew from (Below.refl _ w3).drew)
      go_wp2_with fail
      go_region_held3 (fun x => x.cell? ⟨w.heap.size, 0, none⟩ = some c0 ∧ x.cell? ⟨w.heap.size, 1, none⟩ = some c1 ∧ x.cell? ⟨w.heap.size, 2, none⟩ = some c2 ∧ x.cell? ⟨w.heap.size, 3, none⟩ = some c3 ∧ x.cell? ⟨w.heap.size, 4, none⟩ = some c4)
        (first | exact ⟨x0, x1, x2, x3, x4⟩ | exact ⟨by assumption, by assumption, by assumption, by assumption, by assumption⟩)
        (first
          | (go_at_call 23; refine (depth_any HV.out HDL.out _ (HQ w3.drew HD3.out).out.1 (HQ w3.drew HD3.out).out.2).mono ?_; rintro e w4 ⟨rfl, hq⟩; have hb4 : Below w3.heap.size w3 w4 := HD3.out.trans (hq.mono HD3.out.size); clear hq; obtain ⟨a40, a41, a42, a43, a44⟩ := c5of (HBX w4 hb4).out)
          | (go_at_call 30; refine (rdepth_any HV.out HDL.out _ (HQ w4 hb4).out.1 (HQ w4 hb4).out.2).mono ?_; rintro e w5 ⟨rfl, hq⟩; have hb5 : Below w3.heap.size w3 w5 := (hb4).trans (hq.mono (hb4).size); clear hq; obtain ⟨a50, a51, a52, a53, a54⟩ := c5of (HBX w5 hb5).out)
          | (go_at_call 15; refine (vgood_any HV.out _ (HQ w5 hb5).out.1 (HQ w5 hb5).out.2 rg HRG.out).mono ?_; rintro e w6 ⟨rfl, hq⟩; have hb6 : Below w3.heap.size w3 w6 := (hb5).trans (hq.mono (hb5).size); clear hq; obtain ⟨a60, a61, a62, a63, a64⟩ := c5of (HBX w6 hb6).out)
          | (go_at_call 31; refine (rgood_any HV.out HDL.out _ (HQ w6 hb6).out.1 (HQ w6 hb6).out.2 rg HRG.out).mono ?_; rintro e w7 ⟨rfl, hq⟩; have hb7 : Below w3.heap.size w3 w7 := (hb6).trans (hq.mono (hb6).size); clear hq; obtain ⟨a70, a71, a72, a73, a74⟩ := c5of (HBX w7 hb7).out)
          | (go_at_call 18; refine (map_all HM.out _ (HQ w7 hb7).out.1 (HQ w7 hb7).out.2 HML.out).mono ?_; rintro e w8 ⟨u8, l8, rfl, hl8, hx8, hq⟩; have hb8 : Below w3.heap.size w3 w8 := (hb7).trans (hq.mono (hb7).size); clear hq; obtain ⟨a80, a81, a82, a83, a84⟩ := c5of (HBX w8 hb8).out; have HL8 := Lib.hid hl8; have HX8 := Lib.hid hx8; clear hl8 hx8)
          | (go_at_call 33; refine (rmap_any HM.out _ (HQ w8 hb8).out.1 (HQ w8 hb8).out.2 HML.out).mono ?_; rintro e w9 ⟨u9, l9, rfl, hl9, hx9, hq⟩; have hq9 := hq; have hb9 : Below w3.heap.size w3 w9 := (hb8).trans (hq.mono (hb8).size); clear hq; obtain ⟨a90, a91, a92, a93, a94⟩ := c5of (HBX w9 hb9).out; have HL9 := Lib.hid (hl9.unique HL8.out); have HX9 := Lib.hid hx9; have HY9 := Lib.hid ((HX8.out.keep hq9).mono hq9.size); clear hl9 hx9 hq9)
          | (go_at_call 32; refine (rsame_any HY9.out HX9.out _ (Below.refl _ w9) (Nat.le_refl _) true (by rw [HL9.out]; simp)).mono ?_; rintro e w10 ⟨rfl, hq⟩; have hb10 : Below w3.heap.size w3 w10 := hb9.trans (hq.mono hb9.size); clear hq; obtain ⟨a100, a101, a102, a103, a104⟩ := c5of (HBX w10 hb10).out))
      go_wp2
      go_ret
      exact ⟨rfl, (HQ w10 hb10).out.1⟩

section
open Go.ChangeShapes Go.WideShapes Go.ChangeAt Go.Deep
open Go.ChangeMaps (open_string shut_string)
theorem says_own : ownKnob Try.prog.godebug = none := by kernel_rfl
theorem says_laid : laidOutB Try.prog = true := by kernel_rfl

set_option maxRecDepth 100000 in
theorem says_lifted (os : Os) (started : os.Started) (H : Type) (enc : TypeId × Value → H) :
    ReturnsInHanded {} Try.checked os 4 .any (Rows.valueSaysSpec.pre6 enc Try.prog Try.f4 Rows.valueSaysRow.domain false) (Rows.valueSaysSpec.post enc Try.prog Try.f4 false true false false) := by
  refine returnsInHanded_of_change_sized (C := Try.checked) says_own started (by kernel_rfl) Try.func4
    (ChangeSpec.witness6 (enc := enc) (C := Try.checked) false ⟨#[], #[.agg #[.int .i64 0, .int .i64 0, .string ⟨#[]⟩, .slice none 0 0, .slice none 0 0], .slice none 0 0], []⟩ 8 (by kernel_rfl) (by kernel_rfl) (by kernel_rfl) (by kernel_rfl)) ?_
  intro W base args ds gs before hval0 hW hcnd hsz0 _
  have hval : ∀ (j : Nat) t v, Try.f4.params[j]? = some t → args[j]? = some v → Value.okWide Try.prog W .any base t v := hval0
  have hW' := hW
  obtain ⟨p, q, hA0, hV, rfl, hfz, hnd⟩ := hW
  have hA : DataW.TrodAll enc Try.prog W 0 (fun _ => true) true Try.f4.params.toList args.toList ds p := hA0
  have hsz : (DataW.weightsEach Try.prog Try.f4.params.toList ds).all (· ≤ reachBytes) = true := by
    obtain ⟨rfl, rfl⟩ := trodVars_none hV
    rw [List.append_nil] at hsz0
    exact hsz0
  rw [Try.params4] at hA hval hsz
  obtain ⟨v0, vs0, d0, ds0, p0, q0, hargs, rfl, rfl, h0, r0⟩ := trodAll_cons hA
  obtain ⟨v1, vs1, d1, ds1, p1, q1, rfl, rfl, rfl, h1, r1⟩ := trodAll_cons r0
  obtain ⟨rfl, rfl, rfl⟩ := trodAll_nil r1
  obtain rfl : args = #[v0, v1] := by cases args; simp_all
  obtain ⟨rfl, rfl⟩ := trodVars_none hV
  have hw0 : ∀ n ∈ d0.weights Try.prog 26, n ≤ reachBytes := fun n hn => by simpa using List.all_eq_true.1 hsz n (DataW.weights_mem_each (j := 0) rfl rfl n hn)
  have hlt0 : ∀ x ∈ p0, x.block < W.heap.size := fun x hx => hW'.lt x (by simp [hx])
  have hh0 := h0
  obtain ⟨t0, hv0⟩ : ∃ t, VAt W.heap.size W t v0 := by
    obtain ⟨cs, rfl, hcs⟩ := okWide_struct Try.underlying26 (hval 0 26 v0 rfl rfl)
    obtain ⟨fuel, hf⟩ := h0
    obtain ⟨t, c0, c1, c2, c3, c4, hc, hv⟩ := open_val _ fuel _ (d0, p0) (Nat.lt_succ_self _) hf hw0
    refine ⟨t, ?_⟩
    have e : cs = #[c0, c1, c2, c3, c4] := by apply Array.toList_inj.1; simpa [Value.cells] using hc
    rw [e]; exact hv
  have hw1 : ∀ n ∈ d1.weights Try.prog 24, n ≤ reachBytes := fun n hn => by simpa using List.all_eq_true.1 hsz n (DataW.weights_mem_each (j := 1) rfl rfl n hn)
  have hlt1 : ∀ x ∈ p1, x.block < W.heap.size := fun x hx => hW'.lt x (by simp [hx])
  have hh1 := h1
  obtain ⟨m1, cm1, hv1⟩ : ∃ m cm, MAt W.heap.size W m v1 cm := by
    obtain ⟨fuel, hf⟩ := h1
    obtain ⟨aa, ll, cc, rfl⟩ := okWide_slice Try.underlying24 (hval 1 24 v1 rfl rfl)
    exact open_mems fuel _ (d1, p1) hf hw1
  clear hA0 hval0 hsz0
  simp only [List.append_nil] at hW'
  refine (says_true t0 v0 m1 v1 cm1 W hv0 hv1).mono fun e W' ⟨he, bel⟩ => ?_
  subst he
  exact ⟨_, rfl, _, _, _, [], _, [], hW', trodAll_mk1 (shut_bool Try.underlying4 _), (trodAll_cons_mk (Below.trod says_laid (by kernel_rfl) (of_decide_eq_true (by kernel_rfl)) hh0 bel hlt0) (trodAll_cons_mk (Below.trod says_laid (by kernel_rfl) (of_decide_eq_true (by kernel_rfl)) hh1 bel hlt1) trodAll_mk0)), rfl, bel.frame _, fun h => by cases h⟩

theorem says_holds : Rows.ValueSaysSaid :=
  OpenClaim.holds_of_wide 4 Try.f4 rfl rfl rfl rfl rfl rfl rfl ⟨rfl, rfl, rfl, rfl, rfl⟩ rfl rfl rfl rfl rfl (by kernel_rfl) Try.func4 (by kernel_rfl)
    (of_decide_eq_true (by kernel_rfl)) (by unfold Func.isWrapper; first | (rw [if_pos (by decide +kernel)]; kernel_rfl) | (rw [if_neg (by decide +kernel)]; exact ⟨rfl, rfl⟩))
    (fun os started H enc _ => says_lifted os started H enc)
#print axioms says_holds

end
end Go.Proofs.Ythncckdagmjjnaa
