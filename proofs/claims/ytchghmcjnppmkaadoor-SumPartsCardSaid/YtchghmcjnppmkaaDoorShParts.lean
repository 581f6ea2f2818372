/-
  The statement SumParts of the stage sha: for all bytes and all cuts the call answers true.
  Conditions: the two tables hold what the program's text lays there (tied by the card).
-/
import Derived.Test.YtchghmcjnppmkaaDoorShO
import Derived.Test.YtchghmcjnppmkaaDoorShL
import Derived.Test.YtchghmcjnppmkaaDoorShEq
namespace Go.Proofs.YtchghmcjnppmkaaDoor
open Go.ChangeShapes Go.WideShapes Go.ChangeAt Go.RowKit

theorem i64_cells : Tryd.prog.cellsOf 3 = 1 := by kernel_rfl
/-- A slice of numbers that came in. -/
def Nums (w : World) (v : Value) (l : List Int) : Prop :=
  ∃ ao cap, v = .slice ao l.length cap ∧ l.length ≤ maxLen ∧ (l = [] ∨ ∃ g off, ao = some ⟨g, off, none⟩ ∧ g < w.heap.size ∧ ∀ i (h : i < l.length), w.cell? ⟨g, off + i, none⟩ = some (.int .i64 l[i]) ∧ -9223372036854775808 ≤ l[i] ∧ l[i] ≤ 9223372036854775807)
theorem open_nums {H : Type} {enc : TypeId × Value → H} {W : World} {base : Nat} {v1 : Value} {d1 : DataW H} {p1 : List MemPlace} (hval : Value.okWide Tryd.prog W .any base 34 v1) (h1 : DataW.Trod enc Tryd.prog W 0 (fun _ => true) true 34 v1 d1 p1) :
    ∃ l : List Int, Nums W v1 l := by
  obtain ⟨a1, len, cap, rfl⟩ := okWide_slice Tryd.underlying34 hval
  obtain ⟨fuel, hf⟩ := h1
  rcases open_ints Tryd.underlying34 Tryd.underlying3 i64_cells hf with ⟨hcs, hx⟩ | ⟨a, len', cap', zs, hcs, _, hl, hm, hz, hx, hcell, hwz⟩
  · simp [Value.cells] at hcs
    obtain ⟨rfl, rfl, rfl⟩ := hcs
    exact ⟨[], none, 0, rfl, by decide, .inl rfl⟩
  · simp [Value.cells] at hcs
    obtain ⟨rfl, rfl, rfl⟩ := hcs
    simp only [if_true] at hz
    have hlen : (zs.take len).length = len := by simp; omega
    refine ⟨zs.take len, some a, cap, by rw [hlen], by rw [hlen]; omega, ?_⟩
    by_cases h0 : len = 0
    · left
      exact List.eq_nil_of_length_eq_zero (by rw [hlen]; exact h0)
    right
    obtain ⟨ab, ao, spot⟩ := a
    have hc0 := hcell 0 (by omega)
    have hspot : spot = none := by simpa [Addr.add] using World.cell?_spot hc0
    subst hspot
    refine ⟨ab, ao, rfl, ?_, fun j hj => ?_⟩
    · rw [Addr.add_lit] at hc0
      simp only [World.cell?] at hc0
      apply Decidable.byContradiction
      intro hn
      rw [Array.getElem?_eq_none (by omega)] at hc0
      simp at hc0
    · rw [hlen] at hj
      have hcj := hcell j (by omega)
      rw [Addr.add_lit] at hcj
      have hb := range_i64 hwz j
      have e : zs.getD j 0 = zs[j]'(by omega) := by simp [List.getD, List.getElem?_eq_getElem (show j < zs.length by omega)]
      rw [List.getD_eq_getElem?_getD] at e
      rw [e] at hb
      rw [hcj, List.getD_eq_getElem?_getD, e, List.getElem_take]
      exact ⟨rfl, by omega, by omega⟩
theorem Bss.mono {B B' : Nat} {w : World} {v : Value} {ll : List (List UInt8)} (h : Bss B w v ll) (hB : B ≤ B') : Bss B' w v ll := by
  obtain ⟨ao, cap, rfl, h | ⟨g, off, rfl, hg, h⟩⟩ := h
  · exact ⟨ao, cap, rfl, .inl h⟩
  · refine ⟨_, cap, rfl, .inr ⟨g, off, rfl, by omega, fun i hi => ?_⟩⟩
    obtain ⟨u, h1, h2⟩ := h i hi
    exact ⟨u, h1, h2.mono hB⟩
theorem info_sl : (Tryd.prog.info? 23).map (fun i => (i.zero, i.size, i.bytes)) = some (some (.slice none 0 0), 1, 24) := by kernel_rfl
theorem sliced_bys {w : World} {ao : Option Addr} {cap : Nat} {b : List UInt8} (h : Bys w (.slice ao b.length cap) b) (f c : Nat) (h1 : f ≤ c) (h2 : c ≤ b.length) : BysB w.heap.size w (sliced ao f c cap 1) ((b.take c).drop f) := by
  have hl : ((b.take c).drop f).length = c - f := by rw [List.length_drop, List.length_take]; omega
  obtain ⟨ao', cap', e, hc, hor⟩ := h
  cases e
  refine ⟨_, _, by rw [hl]; rfl, ?_⟩
  by_cases h0 : c - f = 0
  · exact .inl (List.eq_nil_of_length_eq_zero (by rw [hl]; exact h0))
  right
  rcases hor with rfl | ⟨g, off, rfl, hg, hcell⟩
  · simp at h2; omega
  · refine ⟨g, off + f, ?_, hg, fun i hi => ?_⟩
    · rw [if_neg (by have := hc.1; omega)]
      show some ((⟨g, off, none⟩ : Addr).add (f * 1)) = _
      rw [Addr.add_lit, Nat.mul_one]
    · rw [hl] at hi
      rw [Nat.add_assoc, hcell (f + i) (by omega)]
      simp
/-- A row of slices of the call's own, as rows of bytes. -/
theorem own_bss {w : World} {B : Nat} {v : Value} {vs : List Value} {ll : List (List UInt8)} (h : w.ownsRow B 23 1 v vs.length vs) (hl : vs.length = ll.length) (he : ∀ i (h1 : i < vs.length) (h2 : i < ll.length), BysB w.heap.size w vs[i] ll[i]) : Bss w.heap.size w v ll := by
  obtain ⟨h1, h2⟩ := h
  rcases h2 with ⟨rfl, hn⟩ | ⟨g, cap, cur, rfl, hg, hh, hnc, hcm, hcs, htake⟩
  · have hx : ll = [] := List.eq_nil_of_length_eq_zero (by omega)
    subst hx
    exact ⟨none, 0, rfl, .inl rfl⟩
  · refine ⟨_, cap, by rw [hl], .inr ⟨g, 0, rfl, (Array.getElem?_eq_some_iff.1 hh).1, fun i hi => ?_⟩⟩
    have hi2 : i < vs.length := by omega
    refine ⟨vs[i], ?_, he i hi2 hi⟩
    have e : (cur.toList.take (vs.length * 1))[i]? = vs[i]? := by rw [htake]
    rw [List.getElem?_take, if_pos (by omega)] at e
    simp only [World.cell?, hh, Nat.zero_add]
    simp only [Option.isSome_none, Bool.false_eq_true, if_false]
    rw [← Array.getElem?_toList, e, List.getElem?_eq_getElem hi2]
theorem new_at (w : World) (U : Value) : ∀ (j : Nat) (u : Value), [U][j]? = some u → (w.alloc (.cells #[U] 23)).cell? ((⟨w.heap.size, 0, none⟩ : Addr).add j) = some u := by
  intro j u h
  rw [Addr.add_lit, Nat.zero_add, cell_of_row _ _ _ _ _ _ (Go.heap_alloc_new _ _)]
  simpa using h
theorem sliced_one (ao : Option Addr) (a b c d : Nat) : ∀ u ∈ [sliced ao a b c d], u.oneCell' = true := by
  intro u hu
  simp only [List.mem_cons, List.not_mem_nil, or_false] at hu
  subst hu
  rfl
theorem flat_snoc (ll : List (List UInt8)) (l : List UInt8) : flat (ll ++ [l]) = flat ll ++ l := by simp [flat]
theorem part_app (b : List UInt8) (f c : Nat) (h1 : f ≤ c) : b.take f ++ (b.take c).drop f = b.take c := by
  have : b.take f = (b.take c).take f := by rw [List.take_take, Nat.min_eq_left h1]
  rw [this, List.take_append_drop]
/-- What the loop over the cuts leaves. -/
def PSt (b : List UInt8) (w1 wr : World) (v : Value) (vs : List Value) (ll : List (List UInt8)) (f i : Nat) : Prop :=
  f ≤ b.length ∧ vs.length = ll.length ∧ vs.length ≤ i ∧ wr.ownsRow w1.heap.size 23 1 v vs.length vs ∧ (∀ j (h1 : j < vs.length) (h2 : j < ll.length), BysB w1.heap.size w1 vs[j] ll[j]) ∧ flat ll = b.take f ∧ Below w1.heap.size w1 wr
theorem PSt.step {b : List UInt8} {w1 wr w2 : World} {v v2 : Value} {vs : List Value} {ll : List (List UInt8)} {f i c cap : Nat} {ao : Option Addr} {o : Obj} (h : PSt b w1 wr v vs ll f i) (hb : Bys w1 (.slice ao b.length cap) b) (h1 : f ≤ c) (h2 : c ≤ b.length) (ho : w2.ownsRow w1.heap.size 23 1 v2 (vs.length + 1) (vs ++ [sliced ao f c cap 1])) (hg : (wr.alloc o).grownBy w2 v.ownBlock) : PSt b w1 w2 v2 (vs ++ [sliced ao f c cap 1]) (ll ++ [(b.take c).drop f]) c (i + 1) := by
  obtain ⟨hf, hl, hi, hown, hall, hfl, hbel⟩ := h
  refine ⟨h2, by simp [hl], by simp; omega, by simpa using ho, fun j j1 j2 => ?_, by rw [flat_snoc, hfl, part_app b f c h1], ?_⟩
  · by_cases hj : j < vs.length
    · rw [List.getElem_append_left hj, List.getElem_append_left (by omega)]
      exact hall j hj (by omega)
    · have e : j = vs.length := by simp at j1; omega
      subst e
      have h3 := sliced_bys hb f c h1 h2
      rw [List.getElem_append_right (by omega), List.getElem_append_right (by omega)]
      simpa [hl] using h3
  · refine hbel.trans (((Below.refl _ wr).alloc hbel.size o).grown hg (by have := hbel.size; simp; omega) (fun k hk => ?_))
    rcases hown.2 with ⟨rfl, _⟩ | ⟨g, cap, cur, rfl, hg, _⟩
    · simp [Value.ownBlock] at hk
    · simp [Value.ownBlock] at hk; omega
theorem PSt.bss {b : List UInt8} {w1 wr : World} {v : Value} {vs : List Value} {ll : List (List UInt8)} {f i : Nat} (h : PSt b w1 wr v vs ll f i) : Bss wr.heap.size wr v ll :=
  let ⟨_, hl, _, hown, hall, _, hbel⟩ := h
  own_bss hown hl (fun j j1 j2 => ((hall j j1 j2).keep (fun k hk => hbel.block k hk)).mono hbel.size)
set_option maxRecDepth 100000 in
set_option maxHeartbeats 4000000 in
theorem sparts_true (b : List UInt8) (v : Value) (cs : List Int) (v2 : Value) (w : World) (hl : Bys w v b) (hr : Nums w v2 cs) (hG : Gl w) :
    Calls Tryd.prog 6 #[v, v2] w fun e w' => e = .returned (.bool true) ∧ Below w.heap.size w w' := by
  have HL := Lib.hid hl
  have HG := Lib.hid hG
  obtain ⟨ao, cap, rfl, hcap, _⟩ := hl
  obtain ⟨ar, capr, rfl, hcm, har⟩ := hr
  have HAR := Lib.hid har
  have hcapm := hcap.2.1
  unfold maxLen at hcm hcapm
  have hbc : b.length ≤ cap := hcap.1
  clear har hG hcap
  go_enter Tryd.func6, Tryd.ntmps6
  go_wp2_with fail
  refine (awake6_true _ HG.out).mono ?_
  rintro e w1 ⟨rfl, hb1⟩
  have HB1 := Lib.hid hb1
  clear hb1
  by_cases h1 : 1000 < b.length
  · have h1' : (1000 : Int) < (b.length : Int) := by omega
    go_wp2
    go_ret
    exact ⟨rfl, HB1.out⟩
  have h1' : ¬ (1000 : Int) < (b.length : Int) := by omega
  by_cases h2 : 20 < cs.length
  · have h2' : (20 : Int) < (cs.length : Int) := by omega
    go_wp2
    go_ret
    exact ⟨rfl, HB1.out⟩
  have h2' : ¬ (20 : Int) < (cs.length : Int) := by omega
  have HL1 := Lib.hid (HL.out.below HB1.out)
  have HG1 := Lib.hid (HG.out.below HB1.out)
  obtain ⟨i0, hi, hz0, hz1, hz2⟩ := info_parts info_sl
  have HI := Lib.hid hi
  clear hi HG hcm
  go_wp2_with fail
  go_loopw [5, 6, 7] (fun lv fv iv wr => ∃ (i f : Nat) (o : Value) (vs : List Value) (ll : List (List UInt8)), lv = o ∧ fv = .int .i64 f ∧ iv = .int .i64 i ∧ i ≤ cs.length ∧ PSt b w1 wr o vs ll f i) (fun _ _ i _ => cs.length - (intOf i).toNat)
  case atStart => exact ⟨0, 0, _, [], [], rfl, rfl, rfl, Nat.zero_le _, Nat.zero_le _, rfl, Nat.le_refl _, World.ownsRow_nil _ _ _ _, fun j h => absurd h (by simp), by simp [flat], Below.refl _ _⟩
  case round =>
    obtain ⟨i, f, o, vs, ll, rfl, rfl, rfl, hi, hst⟩ := hrel
    have HST := Lib.hid hst
    have hfb : f ≤ b.length := hst.1
    have hvl : vs.length ≤ i := hst.2.2.1
    have HBEL := Lib.hid hst.2.2.2.2.2.2
    have HOWN := Lib.hid hst.2.2.2.1
    clear hst
    by_cases hlt : i < cs.length
    · have hlt' : (i : Int) < (cs.length : Int) := by omega
      obtain ⟨g, off, rfl, hg, hcell⟩ : ∃ g off, ar = some ⟨g, off, none⟩ ∧ g < w.heap.size ∧ ∀ i (h : i < cs.length), w.cell? ⟨g, off + i, none⟩ = some (.int .i64 cs[i]) ∧ -9223372036854775808 ≤ cs[i] ∧ cs[i] ≤ 9223372036854775807 := by
        rcases HAR.out with rfl | h
        · simp at hlt
        · exact h
      obtain ⟨hce0, hz3, hz4⟩ := hcell i hlt
      have hce : wr.cell? ⟨g, off + i, none⟩ = some (.int .i64 cs[i]) := by
        rw [World.cell?_of_block ((HBEL.out.block g (by have := HB1.out.size; omega)).trans (HB1.out.block g hg))]; exact hce0
      generalize cs[i] = z at hce hz3 hz4
      clear hce0 hcell hz3 hz4
      by_cases hin : (f : Int) ≤ z
      · by_cases hin2 : z ≤ (b.length : Int)
        · obtain ⟨c, rfl⟩ : ∃ c : Nat, z = (c : Int) := ⟨z.toNat, by omega⟩
          have hfc : f ≤ c := by omega
          have hcb : c ≤ b.length := by omega
          have hc1 : (0 : Int) ≤ (f : Int) := by omega
          have hc2 : (c : Int) ≤ (cap : Int) := by omega
          obtain ⟨A, N, C, hU⟩ : ∃ A N C, sliced ao f c cap 1 = .slice A N C := ⟨_, _, _, rfl⟩
          have hsl : ∀ W, (Instr.slice 23 (.slice ao b.length cap) (some (.int .i64 (f : Int))) (some (.int .i64 (c : Int))) none).run Tryd.prog W = .ok (.slice A N C) W := by
            intro W
            rw [run_slice_lh W 23 ao b.length cap (by kernel_rfl) .i64 .i64 _ _ hc1 hin hc2, show (sizeOf (Tryd.prog.elem 23)).run Tryd.prog W = .ok 1 W by kernel_rfl]
            simp only [Result.andThen_ok, Int.toNat_natCast, hU]
          have HU := Lib.hid hU
          have HNW := Lib.hid (new_at wr (.slice A N C))
          have H1U := Lib.hid (show ∀ u ∈ [Value.slice A N C], u.oneCell' = true by rw [← hU]; exact sliced_one _ _ _ _ _)
          clear hU
          go_wp2_with (first
            | (at_builtin; refine wpList_append_own _ rfl _ _ 35 rfl w1.heap.size 23 i0 (.slice none 0 0) 1 24 Tryd.underlying35 HI.out hz0 hz1 hz2 rfl (by decide) _ _ _ rfl (HOWN.out.alloc _) ⟨wr.heap.size, 0, none⟩ 1 1 [.slice A N C] rfl rfl HNW.out H1U.out (by unfold maxLen; omega) (by omega) (by have := HBEL.out.size; simp; omega) ?_))
          intro v' w' hown' hgrow hat
          have HS2 := Lib.hid (HST.out.step HL1.out hfc hcb (by rw [HU.out]; exact hown') hgrow)
          have hce2 : w'.cell? ⟨g, off + i, none⟩ = some (.int .i64 (c : Int)) := by
            have hB := HS2.out.2.2.2.2.2.2
            have hlt2 : g < w1.heap.size := by have := HB1.out.size; omega
            rw [World.cell?_of_block ((hB.block g hlt2).trans (HBEL.out.block g hlt2).symm)]; exact hce
          clear hown' hgrow hat HNW H1U hsl hce
          go_wp2
          go_roundw
          case rel => exact ⟨i + 1, c, _, _, _, rfl, rfl, rfl, hlt, HS2.out⟩
          case measure => simp [intOf]; omega
        · have hd : decide (z ≤ (b.length : Int)) = false := by simpa using hin2
          have HSK := Lib.hid (show PSt b w1 wr _ vs ll f (i + 1) from ⟨HST.out.1, HST.out.2.1, by omega, HST.out.2.2.2⟩)
          go_wp2
          go_roundw
          case rel => exact ⟨i + 1, f, _, _, _, rfl, rfl, rfl, hlt, HSK.out⟩
          case measure => simp [intOf]; omega
      · have hd : decide ((f : Int) ≤ z) = false := by simpa using hin
        have HSK := Lib.hid (show PSt b w1 wr _ vs ll f (i + 1) from ⟨HST.out.1, HST.out.2.1, by omega, HST.out.2.2.2⟩)
        go_wp2
        go_roundw
        case rel => exact ⟨i + 1, f, _, _, _, rfl, rfl, rfl, hlt, HSK.out⟩
        case measure => simp [intOf]; omega
    · have hlt' : ¬ (i : Int) < (cs.length : Int) := by omega
      have hc1 : (0 : Int) ≤ (f : Int) := by omega
      have hc2 : (f : Int) ≤ (b.length : Int) := by omega
      obtain ⟨A, N, C, hU⟩ : ∃ A N C, sliced ao f b.length cap 1 = .slice A N C := ⟨_, _, _, rfl⟩
      have hsl : ∀ W, (Instr.slice 23 (.slice ao b.length cap) (some (.int .i64 (f : Int))) none none).run Tryd.prog W = .ok (.slice A N C) W := by
        intro W
        rw [run_slice_l W 23 ao b.length cap (by kernel_rfl) .i64 _ hc1 hc2, show (sizeOf (Tryd.prog.elem 23)).run Tryd.prog W = .ok 1 W by kernel_rfl]
        simp only [Result.andThen_ok, Int.toNat_natCast, hU]
      have HU := Lib.hid hU
      have HNW := Lib.hid (new_at wr (.slice A N C))
      have H1U := Lib.hid (show ∀ u ∈ [Value.slice A N C], u.oneCell' = true by rw [← hU]; exact sliced_one _ _ _ _ _)
      clear hU HAR
      go_wp2_with (first
        | (at_builtin; refine wpList_append_own _ rfl _ _ 35 rfl w1.heap.size 23 i0 (.slice none 0 0) 1 24 Tryd.underlying35 HI.out hz0 hz1 hz2 rfl (by decide) _ _ _ rfl (HOWN.out.alloc _) ⟨wr.heap.size, 0, none⟩ 1 1 [.slice A N C] rfl rfl HNW.out H1U.out (by unfold maxLen; omega) (by omega) (by have := HBEL.out.size; simp; omega) ?_))
      intro v' w' hown' hgrow hat
      have hS2 := HST.out.step HL1.out hfb (Nat.le_refl _) (by rw [HU.out]; exact hown') hgrow
      obtain ⟨ll2, hll2⟩ : ∃ ll2, ll ++ [(b.take b.length).drop f] = ll2 := ⟨_, rfl⟩
      rw [hll2] at hS2
      have HFL := Lib.hid (show flat ll2 = b by rw [hS2.2.2.2.2.2.1, List.take_length])
      have HLE := Lib.hid (show ll2.length ≤ 1000000 by have e1 := hS2.2.1; have e2 := hS2.2.2.1; omega)
      have HBS := Lib.hid hS2.bss
      have HB2 := Lib.hid hS2.2.2.2.2.2.2
      clear hown' hgrow hat HNW H1U hsl hS2 hll2
      have HG2 := Lib.hid (HG1.out.below HB2.out)
      go_wp2_with fail
      refine (sum256_any _ ll2 w' HBS.out (by rw [HFL.out]; omega) HLE.out HG2.out).mono ?_
      rintro e w3 ⟨rfl, hb3⟩
      rw [HFL.out]
      have HB3 := Lib.hid hb3
      have HY3 := Lib.hid (HL1.out.below (bchain HB2.out hb3))
      clear hb3
      go_wp2_with fail
      generalize hW4 : World.alloc _ _ = W4
      obtain ⟨hr4, hb4⟩ : Bss W4.heap.size W4 (.slice (some ⟨w3.heap.size, 0, none⟩) 1 1) [b] ∧ Below w3.heap.size w3 W4 := by subst hW4; exact ⟨bss_one HY3.out, (Below.refl _ w3).alloc (Nat.le_refl _) _⟩
      have HR4 := Lib.hid hr4
      have HB4 := Lib.hid (bchain HB3.out hb4)
      clear hW4 hr4 hb4
      refine (sum256_any _ _ W4 HR4.out (by rw [flat_one]; omega) (by show 1 ≤ 1000000; decide) (HG2.out.below HB4.out)).mono ?_
      rintro e w5 ⟨rfl, hb5⟩
      rw [flat_one]
      have HB5 := Lib.hid (bchain HB4.out hb5)
      clear hb5 HR4 HB4
      have heq := eq_same 24 32 Tryd.underlying24 (sum256 b) (sum256_len b)
      have HBS5 := Lib.hid ((HBS.out.keep (fun k hk => HB5.out.block k hk)).mono HB5.out.size)
      go_wp2_with fail
      refine (sum512_any _ ll2 w5 HBS5.out (by rw [HFL.out]; omega) HLE.out (HG2.out.below HB5.out)).mono ?_
      rintro e w6 ⟨rfl, hb6⟩
      rw [HFL.out]
      have HB6 := Lib.hid (bchain HB5.out hb6)
      have HY6 := Lib.hid (HL1.out.below (bchain HB2.out HB6.out))
      clear hb6 heq
      go_wp2_with fail
      generalize hW7 : World.alloc _ _ = W7
      obtain ⟨hr7, hb7⟩ : Bss W7.heap.size W7 (.slice (some ⟨w6.heap.size, 0, none⟩) 1 1) [b] ∧ Below w6.heap.size w6 W7 := by subst hW7; exact ⟨bss_one HY6.out, (Below.refl _ w6).alloc (Nat.le_refl _) _⟩
      have HR7 := Lib.hid hr7
      have HB7 := Lib.hid (bchain HB6.out hb7)
      clear hW7 hr7 hb7
      refine (sum512_any _ _ W7 HR7.out (by rw [flat_one]; omega) (by show 1 ≤ 1000000; decide) (HG2.out.below HB7.out)).mono ?_
      rintro e w8 ⟨rfl, hb8⟩
      rw [flat_one]
      have heq2 := eq_same 26 64 Tryd.underlying26 (sum512 b) (sum512_len b)
      have HE := Lib.hid (bchain HB1.out (bchain HB2.out (bchain HB7.out hb8)))
      clear hb8
      go_wp2
      go_ret
      exact ⟨rfl, HE.out⟩

theorem sparts_laid : laidOutB Tryd.prog = true := by kernel_rfl
set_option maxRecDepth 100000 in
theorem sparts_lifted (os : Os) (started : os.Started) (H : Type) (enc : TypeId × Value → H) :
    ReturnsInHanded {} Tryd.checked os 6 .any (fun w args => (Rows.sumPartsSpec.pre enc Tryd.prog Tryd.f6 [] false w args ∧ laidMetH Tryd.prog laid2 w) ∧ sizedMet enc Tryd.prog Tryd.f6 (OpenSpec.ofChange Rows.sumPartsSpec) false w args)
      (Rows.sumPartsSpec.post enc Tryd.prog Tryd.f6 false true false false) := by
  refine returnsInHanded_of_change_and (C := Tryd.checked) (X := fun w _ => laidMetH Tryd.prog laid2 w) (fun _ _ _ hh h => h.of_heap hh) door_own started (by kernel_rfl) Tryd.func6
    (ChangeSpec.witness_shaped (enc := enc) (C := Tryd.checked) (os := os) (X := fun w _ => laidMetH Tryd.prog laid2 w) false (World.doorLaid Tryd.prog doorSteps os) #[.slice none 0 0, .slice none 0 0] 8 rfl (World.shaped_of_RefB (by kernel_rfl) (by kernel_rfl)) (by kernel_rfl) (by kernel_rfl) (by kernel_rfl) (door_met os _)) ?_
  intro W base args ds gs before hval0 hW _ _ hL _
  have hval : ∀ (j : Nat) t v, Tryd.f6.params[j]? = some t → args[j]? = some v → Value.okWide Tryd.prog W .any base t v := hval0
  have hW' := hW
  obtain ⟨p, q, hA0, hV, rfl, hfz, hnd⟩ := hW
  have hA : DataW.TrodAll enc Tryd.prog W 0 (fun _ => true) true Tryd.f6.params.toList args.toList ds p := hA0
  rw [Tryd.params6] at hA hval
  obtain ⟨v0, vs0, d0, ds0, p0, q0, hargs, rfl, rfl, h0, r0⟩ := trodAll_cons hA
  obtain ⟨v1, vs1, d1, ds1, p1, q1, rfl, rfl, rfl, h1, r1⟩ := trodAll_cons r0
  obtain ⟨rfl, rfl, rfl⟩ := trodAll_nil r1
  obtain rfl : args = #[v0, v1] := by cases args; simp_all
  obtain ⟨rfl, rfl⟩ := trodVars_none hV
  have hlt0 : ∀ x ∈ p0, x.block < W.heap.size := fun x hx => hW'.lt x (by simp [hx])
  have hh0 := h0
  obtain ⟨l0, hv0⟩ := open_bys (hval 0 23 v0 rfl rfl) h0
  have hlt1 : ∀ x ∈ p1, x.block < W.heap.size := fun x hx => hW'.lt x (by simp [hx])
  have hh1 := h1
  obtain ⟨l1, hv1⟩ := open_nums (hval 1 34 v1 rfl rfl) h1
  clear hA0 hval0
  simp only [List.append_nil] at hW'
  refine (sparts_true l0 v0 l1 v1 W hv0 hv1 (of_laid hL)).mono fun e W' ⟨he, bel⟩ => ?_
  subst he
  exact ⟨_, rfl, _, _, _, [], _, [], hW', trodAll_mk1 (shut_bool Tryd.underlying4 _), (trodAll_cons_mk (Below.trod sparts_laid (by kernel_rfl) (of_decide_eq_true (by kernel_rfl)) hh0 bel hlt0) (trodAll_cons_mk (Below.trod sparts_laid (by kernel_rfl) (of_decide_eq_true (by kernel_rfl)) hh1 bel hlt1) trodAll_mk0)), rfl, bel.frame _, fun h => by cases h⟩

theorem sparts_holds : Rows.SumPartsSaid :=
  OpenClaim.holds_of_wide 6 Tryd.f6 rfl rfl rfl rfl rfl rfl rfl ⟨rfl, rfl, rfl, rfl, rfl⟩ rfl rfl rfl rfl rfl (by kernel_rfl) Tryd.func6 (by kernel_rfl)
    (of_decide_eq_true (by kernel_rfl)) (by unfold Func.isWrapper; first | (rw [if_pos (by decide +kernel)]; kernel_rfl) | (rw [if_neg (by decide +kernel)]; exact ⟨rfl, rfl⟩))
    (fun os started H enc _ => sparts_lifted os started H enc)
theorem sparts_card : Rows.SumPartsCardSaid :=
  Claim7.holds_tied_plain_at .later [] Rows.sumPartsCard.laidKinds true Rows.sumPartsCard.stood.harness false
    sparts_holds (fun _ h => by cases h) (by kernel_rfl) (fun _ h => by cases h) sumParts_row_tie rfl ⟨rfl, rfl⟩ (by kernel_rfl) rfl
    (fun f fn hf hfn => by
      obtain rfl : f = 6 := Option.some.inj ((show Tryd.prog.funcNamed "introit/introitlaw6.SumParts" = some 6 by kernel_rfl).symm.trans hf) |>.symm
      obtain rfl : fn = Tryd.f6 := (Option.some.inj (Tryd.func6.symm.trans hfn)).symm
      exact ⟨by kernel_rfl, fun j t ht => by
        rw [Tryd.params6] at ht
        have hm : t ∈ [23, 34] := by simpa using Array.mem_of_getElem? ht
        have hall : ([23, 34].all fun u => !Tryd.prog.wantsStandIn u) = true := by kernel_rfl
        exact (show Tryd.prog.wantsStandIn t = false by simpa using List.all_eq_true.1 hall t hm)⟩)
    (by kernel_rfl)
#print axioms sparts_card

end Go.Proofs.YtchghmcjnppmkaaDoor
