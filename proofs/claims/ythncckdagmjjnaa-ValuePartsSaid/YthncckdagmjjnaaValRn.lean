/-
  The document's own answer Map, walked.
  Conditions: none.
-/
import Derived.Test.YthncckdagmjjnaaValMc
import Derived.Test.YthncckdagmjjnaaValRm
namespace Go.Proofs.Ythncckdagmjjnaa
open Go.RowKit

theorem put6_of {W : World} {g o : Nat} {enc : Nat → Nat → Value} {x : Nat} {c0 c1 c2 c3 c4 c5 : Value} (h : enc x 0 = c0 ∧ enc x 1 = c1 ∧ enc x 2 = c2 ∧ enc x 3 = c3 ∧ enc x 4 = c4 ∧ enc x 5 = c5) :
    (((((W.setCell ⟨g, o, none⟩ c0).setCell ⟨g, o + 1, none⟩ c1).setCell ⟨g, o + 2, none⟩ c2).setCell ⟨g, o + 3, none⟩ c3).setCell ⟨g, o + 4, none⟩ c4).setCell ⟨g, o + 5, none⟩ c5 = put6 W g o (enc x) := by
  obtain ⟨rfl, rfl, rfl, rfl, rfl, rfl⟩ := h
  rfl

theorem RowOwn.there {W : World} {g cap : Nat} {enc : Nat → Nat → Value} {d : List Nat} (h : RowOwn W g cap enc d) {i : Nat} (hi : i < d.length) : ∃ v0 v1 v2 v3 v4 v5, W.cell? ⟨g, i * 6, none⟩ = some v0 ∧ W.cell? ⟨g, i * 6 + 1, none⟩ = some v1 ∧ W.cell? ⟨g, i * 6 + 2, none⟩ = some v2 ∧ W.cell? ⟨g, i * 6 + 3, none⟩ = some v3 ∧ W.cell? ⟨g, i * 6 + 4, none⟩ = some v4 ∧ W.cell? ⟨g, i * 6 + 5, none⟩ = some v5 := ⟨_, _, _, _, _, _, h.at hi⟩

set_option maxRecDepth 100000 in
set_option maxHeartbeats 4000000 in
theorem rmap_made {n₀ k₀ : Nat} {w0 : World} {m : List (ByteArray × VT)} {sv : Value} {cm : Nat → Nat → Value} (h : MAt n₀ w0 m sv cm) (w : World) (hw : Below n₀ w0 w) (hz : n₀ ≤ w.heap.size) (hn : m.length ≤ 1000000) (hv : MCells k₀ w0 m (flat6 cm (List.range m.length))) (hk₀ : k₀ ≤ n₀) :
    Calls Try.prog 33 #[sv] w fun e w' => ∃ x L, e = .returned x ∧ IsMap m L ∧ MadeV k₀ (w.heap.size + 1) w' (.mk 5 0 ⟨#[]⟩ [] L) x ∧ Below w.heap.size w w' := by
  have HCV := Lib.hid (hv.keep (hw.mono hk₀))
  have HK0 := Lib.hid hk₀
  clear hv hk₀
  obtain ⟨i0, hi0, hz0, hz1, hz2⟩ := info_parts info_mem
  have h' : MAt n₀ w m sv cm := ⟨h.1.below hw, h.2.1, fun i hi => (h.2.2 i hi).keep hw⟩
  obtain ⟨ao, cap, rfl, -⟩ := h.1.form
  have HM := Lib.hid h'
  have HZ := Lib.hid hz
  have HEZ := Lib.hid (show Mems (encZ m.length cm) (keyD m) m.length from ⟨fun x hx => by rw [encZ_lt hx]; exact h'.mems.k x hx, fun x hx => by
    obtain ⟨k, n, s, a1, l1, p1, a2, l2, p2, e1, e2, e3, e4, e5⟩ := h'.mems.f x hx
    exact ⟨k, n, s, a1, l1, p1, a2, l2, p2, by rw [encZ_lt hx]; exact e1, by rw [encZ_lt hx]; exact e2, by rw [encZ_lt hx]; exact e3, by rw [encZ_lt hx]; exact e4, by rw [encZ_lt hx]; exact e5⟩⟩)
  clear h h' hw hz
  go_enter Try.func33, Try.ntmps33
  go_wp2_with fail
  generalize hW1 : w.alloc _ = W1
  have hv1 : W1.heap[w.heap.size]? = some (.cells #[.int .i64 0, .int .i64 0, .string ⟨#[]⟩, .slice none 0 0, .slice none 0 0] 26 (0, 0)) := by subst hW1; exact World.alloc_heap_new w _
  have hb1 : Below w.heap.size w W1 := by subst hW1; exact (Below.refl _ w).alloc (Nat.le_refl _) _
  have hz1' : W1.heap.size = w.heap.size + 1 := by subst hW1; simp
  have HV1 := Lib.hid hv1
  have HB1 := Lib.hid hb1
  have HZ1 := Lib.hid hz1'
  clear hW1 hv1 hb1 hz1'
  go_loopw [3, 4] (fun ov iv wr => ∃ (i : Nat) (D : List Nat), i ≤ m.length ∧ iv = .int .i64 i ∧ RmAt m cm W1.heap.size i D ov W1 wr) (fun _ i _ => m.length - (intOf i).toNat)
  case atStart => exact ⟨0, [], Nat.zero_le _, rfl, ⟨⟨List.Pairwise.nil, fun y => by simp⟩, Nat.le_refl _⟩, World.ownsRow_nil _ _ _ _, Below.refl _ _⟩
  case round =>
    obtain ⟨i, D, hi, rfl, hrm⟩ := hrel
    rename World => Wr
    obtain ⟨⟨hidx, hDl⟩, hown, hbw⟩ := hrm
    obtain ⟨oa, oc, rfl, hoc⟩ := ownsRow_form hown
    have HIX := Lib.hid hidx
    have HOWN := Lib.hid hown
    have HBW := Lib.hid hbw
    have HDN := Lib.hid (show ∀ x ∈ D, x < m.length from fun x hx => by have := ((hidx.2 x).1 hx).1; omega)
    have hoc' : oc ≤ maxLen := hoc
    have HOC := Lib.hid hoc'
    clear hidx hown hbw hoc hoc'
    have hDl9 : D.length ≤ 1000000 := by omega
    by_cases hil : i < m.length
    · obtain ⟨bb, off, hao, hbn, c0, c1, c2, c3, c4, c5⟩ := HM.out.1.at6 hil
      obtain ⟨ek, en, es, ea, el, ep, eb, em, eq, e1, e2, e3, e4, e5⟩ := (HM.out.2.2 i hil).form6
      simp only [Nat.reduceAdd] at e1 e2 e3 e4 e5
      have e0 : cm i 0 = .string (keyD m i) := HM.out.mems.k i hil
      rw [e0] at c0; rw [e1] at c1; rw [e2] at c2; rw [e3] at c3; rw [e4] at c4; rw [e5] at c5
      obtain ⟨ky, hky⟩ : ∃ ky, ky = keyD m i := ⟨_, rfl⟩
      have HEI := Lib.hid (show encZ m.length cm i 0 = .string ky ∧ encZ m.length cm i 1 = .int .i64 ek ∧ encZ m.length cm i 2 = .int .i64 en ∧ encZ m.length cm i 3 = .string es ∧ encZ m.length cm i 4 = .slice ea el ep ∧ encZ m.length cm i 5 = .slice eb em eq by
        simp only [encZ_lt hil]; exact ⟨by rw [hky]; exact e0, e1, e2, e3, e4, e5⟩)
      rw [← hky] at c0
      have HCELL := Lib.hid (show ∀ W' : World, Below n₀ w W' → W'.cell? ⟨bb, off + i * 6, none⟩ = some (.string ky) ∧ W'.cell? ⟨bb, off + i * 6 + 1, none⟩ = some (.int .i64 ek) ∧ W'.cell? ⟨bb, off + i * 6 + 2, none⟩ = some (.int .i64 en) ∧ W'.cell? ⟨bb, off + i * 6 + 3, none⟩ = some (.string es) ∧ W'.cell? ⟨bb, off + i * 6 + 4, none⟩ = some (.slice ea el ep) ∧ W'.cell? ⟨bb, off + i * 6 + 5, none⟩ = some (.slice eb em eq) from
        fun W' hb => ⟨(hb.cell (p := ⟨bb, off + i * 6, none⟩) hbn).trans c0, (hb.cell (p := ⟨bb, off + i * 6 + 1, none⟩) hbn).trans c1, (hb.cell (p := ⟨bb, off + i * 6 + 2, none⟩) hbn).trans c2, (hb.cell (p := ⟨bb, off + i * 6 + 3, none⟩) hbn).trans c3, (hb.cell (p := ⟨bb, off + i * 6 + 4, none⟩) hbn).trans c4, (hb.cell (p := ⟨bb, off + i * 6 + 5, none⟩) hbn).trans c5⟩)
      have HBB := Lib.hid (show bb < n₀ from hbn)
      subst hao
      have HKY := Lib.hid hky
      clear e0 e1 e2 e3 e4 e5 hbn hky c0 c1 c2 c3 c4 c5
      have i5 : (i : Int) < (m.length : Int) := by omega
      go_wp2_with fail
      go_loopw [5] (fun kv wq => ∃ k : Nat, k ≤ D.length ∧ kv = .int .i64 k ∧ (∀ t, t < k → ltS (keyD m (D.getD t 0)) ky = true) ∧ Below Wr.heap.size Wr wq) (fun k _ => D.length - (intOf k).toNat)
      case atStart => exact ⟨0, Nat.zero_le _, rfl, fun t ht => absurd ht (Nat.not_lt_zero _), Below.refl _ _⟩
      case round =>
        obtain ⟨k, hk, rfl, hlow, hbq⟩ := hrel
        have HLOW := Lib.hid hlow
        have HBQ := Lib.hid hbq
        have HOWQ := Lib.hid (ownsRow_keep HOWN.out hbq)
        clear hlow hbq
        rename World => Wq
        have HNW := Lib.hid (show Below n₀ w Wq from (HB1.out.trans ((HBW.out.trans (HBQ.out.mono HBW.out.size)).mono HB1.out.size)).mono HZ.out)
        have hbr : bb < Wq.heap.size := by have := HBB.out; have := HZ.out; have := HBW.out.size; have := HBQ.out.size; have := HZ1.out; omega
        have x0 := (HCELL.out Wq HNW.out).1
        by_cases hkD : k < D.length
        · have hkD' : (k : Int) < (D.length : Int) := by omega
          have hkDb : decide (k < D.length) = true := by simpa using hkD
          obtain ⟨g, cap', hsl, hg, hc', hcm', hrow⟩ := rowOwn_of HOWQ.out (by omega) rfl
          simp only [Value.slice.injEq] at hsl
          obtain ⟨rfl, -, rfl⟩ := hsl
          obtain ⟨x, hx⟩ : ∃ x, D.getD k 0 = x := ⟨_, rfl⟩
          have hxN : x < m.length := HDN.out x (by rw [← hx]; exact getD_mem hkD)
          obtain ⟨fk, fn, fs, fa, fl, fp, fb, fm, fq, -, d0, -, -, -, -, -⟩ := hrow.open6 HEZ.out hkD hx hxN
          have hgz := hrow.lt
          have HROW := Lib.hid hrow
          have HXN := Lib.hid hxN
          have HX := Lib.hid hx
          obtain ⟨dk, hdk⟩ : ∃ dk, dk = keyD m x := ⟨_, rfl⟩
          rw [← hdk] at d0
          have HDK := Lib.hid hdk
          have HG := Lib.hid (And.intro hg hcm')
          clear hrow hx hxN hdk hg hcm'
          have kx := fun p => KidOf.cell hbr x0 p
          have kd := fun p => KidOf.cell hgz d0 p
          by_cases hlt : Op.bytesLess dk.toList ky.toList = true
          · clear x0 d0
            go_wp2_with fail
            refine wp_region_below (by kernel_rfl) (by kernel_rfl) ?_
            repeat (go_big_quiet_step (fail))
            refine wpQuiet_nil ?_
            rintro wz ⟨⟨_, hbz0⟩, rfl⟩
            have hbz1 : Below Wq.heap.size Wq wz := hbz0
            have HBZ := Lib.hid hbz1
            clear hbz0 hbz1 kx kd
            go_wp2
            go_roundw
            case measure => simp [intOf]; omega
            case rel =>
              refine ⟨k + 1, by omega, by go_num, fun t ht => ?_, HBQ.out.trans (HBZ.out.mono HBQ.out.size)⟩
              by_cases e : t = k
              · subst e; rw [HX.out, ← HDK.out]; exact hlt
              · exact HLOW.out t (by omega)
          · have hlt' : Op.bytesLess dk.toList ky.toList = false := by simpa using hlt
            clear hlt
            go_wp2_with fail
            refine wp_region_below (by kernel_rfl) (by kernel_rfl) ?_
            repeat (go_big_quiet_step (fail))
            refine wpQuiet_nil ?_
            rintro wz ⟨⟨_, hbz0⟩, rfl⟩
            have hbz1 : Below Wq.heap.size Wq wz := hbz0
            have HBZ := Lib.hid hbz1
            clear hbz0 hbz1 kx kd
            have d1 : wz.cell? ⟨g, k * 6, none⟩ = some (.string dk) := (HBZ.out.cell (p := ⟨g, k * 6, none⟩) hgz).trans d0
            have y0 : wz.cell? ⟨bb, off + i * 6, none⟩ = some (.string ky) := (HBZ.out.cell (p := ⟨bb, off + i * 6, none⟩) hbr).trans x0
            have hgz2 : g < wz.heap.size := Nat.lt_of_lt_of_le hgz HBZ.out.size
            have hbr2 : bb < wz.heap.size := Nat.lt_of_lt_of_le hbr HBZ.out.size
            have kx := fun p => KidOf.cell hbr2 y0 p
            have kd := fun p => KidOf.cell hgz2 d1 p
            clear d0 x0
            rename World => Wz
            have HBZ2 := Lib.hid (show Below Wr.heap.size Wr Wz from HBQ.out.trans (HBZ.out.mono HBQ.out.size))
            clear d1 y0
            by_cases heq : (dk.toList == ky.toList) = true
            · have HEQ := Lib.hid (show dk = ky by
                have h1 : dk.toList = ky.toList := by simpa using heq
                exact (show ∀ {x y : ByteArray}, x.toList = y.toList → x = y from fun h => by rw [ByteArray.toList_eq, ByteArray.toList_eq] at h; exact Go.WideShapes.bytes_inj h) h1)
              go_wp2_with fail
              refine wp_region_below (by kernel_rfl) (by kernel_rfl) ?_
              repeat (go_big_quiet_step (fail))
              refine wpQuiet_nil ?_
              rintro wz ⟨⟨_, hbz0⟩, rfl⟩
              have hbz1 : Below Wz.heap.size Wz wz := hbz0
              have HBV := Lib.hid (HBZ2.out.trans (hbz1.mono HBZ2.out.size))
              have HRWV := Lib.hid ((HROW.out.keep HBZ.out).keep hbz1)
              clear hbz0 hbz1 kx kd
              obtain ⟨x0, x1, x2, x3, x4, x5⟩ := HCELL.out wz ((HB1.out.trans ((HBW.out.trans (HBV.out.mono HBW.out.size)).mono HB1.out.size)).mono HZ.out)
              have HFZ := Lib.hid (fun i => HRWV.out.frozen i)
              have z0 := HFZ.out (k * 6 + 0)
              have z1 := HFZ.out (k * 6 + 1)
              have z2 := HFZ.out (k * 6 + 2)
              have z3 := HFZ.out (k * 6 + 3)
              have z4 := HFZ.out (k * 6 + 4)
              have z5 := HFZ.out (k * 6 + 5)
              simp only [Nat.add_zero] at z0
              obtain ⟨u0, u1, u2, u3, u4, u5, v0, v1, v2, v3, v4, v5⟩ := HRWV.out.there hkD
              go_wp2_with fail
              rw [put6_of HEI.out]
              have hrow4 := put6_row HRWV.out k i hkD
              have hbut4 := put6_but (o := k * 6) (c := encZ m.length cm i) (But.refl g wz)
              have HR4 := Lib.hid hrow4
              have HB4 := Lib.hid hbut4
              generalize put6 wz g (k * 6) (encZ m.length cm i) = W4 at HR4 HB4 ⊢
              clear hrow4 hbut4 x0 x1 x2 x3 x4 x5 z0 z1 z2 z3 z4 z5 v0 v1 v2 v3 v4 v5
              go_wp2
              go_roundw
              case measure => simp [intOf]; omega
              case rel =>
                have hB : Below W1.heap.size W1 wz := HBW.out.trans (HBV.out.mono HBW.out.size)
                refine ⟨i + 1, D.set k i, by omega, by go_num, ⟨idx_set HIX.out hkD (by rw [HX.out, ← HDK.out, HEQ.out, HKY.out]), ?_⟩, ?_, hB.trans (HB4.out.below HG.out.1 hB.size)⟩
                · simp; omega
                · have h7 := ownsRow_of HR4.out HG.out.1 HG.out.2
                  rw [List.length_set] at h7 ⊢
                  exact h7
            · have heq' : (dk.toList == ky.toList) = false := by simpa using heq
              have HNE := Lib.hid (show dk ≠ ky by rintro rfl; simp at heq)
              clear heq
              go_wp2_with fail
              refine wp_region_below (by kernel_rfl) (by kernel_rfl) ?_
              repeat (go_big_quiet_step (fail))
              refine wpQuiet_nil ?_
              rintro wz ⟨⟨_, hbz0⟩, rfl⟩
              have hbz1 : Below Wz.heap.size Wz wz := hbz0
              have HBV := Lib.hid (HBZ2.out.trans (hbz1.mono HBZ2.out.size))
              have HOWV := Lib.hid (ownsRow_keep (ownsRow_keep HOWQ.out HBZ.out) hbz1)
              have HINS := Lib.hid (idx_ins HIX.out hk (fun t ht => by rw [← HKY.out]; exact HLOW.out t ht) (.inr ⟨by rw [HX.out, ← HDK.out, ← HKY.out]; exact hlt', by rw [HX.out, ← HDK.out, ← HKY.out]; exact HNE.out⟩))
              clear hbz0 hbz1 kx kd hlt' heq'
              rename World => wv
              have hbw1 : W1.heap.size ≤ wv.heap.size := Nat.le_trans HBW.out.size HBV.out.size
              go_wp2_with (at_builtin; refine wpList_append_own _ rfl _ _ 24 rfl W1.heap.size 28 i0 _ 6 96 Try.underlying24 hi0 hz0 hz1 hz2 rfl (by decide) _ _ _ rfl (HOWV.out.alloc _) ⟨wv.heap.size, 0, none⟩ 1 1 [.string ⟨#[]⟩, .int .i64 0, .int .i64 0, .string ⟨#[]⟩, .slice none 0 0, .slice none 0 0] rfl rfl ?qc2 ?qc3 ?qc4 ?qc5 ?qc6 ?_)
              case qc2 =>
                intro p u hp
                rcases p with _ | _ | _ | _ | _ | _ | p
                all_goals first | (simp at hp; subst hp; simp [Addr.add]; done) | (simp at hp)
              case qc3 =>
                intro u hu
                simp only [List.mem_cons, List.mem_nil_iff, or_false] at hu
                rcases hu with rfl | rfl | rfl | rfl | rfl | rfl <;> rfl
              case qc4 => unfold maxLen; omega
              case qc5 => omega
              case qc6 => simp; omega
              intro v' w1 hown1 hgrow hnil
              have hown2 : w1.ownsRow W1.heap.size 28 6 v' (D.length + 1) (flat6 (encZ m.length cm) (D ++ [m.length])) := by
                rw [flat6_append]
                have e : flat6 (encZ m.length cm) [m.length] = [.string ⟨#[]⟩, .int .i64 0, .int .i64 0, .string ⟨#[]⟩, .slice none 0 0, .slice none 0 0] := by
                  simp [flat6, encZ, zer]
                rw [e]; exact hown1
              have hb9 : Below W1.heap.size W1 w1 := ((HBW.out.trans (HBV.out.mono HBW.out.size)).alloc hbw1 _).grown hgrow (by simp; omega) (fun k hk => ownBlock_lt HOWV.out k hk)
              obtain ⟨g2, cap2, rfl, hg2, hc2, hcm2, hrow2⟩ := rowOwn_of hown2 (by omega) (by simp)
              have HB9 := Lib.hid hb9
              have HR2 := Lib.hid hrow2
              have HG2 := Lib.hid (And.intro hg2 (And.intro hc2 hcm2))
              clear hown1 hown2 hgrow hnil hb9 hrow2 hg2 hc2 hcm2 hbw1
              go_wp2_with fail
              go_loopw [6] (fun jv wq => ∃ j c : Nat, k ≤ j ∧ j ≤ D.length ∧ jv = .int .i64 j ∧ RowOwn wq g2 cap2 (encZ m.length cm) (D.take j ++ c :: D.drop j) ∧ But g2 w1 wq) (fun j _ => (intOf j).toNat)
              case atStart => exact ⟨D.length, m.length, hk, Nat.le_refl _, by first | rfl | go_num, by have := HR2.out; simpa using this, But.refl _ _⟩
              case round =>
                obtain ⟨j, c, hkj, hjD, rfl, hrow, hbut⟩ := hrel
                have HRW := Lib.hid hrow
                have HBT := Lib.hid hbut
                have HFZ := Lib.hid (fun i => hrow.frozen i)
                have hgz9 := hrow.lt
                have HBA := Lib.hid (show Below W1.heap.size W1 wr from HB9.out.trans (HBT.out.below HG2.out.1 HB9.out.size))
                clear hrow hbut
                rename World => W3
                by_cases hjk : k < j
                · obtain ⟨p, hp⟩ : ∃ p, p = j - 1 := ⟨_, rfl⟩
                  have q1 : (j : Int) - 1 = (p : Int) := by omega
                  have q2 : IntKind.i64.wrap ((j : Int) - 1) = (p : Int) := by rw [iw_id _ (by omega)]; omega
                  obtain ⟨y, hy⟩ : ∃ y, D.getD p 0 = y := ⟨_, rfl⟩
                  have hyN : y < m.length := HDN.out y (by rw [← hy]; exact getD_mem (by omega))
                  obtain ⟨yk, yn, ys, ya, yl, yp, yb, ym, yq, yE, y0, y1, y2, y3, y4, y5⟩ := HRW.out.open6 HEZ.out (i := p) (show p < _ by simp; omega) (by rw [hp, getD_at (by omega) hjD, ← hp]; exact hy) hyN
                  have HYE := Lib.hid yE
                  have HP := Lib.hid (And.intro hp hy)
                  clear yE hp hy hyN
                  have p1 : p < D.length + 1 := by omega
                  have p2 : j < D.length + 1 := by omega
                  have p3 : (p : Int) < (D.length : Int) + 1 := by omega
                  have p4 : (j : Int) < (D.length : Int) + 1 := by omega
                  have z0 := HFZ.out (j * 6 + 0)
                  have z1 := HFZ.out (j * 6 + 1)
                  have z2 := HFZ.out (j * 6 + 2)
                  have z3 := HFZ.out (j * 6 + 3)
                  have z4 := HFZ.out (j * 6 + 4)
                  have z5 := HFZ.out (j * 6 + 5)
                  simp only [Nat.add_zero] at z0
                  obtain ⟨u0, u1, u2, u3, u4, u5, v0, v1, v2, v3, v4, v5⟩ := HRW.out.there (i := j) (by simp; omega)
                  go_wp2_with fail
                  rw [put6_of HYE.out]
                  have hrow4 := put6_row HRW.out j y (by simp; omega)
                  rw [set_at hjD] at hrow4
                  have hbut4 := put6_but (o := j * 6) (c := encZ m.length cm y) HBT.out
                  have HR4 := Lib.hid hrow4
                  have HB4 := Lib.hid hbut4
                  generalize put6 W3 g2 (j * 6) (encZ m.length cm y) = W4 at HR4 HB4 ⊢
                  clear hrow4 hbut4 y0 y1 y2 y3 y4 y5 z0 z1 z2 z3 z4 z5 v0 v1 v2 v3 v4 v5
                  go_wp2
                  go_roundw
                  case measure => simp [intOf]; omega
                  case rel =>
                    refine ⟨p, y, by have := HP.out; omega, by have := HP.out; omega, by go_num, ?_, HB4.out⟩
                    have h5 := HR4.out
                    have h6 := HP.out
                    rw [← h6.2, h6.1] at h5
                    rw [shift_at (by omega) hjD, ← h6.1, h6.2] at h5
                    exact h5
                · obtain rfl : k = j := by omega
                  obtain ⟨x0, x1, x2, x3, x4, x5⟩ := HCELL.out W3 ((HB1.out.trans (HBA.out.mono HB1.out.size)).mono HZ.out)
                  have p2 : k < D.length + 1 := by omega
                  have p4 : (k : Int) < (D.length : Int) + 1 := by omega
                  have z0 := HFZ.out (k * 6 + 0)
                  have z1 := HFZ.out (k * 6 + 1)
                  have z2 := HFZ.out (k * 6 + 2)
                  have z3 := HFZ.out (k * 6 + 3)
                  have z4 := HFZ.out (k * 6 + 4)
                  have z5 := HFZ.out (k * 6 + 5)
                  simp only [Nat.add_zero] at z0
                  obtain ⟨u0, u1, u2, u3, u4, u5, v0, v1, v2, v3, v4, v5⟩ := HRW.out.there (i := k) (by simp; omega)
                  go_wp2_with fail
                  rw [put6_of HEI.out]
                  have hrow4 := put6_row HRW.out k i (by simp; omega)
                  rw [set_at hjD] at hrow4
                  have hbut4 := put6_but (o := k * 6) (c := encZ m.length cm i) HBT.out
                  have HR4 := Lib.hid hrow4
                  have HB4 := Lib.hid hbut4
                  generalize put6 W3 g2 (k * 6) (encZ m.length cm i) = W4 at HR4 HB4 ⊢
                  clear hrow4 hbut4 x0 x1 x2 x3 x4 x5 z0 z1 z2 z3 z4 z5 v0 v1 v2 v3 v4 v5
                  go_wp2
                  go_roundw
                  case measure => simp [intOf]; omega
                  case rel =>
                    refine ⟨i + 1, D.take k ++ i :: D.drop k, by omega, by go_num, ⟨HINS.out, ?_⟩, ?_, HB9.out.trans (HB4.out.below HG2.out.1 HB9.out.size)⟩
                    · simp; omega
                    · have h7 := ownsRow_of HR4.out HG2.out.1 HG2.out.2.2
                      have h8 : (D.take k ++ i :: D.drop k).length = D.length + 1 := by simp; omega
                      rw [h8] at h7 ⊢
                      exact h7
        · have hkDb : decide (k < D.length) = false := by simpa using hkD
          have hkE : k = D.length := by omega
          have HKE := Lib.hid hkE
          clear hkE x0
          go_wp2_with fail
          refine wp_region_below (by kernel_rfl) (by kernel_rfl) ?_
          repeat (go_big_quiet_step (fail))
          refine wpQuiet_nil ?_
          rintro wz ⟨⟨_, hbz0⟩, rfl⟩
          have hbz1 : Below Wq.heap.size Wq wz := hbz0
          have HBZ := Lib.hid hbz1
          clear hbz0 hbz1
          rename World => Wz
          go_wp2_with fail
          refine wp_region_below (by kernel_rfl) (by kernel_rfl) ?_
          repeat (go_big_quiet_step (fail))
          refine wpQuiet_nil ?_
          rintro wz ⟨⟨_, hbz0⟩, rfl⟩
          have hbz1 : Below Wz.heap.size Wz wz := hbz0
          have HBV := Lib.hid ((HBQ.out.trans (HBZ.out.mono HBQ.out.size)).trans (hbz1.mono (Nat.le_trans HBQ.out.size HBZ.out.size)))
          have HOWV := Lib.hid (ownsRow_keep (ownsRow_keep HOWQ.out HBZ.out) hbz1)
          have HINS := Lib.hid (idx_ins HIX.out hk (fun t ht => by rw [← HKY.out]; exact HLOW.out t ht) (.inl HKE.out))
          clear hbz0 hbz1
          rename World => wv
          have hbw1 : W1.heap.size ≤ wv.heap.size := Nat.le_trans HBW.out.size HBV.out.size
          go_wp2_with (at_builtin; refine wpList_append_own _ rfl _ _ 24 rfl W1.heap.size 28 i0 _ 6 96 Try.underlying24 hi0 hz0 hz1 hz2 rfl (by decide) _ _ _ rfl (HOWV.out.alloc _) ⟨wv.heap.size, 0, none⟩ 1 1 [.string ⟨#[]⟩, .int .i64 0, .int .i64 0, .string ⟨#[]⟩, .slice none 0 0, .slice none 0 0] rfl rfl ?qc2 ?qc3 ?qc4 ?qc5 ?qc6 ?_)
          case qc2 =>
            intro p u hp
            rcases p with _ | _ | _ | _ | _ | _ | p
            all_goals first | (simp at hp; subst hp; simp [Addr.add]; done) | (simp at hp)
          case qc3 =>
            intro u hu
            simp only [List.mem_cons, List.mem_nil_iff, or_false] at hu
            rcases hu with rfl | rfl | rfl | rfl | rfl | rfl <;> rfl
          case qc4 => unfold maxLen; omega
          case qc5 => omega
          case qc6 => simp; omega
          intro v' w1 hown1 hgrow hnil
          have hown2 : w1.ownsRow W1.heap.size 28 6 v' (D.length + 1) (flat6 (encZ m.length cm) (D ++ [m.length])) := by
            rw [flat6_append]
            have e : flat6 (encZ m.length cm) [m.length] = [.string ⟨#[]⟩, .int .i64 0, .int .i64 0, .string ⟨#[]⟩, .slice none 0 0, .slice none 0 0] := by
              simp [flat6, encZ, zer]
            rw [e]; exact hown1
          have hb9 : Below W1.heap.size W1 w1 := ((HBW.out.trans (HBV.out.mono HBW.out.size)).alloc hbw1 _).grown hgrow (by simp; omega) (fun k hk => ownBlock_lt HOWV.out k hk)
          obtain ⟨g2, cap2, rfl, hg2, hc2, hcm2, hrow2⟩ := rowOwn_of hown2 (by omega) (by simp)
          have HB9 := Lib.hid hb9
          have HR2 := Lib.hid hrow2
          have HG2 := Lib.hid (And.intro hg2 (And.intro hc2 hcm2))
          clear hown1 hown2 hgrow hnil hb9 hrow2 hg2 hc2 hcm2 hbw1
          go_wp2_with fail
          go_loopw [6] (fun jv wq => ∃ j c : Nat, k ≤ j ∧ j ≤ D.length ∧ jv = .int .i64 j ∧ RowOwn wq g2 cap2 (encZ m.length cm) (D.take j ++ c :: D.drop j) ∧ But g2 w1 wq) (fun j _ => (intOf j).toNat)
          case atStart => exact ⟨D.length, m.length, hk, Nat.le_refl _, by first | rfl | go_num, by have := HR2.out; simpa using this, But.refl _ _⟩
          case round =>
            obtain ⟨j, c, hkj, hjD, rfl, hrow, hbut⟩ := hrel
            have HRW := Lib.hid hrow
            have HBT := Lib.hid hbut
            have HFZ := Lib.hid (fun i => hrow.frozen i)
            have hgz9 := hrow.lt
            have HBA := Lib.hid (show Below W1.heap.size W1 wr from HB9.out.trans (HBT.out.below HG2.out.1 HB9.out.size))
            clear hrow hbut
            rename World => W3
            by_cases hjk : k < j
            · exfalso; have := HKE.out; omega
            · obtain rfl : k = j := by omega
              obtain ⟨x0, x1, x2, x3, x4, x5⟩ := HCELL.out W3 ((HB1.out.trans (HBA.out.mono HB1.out.size)).mono HZ.out)
              have p2 : k < D.length + 1 := by omega
              have p4 : (k : Int) < (D.length : Int) + 1 := by omega
              have z0 := HFZ.out (k * 6 + 0)
              have z1 := HFZ.out (k * 6 + 1)
              have z2 := HFZ.out (k * 6 + 2)
              have z3 := HFZ.out (k * 6 + 3)
              have z4 := HFZ.out (k * 6 + 4)
              have z5 := HFZ.out (k * 6 + 5)
              simp only [Nat.add_zero] at z0
              obtain ⟨u0, u1, u2, u3, u4, u5, v0, v1, v2, v3, v4, v5⟩ := HRW.out.there (i := k) (by simp; omega)
              go_wp2_with fail
              rw [put6_of HEI.out]
              have hrow4 := put6_row HRW.out k i (by simp; omega)
              rw [set_at hjD] at hrow4
              have hbut4 := put6_but (o := k * 6) (c := encZ m.length cm i) HBT.out
              have HR4 := Lib.hid hrow4
              have HB4 := Lib.hid hbut4
              generalize put6 W3 g2 (k * 6) (encZ m.length cm i) = W4 at HR4 HB4 ⊢
              clear hrow4 hbut4 x0 x1 x2 x3 x4 x5 z0 z1 z2 z3 z4 z5 v0 v1 v2 v3 v4 v5
              go_wp2
              go_roundw
              case measure => simp [intOf]; omega
              case rel =>
                refine ⟨i + 1, D.take k ++ i :: D.drop k, by omega, by go_num, ⟨HINS.out, ?_⟩, ?_, HB9.out.trans (HB4.out.below HG2.out.1 HB9.out.size)⟩
                · simp; omega
                · have h7 := ownsRow_of HR4.out HG2.out.1 HG2.out.2.2
                  have h8 : (D.take k ++ i :: D.drop k).length = D.length + 1 := by simp; omega
                  rw [h8] at h7 ⊢
                  exact h7
    · obtain rfl : i = m.length := by omega
      have hv5 := (HBW.out.block w.heap.size (by have := HZ1.out; omega)).trans HV1.out
      have HV5 := Lib.hid hv5
      have HBF := Lib.hid (HB1.out.trans (HBW.out.mono HB1.out.size))
      obtain ⟨r0, r1, r2, r3, r4⟩ := c5of hv5
      have f0 : Wr.frozen? ⟨w.heap.size, 0, none⟩ = false := by simp [World.frozen?, hv5]
      have f1 : Wr.frozen? ⟨w.heap.size, 1, none⟩ = false := by simp [World.frozen?, hv5]
      have f2 : Wr.frozen? ⟨w.heap.size, 2, none⟩ = false := by simp [World.frozen?, hv5]
      have f3 : Wr.frozen? ⟨w.heap.size, 3, none⟩ = false := by simp [World.frozen?, hv5]
      have f4 : Wr.frozen? ⟨w.heap.size, 4, none⟩ = false := by simp [World.frozen?, hv5]
      have hw3 : w.heap.size < W1.heap.size := by have := HZ1.out; omega
      have HOW9 := Lib.hid (ownsRow_set (b := w.heap.size) (i := 4) (u := .slice oa D.length oc) (ownsRow_set (b := w.heap.size) (i := 3) (u := .slice none 0 0) (ownsRow_set (b := w.heap.size) (i := 2) (u := .string ⟨#[]⟩) (ownsRow_set (b := w.heap.size) (i := 1) (u := .int .i64 0) (ownsRow_set (b := w.heap.size) (i := 0) (u := .int .i64 5) HOWN.out hw3) hw3) hw3) hw3) hw3)
      clear hv5
      go_wp2
      have hp5 := put5 (.int .i64 5) (.int .i64 0) (.string ⟨#[]⟩) (.slice none 0 0) (.slice oa D.length oc) HV5.out
      have hpb := put5_below (.int .i64 5) (.int .i64 0) (.string ⟨#[]⟩) (.slice none 0 0) (.slice oa D.length oc) HBF.out (b := w.heap.size) (Nat.le_refl _)
      have HOWF := Lib.hid HOW9.out
      generalize ((((Wr.setCell _ _).setCell _ _).setCell _ _).setCell _ _).setCell _ _ = W9 at hp5 hpb HOWF ⊢
      obtain ⟨z0, z1, z2, z3, z4⟩ := c5of hp5
      have hfl := HOWF.out
      rw [flat6_encZ HDN.out] at hfl
      have hfin : MadeV k₀ (w.heap.size + 1) W9 (.mk 5 0 ⟨#[]⟩ [] (D.map (memD m))) (.agg #[.int .i64 5, .int .i64 0, .string ⟨#[]⟩, .slice none 0 0, .slice oa D.length oc]) :=
        .inr ⟨_, _, _, rfl, rfl, ownsRow_base (base := W1.heap.size) (by rw [List.length_map]; exact hfl) (by have := HZ1.out; omega), (HCV.out.keep (hpb.mono (Nat.le_trans HK0.out HZ.out))).pick D HDN.out, by rw [List.length_map]; exact hDl9⟩
      refine bodyPost_ret (v := .agg #[.int .i64 5, .int .i64 0, .string ⟨#[]⟩, .slice none 0 0, .slice oa D.length oc]) (by simp [results, Try.results33, go_sem, z0, z1, z2, z3, z4]) rfl ?_
      exact ⟨_, _, rfl, isIdx_map HIX.out, hfin, hpb⟩
theorem rmap_any {n₀ : Nat} {w0 : World} {m : List (ByteArray × VT)} {sv : Value} {cm : Nat → Nat → Value} (h : MAt n₀ w0 m sv cm) (w : World) (hw : Below n₀ w0 w) (hz : n₀ ≤ w.heap.size) (hn : m.length ≤ 1000000) :
    Calls Try.prog 33 #[sv] w fun e w' => ∃ x L, e = .returned x ∧ IsMap m L ∧ VAt w'.heap.size w' (.mk 5 0 ⟨#[]⟩ [] L) x ∧ Below w.heap.size w w' := by
  refine (rmap_made h w hw hz hn h.cells (Nat.le_refl _)).mono ?_
  rintro e w' ⟨x, L, he, hL, hx, hb⟩
  exact ⟨x, L, he, hL, hx.at (Nat.le_trans hz hb.size), hb⟩
end Go.Proofs.Ythncckdagmjjnaa
