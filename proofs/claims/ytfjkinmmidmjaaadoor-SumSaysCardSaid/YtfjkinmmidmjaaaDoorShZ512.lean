/-
  The document's Sum512.
  Conditions: none.
-/
import Derived.Test.YtfjkinmmidmjaaaDoorShJ512
import Derived.Test.YtfjkinmmidmjaaaDoorShM512
import Derived.Test.YtfjkinmmidmjaaaDoorShR512
namespace Go.Proofs.YtfjkinmmidmjaaaDoor
open Go.RowKit

theorem put2' (w : World) (c1 c2 : Array Value) (t1 t2 : TypeId) (S1 S2 : Array Value) :
    ((((w.alloc (.cells c1 t1)).alloc (.cells c2 t2)).setRow w.heap.size S1).setRow (w.heap.size + 1) S2).heap[w.heap.size]? = some (.cells S1 t1 (0, 0)) ∧
    ((((w.alloc (.cells c1 t1)).alloc (.cells c2 t2)).setRow w.heap.size S1).setRow (w.heap.size + 1) S2).heap[w.heap.size + 1]? = some (.cells S2 t2 (0, 0)) ∧
    Below w.heap.size w ((((w.alloc (.cells c1 t1)).alloc (.cells c2 t2)).setRow w.heap.size S1).setRow (w.heap.size + 1) S2) := by
  refine ⟨?_, ?_, ?_⟩
  · rw [setRow_other _ _ _ _ (by omega)]; exact setRow_heap _ _ _ _ _ _ (alloc2_at w _ _).1
  · exact setRow_heap _ _ _ _ _ _ ((setRow_other _ _ _ _ (by omega)).trans (alloc2_at w _ _).2)
  · exact Below.setRow (Below.setRow (((Below.refl _ w).alloc (Nat.le_refl _) _).alloc (by simp) _) (Nat.le_refl _) _) (by omega) _
theorem st512_sq : square = st512.l := by decide +kernel
set_option maxRecDepth 100000 in
set_option maxHeartbeats 4000000 in
theorem rsum512_any (v : Value) (b : List UInt8) (w : World) (hlen : b.length ≤ 100000) (hb : Bys w v b) :
    Calls Tryd.prog 9 #[v] w fun e w' => e = .returned (.agg (byteVals (sum512 b)).toArray) ∧ Below w.heap.size w w' := by
  have HBY := Lib.hid hb
  have z26 := zd512
  have z55 := zv512
  have z48 : ∀ w, (zeroValue 45).run Tryd.prog w = .ok (.agg (nums .u64 (zer 8))) w := fun w => (zero_of_info (P := Tryd.prog) (t := 45) (v := .agg (nums .u64 (zer 8))) (n := 8) (by kernel_rfl)).1 w
  have HSC := Lib.hid (show (Tryd.prog.info? 52).map (·.size) = some (nums .u64 cube).size by kernel_rfl)
  have HSQ := Lib.hid (show (Tryd.prog.info? 45).map (·.size) = some (nums .u64 square).size by kernel_rfl)
  clear hb
  go_enter Tryd.func9, Tryd.ntmps9
  go_wp2_with fail
  generalize hW1 : World.alloc _ _ = W1
  obtain ⟨n0, hn0⟩ : ∃ n, w.heap.size = n := ⟨_, rfl⟩
  have HN0 := Lib.hid hn0
  have HR1 := Lib.hid (show BT W1 n0 26 (zerB 64) by subst hW1; rw [← hn0]; exact Go.heap_alloc_new _ _)
  have HB1 := Lib.hid (show Below n0 w W1 by subst hW1; rw [← hn0]; exact (Below.refl _ w).alloc (Nat.le_refl _) _)
  have HZ1 := Lib.hid (show W1.heap.size = n0 + 1 by subst hW1; rw [← hn0]; simp)
  rw [hn0]
  clear hW1 hn0
  refine (rround_any W1).mono ?_
  rintro e w2 ⟨rfl, hb2⟩
  have HB2 := Lib.hid hb2
  clear hb2
  go_wp2_with fail
  refine (rfirst_any w2).mono ?_
  rintro e w3 ⟨rfl, hb3⟩
  have HB3 := Lib.hid (bchain HB2.out hb3)
  clear hb3 HB2
  go_wp2_with (first
    | (refine wpList_store_row rfl 52 _ _ rfl w3.heap.size (nums .u64 cube) rfl rfl 52 _ (alloc2_at w3 _ _).1 HSC.out ?hold1 (nums_one _ _) ?_)
    | (refine wpList_store_row rfl 45 _ _ rfl (w3.heap.size + 1) (nums .u64 square) rfl rfl 45 _ ((setRow_other _ _ _ _ (by omega)).trans (alloc2_at w3 _ _).2) HSQ.out ?hold2 (nums_one _ _) (Stop.out ?_)))
  case hold1 => rw [size_nums, size_nums, zer_len]; rfl
  case hold2 => rw [size_nums, size_nums, zer_len]; rfl
  generalize hW4 : World.setRow _ _ _ = W4
  obtain ⟨p1, p2, p3⟩ : RW W4 w3.heap.size .u64 52 cube ∧ RW W4 (w3.heap.size + 1) .u64 45 st512.l ∧ Below w3.heap.size w3 W4 := by rw [← st512_sq]; subst hW4; exact put2' w3 _ _ _ _ _ _
  obtain ⟨nk, hnk⟩ : ∃ n, w3.heap.size = n := ⟨_, rfl⟩
  have HTB := Lib.hid (hnk ▸ p1)
  have HHH := Lib.hid (hnk ▸ p2)
  have HB4 := Lib.hid (bchain HB3.out p3)
  have hn0k : n0 < nk := by rw [← hnk]; have := HB3.out.size; have := HZ1.out; omega
  have HNK := Lib.hid (show nk + 1 < W4.heap.size from HHH.out.lt)
  rw [hnk]
  clear hW4 p1 p2 p3 hnk HB3
  refine ⟨?_⟩
  have HY4 := Lib.hid (HBY.out.below (HN0.out.symm ▸ (HB1.out.trans ((HB4.out.mono (by rw [HZ1.out]; omega)))) ))
  go_wp2_with fail
  refine (padded512_any v b W4 hlen HY4.out).mono ?_
  rintro e w5 ⟨v', rfl, ho5, hb5⟩
  obtain ⟨N, hPN⟩ := pad512_len b.length
  obtain ⟨P, hP⟩ : ∃ P, b ++ pad512 b.length = P := ⟨_, rfl⟩
  rw [hP] at ho5
  have HPL := Lib.hid (show P.length = 128 * (N + 1) by rw [← hP, List.length_append]; exact hPN)
  have hPz : P.length ≤ 200000 := by
    rw [← hP, List.length_append, pad512_eq]
    simp only [List.length_append, List.length_cons, List.length_nil, List.length_replicate, List.length_map, List.length_range]
    omega
  obtain ⟨g, C, rfl, hg1, hg2, hgc⟩ := own_cells ho5 (by rw [HPL.out]; omega)
  have HPE := Lib.hid hP
  have hnkW : nk + 1 < W4.heap.size := HNK.out
  have hE : JEnv512 w w5 n0 nk g P := by
    refine ⟨HTB.out.other (hb5.block nk (by omega)), HR1.out.other ((hb5.block n0 (by omega)).trans (HB4.out.block n0 (by rw [HZ1.out]; omega))), hgc, ?_⟩
    have h4 : Below n0 w W4 := HB1.out.trans (HB4.out.mono (by rw [HZ1.out]; omega))
    exact h4.trans (hb5.mono (by omega))
  have HE5 := Lib.hid hE
  have HH5 := Lib.hid (show RW w5 (nk + 1) .u64 45 st512.l from HHH.out.other (hb5.block (nk + 1) (by omega)))
  have hgk : nk + 1 < g := by omega
  clear ho5 hb5 hgc hP hPN HTB HHH HB4 HR1 HB1 HZ1 HNK HY4 HBY hE HSC HSQ z26
  go_wp2_with fail
  go_loopw [6] (fun iv wr => ∃ (a j : Nat) (u : W8), iv = .int .i64 a ∧ a = 128 * j ∧ j ≤ N + 1 ∧ u.lt 18446744073709551616 ∧ RW wr (nk + 1) .u64 45 u.l ∧ g < wr.heap.size ∧ JEnv512 w wr n0 nk g P ∧ blk512 (N + 1 - j) u (P.drop a) = blk512 (N + 1) st512 P) (fun i _ => P.length - (intOf i).toNat)
  case atStart => exact ⟨0, 0, st512, rfl, rfl, Nat.zero_le _, st512_lt, HH5.out, by omega, HE5.out, rfl⟩
  case round =>
    obtain ⟨a, j, u, rfl, haj, hj, hu, hru, hgw, henv, hgo⟩ := hrel
    have HAJ := Lib.hid haj
    have HU := Lib.hid hu
    have HRU := Lib.hid hru
    have HENV := Lib.hid henv
    have HGO := Lib.hid hgo
    have HGO0 := HGO
    have HPL2 := HPL.out
    clear haj hu hru henv hgo HH5 HE5
    by_cases hlt : j < N + 1
    · have hla : a + 128 ≤ P.length := by have := HAJ.out; omega
      have hla' : (a : Int) < (P.length : Int) := by omega
      obtain ⟨c, hc⟩ : ∃ c, (P.drop a).take 128 = c := ⟨_, rfl⟩
      have HCL := Lib.hid (show c.length = 128 by rw [← hc, List.length_take, List.length_drop]; omega)
      have HCB := Lib.hid (fun k (hk : k < 128) => show ∃ x, c[k]? = some x ∧ wr.cell? ⟨g, a + k, none⟩ = some (.int .u8 (x.toNat : Int)) by
        refine ⟨P[a + k], ?_, HENV.out.bytes (a + k) (by omega)⟩
        rw [← hc, List.getElem?_take, if_pos hk, List.getElem?_drop, List.getElem?_eq_getElem (by omega)])
      have HC := Lib.hid hc
      clear hc HPL2
      go_wp2_with fail
      generalize hW6 : World.alloc _ _ = W6
      obtain ⟨M, hM⟩ : ∃ n, wr.heap.size = n := ⟨_, rfl⟩
      have HRW := Lib.hid (show RW W6 M .u64 52 (List.replicate 80 0) by subst hW6; rw [← hM]; exact Go.heap_alloc_new _ _)
      obtain ⟨W0, HB6, HRU0, HENV0, HCB0⟩ : ∃ W0, Hid (Below M W0 W6) ∧ Hid (RW W0 (nk + 1) .u64 45 u.l) ∧ Hid (JEnv512 w W0 n0 nk g P ∧ W0.heap.size = M) ∧ Hid (∀ k, k < 128 → ∃ x, c[k]? = some x ∧ W0.cell? ⟨g, a + k, none⟩ = some (.int .u8 (x.toNat : Int))) :=
        ⟨wr, Lib.hid (by subst hW6; rw [← hM]; exact (Below.refl _ wr).alloc (Nat.le_refl _) _), HRU, Lib.hid ⟨HENV.out, hM⟩, HCB⟩
      rw [hM] at hgw ⊢
      clear hW6 hM HRU HENV HCB
      go_loopw [8] (fun iv wq => ∃ (k : Nat) (ws : List Nat), iv = .int .i64 k ∧ k ≤ 128 ∧ ws.length = 80 ∧ RW wq M .u64 52 ws ∧ Below M W0 wq ∧ ld512 ws k (c.drop k) = wds512 c ++ List.replicate 64 0) (fun i _ => 128 - (intOf i).toNat)
      case atStart => exact ⟨0, _, rfl, Nat.zero_le _, by simp, HRW.out, HB6.out, by rw [List.drop_zero]; exact ld512_blk c HCL.out⟩
      case round =>
        obtain ⟨k, ws, rfl, hk, hws, hrw, hbel, hgo⟩ := hrel
        have HW := Lib.hid hws
        have HRQ := Lib.hid hrw
        have HBQ := Lib.hid hbel
        have HGQ := Lib.hid hgo
        clear hws hrw hbel hgo HRW HB6
        by_cases hlt2 : k < 128
        · have hlt2' : (k : Int) < 128 := by omega
          obtain ⟨x, hx1, hx2⟩ := HCB0.out k hlt2
          have hx3 : wr.cell? ⟨g, a + k, none⟩ = some (.int .u8 (x.toNat : Int)) := by
            rw [World.cell?_of_block (HBQ.out.block g hgw)]; exact hx2
          have HDR := Lib.hid (show c.drop k = x :: c.drop (k + 1) by
            obtain ⟨h1, h2⟩ := List.getElem?_eq_some_iff.1 hx1
            rw [List.drop_eq_getElem_cons h1, h2])
          obtain ⟨q, hq⟩ : ∃ q, k / 8 = q := ⟨_, rfl⟩
          have hq' : (k : Int) / 8 = (q : Int) := by omega
          have hqI : (q : Int) < 80 := by omega
          have hwq : IntKind.i64.wrap (q : Int) = (q : Int) := by rw [IntKind.wrap_i64]; omega
          have hq0 : (0 : Int) ≤ (q : Int) := by omega
          have hak0 : (0 : Int) ≤ (a : Int) + (k : Int) := by omega
          obtain ⟨m, hm⟩ : ∃ m, ws.getD q 0 = m := ⟨_, rfl⟩
          have hce := HRQ.out.cell (i := q) (by rw [HW.out]; omega)
          rw [hm] at hce
          have hwak : IntKind.i64.wrap ((a : Int) + (k : Int)) = (a : Int) + (k : Int) := by rw [IntKind.wrap_i64]; omega
          have hakP : (a : Int) + (k : Int) < (P.length : Int) := by omega
          have hakt : ((a : Int) + (k : Int)).toNat = a + k := by omega
          have hor := or8_512 m x.toNat x.toNat_lt
          have HS := Lib.hid (show ld512 (ws.set q (m * 256 % 18446744073709551616 + x.toNat)) (k + 1) (c.drop (k + 1)) = wds512 c ++ List.replicate 64 0 by
            rw [← HGQ.out, HDR.out]
            conv => rhs; unfold ld512
            rw [hq, hm])
          have HL := Lib.hid (show (ws.set q (m * 256 % 18446744073709551616 + x.toNat)).length = 80 by rw [List.length_set]; exact HW.out)
          generalize m * 256 % 18446744073709551616 + x.toNat = z at hor HS HL
          have HOR := Lib.hid hor
          clear hx1 hx2 hq hm hor
          go_wp2_with fail
          go_still_tail 16, (by kernel_rfl)
          change wpList _ _ _ _ _ wr.drew
          generalize hWY : wr.drew = wy
          have HRY := Lib.hid (show RW wy M .u64 52 ws by subst hWY; exact HRQ.out)
          have HBY2 := Lib.hid (show Below M W0 wy by subst hWY; exact HBQ.out.drew)
          have hcy := HRY.out.cell (i := q) (by rw [HW.out]; omega)
          generalize ws.getD q 0 = oo at hcy
          have hfy := HRY.out.frozen q
          have hor := HOR.out
          clear hWY hce hx3 HRQ HBQ
          go_wp2
          go_roundw
          case rel => exact ⟨k + 1, _, rfl, hlt2, HL.out, HRY.out.set z, HBY2.out.setCell (p := ⟨M, q, none⟩) (Nat.le_refl _) _, HS.out⟩
          case measure => simp [intOf]; omega
        · have hlt2' : ¬ (k : Int) < 128 := by omega
          have HD := Lib.hid (show ws = wds512 c ++ List.replicate 64 0 by
            rw [← HGQ.out, List.drop_eq_nil_of_le (by have := HCL.out; omega)]; rfl)
          have hrw2 := HRQ.out
          rw [HD.out] at hrw2
          have HWL := Lib.hid (wds512_len 16 c (by have := HCL.out; omega))
          have HRW2 := Lib.hid hrw2
          clear HRQ HW HGQ HD hrw2
          go_wp2_with fail
          go_loopw [9] (fun iv wq => ∃ (jj : Nat) (l : List Nat), iv = .int .i64 jj ∧ 16 ≤ jj ∧ jj ≤ 80 ∧ l.length = jj ∧ RW wq M .u64 52 (l ++ List.replicate (80 - jj) 0) ∧ Below M W0 wq ∧ (∀ i, l.getD i 0 < 18446744073709551616) ∧ sc512 (80 - jj) l = sc512 (80 - 16) (wds512 c)) (fun i _ => 80 - (intOf i).toNat)
          case atStart => exact ⟨16, _, rfl, Nat.le_refl _, by decide, HWL.out, HRW2.out, HBQ.out, wds512_lt 16 c (by have := HCL.out; omega), rfl⟩
          case round =>
            obtain ⟨jj, l, rfl, hj16, hj, hl, hrw, hbel, hall, hgo⟩ := hrel
            have HL := Lib.hid hl
            have HRW := Lib.hid hrw
            have HBEL2 := Lib.hid hbel
            have HALL := Lib.hid hall
            have HGO := Lib.hid hgo
            clear hl hrw hbel hall hgo HRW2 HBQ
            by_cases hlt2 : jj < 80
            · have hlt2' : (jj : Int) < 80 := by omega
              have HLEN := Lib.hid (show (l ++ List.replicate (80 - jj) 0).length = 80 by rw [List.length_append, List.length_replicate, HL.out]; omega)
              obtain ⟨j16, hj1⟩ : ∃ a, jj - 16 = a := ⟨_, rfl⟩
              obtain ⟨j15, hj2⟩ : ∃ a, jj - 15 = a := ⟨_, rfl⟩
              obtain ⟨j7, hj3⟩ : ∃ a, jj - 7 = a := ⟨_, rfl⟩
              obtain ⟨j2, hj4⟩ : ∃ a, jj - 2 = a := ⟨_, rfl⟩
              have i1 : (jj : Int) - 16 = (j16 : Int) := by omega
              have i2 : (jj : Int) - 15 = (j15 : Int) := by omega
              have i3 : (jj : Int) - 7 = (j7 : Int) := by omega
              have i4 : (jj : Int) - 2 = (j2 : Int) := by omega
              have wj1 : IntKind.i64.wrap (j16 : Int) = (j16 : Int) := by rw [IntKind.wrap_i64]; omega
              have wj3 : IntKind.i64.wrap (j7 : Int) = (j7 : Int) := by rw [IntKind.wrap_i64]; omega
              have b1 : (j16 : Int) < 80 := by omega
              have b2 : (j15 : Int) < 80 := by omega
              have b3 : (j7 : Int) < 80 := by omega
              have b4 : (j2 : Int) < 80 := by omega
              have c1 := HRW.out.cell (i := j16) (by rw [HLEN.out]; omega)
              have c2 := HRW.out.cell (i := j15) (by rw [HLEN.out]; omega)
              have c3 := HRW.out.cell (i := j7) (by rw [HLEN.out]; omega)
              have c4 := HRW.out.cell (i := j2) (by rw [HLEN.out]; omega)
              have fr := HRW.out.frozen jj
              rw [pad_get_512 _ _ _ (by rw [HL.out]; omega)] at c1 c2 c3 c4
              have m1 := HALL.out j16
              have m2 := HALL.out j15
              have m3 := HALL.out j7
              have m4 := HALL.out j2
              have HX := Lib.hid (show nx512 l = (l.getD j16 0 + l.getD j7 0 + ss0512 (l.getD j15 0) + ss1512 (l.getD j2 0)) % 18446744073709551616 by unfold nx512; rw [HL.out, hj1, hj2, hj3, hj4])
              generalize l.getD j16 0 = y1 at c1 m1 HX
              generalize l.getD j15 0 = y2 at c2 m2 HX
              generalize l.getD j7 0 = y3 at c3 m3 HX
              generalize l.getD j2 0 = y4 at c4 m4 HX
              have R1 := Lib.hid (fun w => rot64_any y2 63 63 w m2 (by decide) (by decide))
              have R2 := Lib.hid (fun w => rot64_any y2 56 56 w m2 (by decide) (by decide))
              have R3 := Lib.hid (fun w => rot64_any y4 45 45 w m4 (by decide) (by decide))
              have R4 := Lib.hid (fun w => rot64_any y4 3 3 w m4 (by decide) (by decide))
              have E1 := Lib.hid (bits_ss0512 y2 m2)
              have E2 := Lib.hid (bits_ss1512 y4 m4)
              generalize ss0512 y2 = z2 at E1 HX
              generalize ss1512 y4 = z4 at E2 HX
              generalize hnx : nx512 l = X at HX
              have T1 := Lib.hid (show IntKind.u64.wrap (IntKind.u64.wrap (IntKind.u64.wrap ((y1 : Int) + y3) + z2) + z4) = (X : Int) by have := HX.out; rw [IntKind.wrap_u64, IntKind.wrap_u64, IntKind.wrap_u64]; omega)
              have HSX := Lib.hid (show sc512 (80 - (jj + 1)) (l ++ [X]) = sc512 (80 - 16) (wds512 c) by
                rw [← HGO.out, show 80 - jj = (80 - (jj + 1)) + 1 by omega, sc512, hnx])
              have HXL := Lib.hid (show X < 18446744073709551616 by rw [HX.out]; exact Nat.mod_lt _ (by decide))
              clear m1 m2 m3 m4 hj1 hj2 hj3 hj4 hnx
              go_wp2_with fail
              go_quiet (fail)
              go_wp2_with fail
              generalize hWX : World.drewN _ _ = wx
              have d1 : wx.cell? ⟨M, j16, none⟩ = some (.int .u64 (y1 : Int)) := by subst hWX; exact c1
              have d3 : wx.cell? ⟨M, j7, none⟩ = some (.int .u64 (y3 : Int)) := by subst hWX; exact c3
              have HRX := Lib.hid (show RW wx M .u64 52 (l ++ List.replicate (80 - jj) 0) by subst hWX; exact HRW.out)
              have HBX := Lib.hid (show Below M W0 wx by subst hWX; exact ⟨HBEL2.out.os, HBEL2.out.tape, HBEL2.out.output, HBEL2.out.size, HBEL2.out.block⟩)
              clear hWX c1 c2 c3 c4 fr HRW HBEL2
              go_still_tail 29, (by kernel_rfl)
              still_call (R1.out _)
              repeat still_step
              still_call (R2.out _)
              repeat still_step
              still_call (R3.out _)
              repeat still_step
              still_call (R4.out _)
              repeat still_step
              refine wpStill_nil ?_
              change wpList _ _ _ _ _ wx.drew
              generalize hWY : wx.drew = wy
              have HRY := Lib.hid (show RW wy M .u64 52 (l ++ List.replicate (80 - jj) 0) by subst hWY; exact HRX.out)
              have HBY := Lib.hid (show Below M W0 wy by subst hWY; exact HBX.out.drew)
              have fr := HRY.out.frozen jj
              have cj := HRY.out.cell (i := jj) (by rw [HLEN.out]; omega)
              generalize (l ++ List.replicate (80 - jj) 0).getD jj 0 = yj at cj
              have e1 := E1.out
              have e2 := E2.out
              have t1 := T1.out
              have HSET := Lib.hid (show (l ++ List.replicate (80 - jj) 0).set jj X = (l ++ [X]) ++ List.replicate (80 - (jj + 1)) 0 by
                rw [show 80 - jj = (80 - (jj + 1)) + 1 by omega]
                have := pad_set_512 l (80 - (jj + 1)) X
                rw [HL.out] at this
                exact this)
              have HRS := Lib.hid (show RW (wy.setCell ⟨M, jj, none⟩ (.int .u64 (X : Int))) M .u64 52 ((l ++ [X]) ++ List.replicate (80 - (jj + 1)) 0) by
                rw [← HSET.out]; exact HRY.out.set X)
              clear hWY d1 d3 HRX HBX
              go_wp2
              go_roundw
              case rel => exact ⟨jj + 1, l ++ [X], rfl, by omega, hlt2, by rw [List.length_append, HL.out]; rfl, HRS.out, HBY.out.setCell (p := ⟨M, jj, none⟩) (Nat.le_refl _) _, app512_lt l X HALL.out HXL.out, HSX.out⟩
              case measure => simp [intOf]; omega
            · have hlt2' : ¬ (jj : Int) < 80 := by omega
              have HE := Lib.hid (show l = sc512 64 (wds512 c) by rw [← HGO.out, show 80 - jj = 0 by omega]; rfl)
              have hrwl := HRW.out
              rw [show 80 - jj = 0 by omega, List.replicate_zero, List.append_nil] at hrwl
              have HRL := Lib.hid hrwl
              have HLL := Lib.hid (show l.length = 80 by rw [HL.out]; omega)
              have HRU2 := Lib.hid (show RW wr (nk + 1) .u64 45 u.l from HRU0.out.other (HBEL2.out.block (nk + 1) (by omega)))
              have HSU := Lib.hid (show (Tryd.prog.info? 45).map (·.size) = some (nums .u64 u.l).size by kernel_rfl)
              clear hrwl HRW HGO HWL
              go_wp2_with (first
                | (refine wpList_load_row rfl 45 _ rfl (nk + 1) rfl 45 (nums .u64 u.l) (0, 0) _ HRU2.out Tryd.underlying45 rfl HSU.out ?_)
                | (refine wpList_store_row rfl 45 _ _ rfl wr.heap.size (nums .u64 u.l) rfl rfl 45 _ (Go.heap_alloc_new _ _) HSU.out ?hold (nums_one _ _) (Stop.out ?_)))
              case hold => first | rfl | (rw [size_nums, size_nums, zer_len]; rfl) | (rw [zer_len]; rfl)
              generalize hW8 : World.setRow _ _ _ = W8'
              obtain ⟨V, hV⟩ : ∃ n, wr.heap.size = n := ⟨_, rfl⟩
              have hMV : M < V := by rw [← hV]; exact HRL.out.lt
              have HRV := Lib.hid (show RW W8' V .u64 45 u.l by subst hW8; rw [← hV]; exact setRow_heap _ _ _ _ _ _ (Go.heap_alloc_new _ _))
              have HRM := Lib.hid (show RW W8' M .u64 52 l by subst hW8; exact HRL.out.other ((setRow_other _ _ _ _ (by omega)).trans (Go.heap_alloc_old _ _ HRL.out.lt)))
              have HB8 := Lib.hid (show Below M W0 W8' by subst hW8; exact Below.setRow (HBEL2.out.alloc (by have := HRL.out.lt; omega) _) (by have := HRL.out.lt; omega) _)
              rw [hV]
              clear hW8 hV HRL HRU2 HBEL2
              refine ⟨?_⟩
              go_wp2_with fail
              go_loopw [13] (fun iv wq => ∃ (k : Nat) (vv : W8), iv = .int .i64 k ∧ k ≤ 80 ∧ vv.lt 18446744073709551616 ∧ RW wq V .u64 45 vv.l ∧ RW wq M .u64 52 l ∧ Below M W0 wq ∧ rds512 (l.drop k) (kk512.drop k) vv = rds512 l kk512 u) (fun i _ => 80 - (intOf i).toNat)
              case atStart => exact ⟨0, u, rfl, Nat.zero_le _, HU.out, HRV.out, HRM.out, HB8.out, by rw [List.drop_zero, List.drop_zero]⟩
              case round =>
                obtain ⟨k9, vv, rfl, hk9, hvv, hrv, hrm, hbel, hgo⟩ := hrel
                obtain ⟨va, vb, vc, vd, ve, vf, vg, vh⟩ := vv
                have HVL := Lib.hid hvv
                have HRV2 := Lib.hid hrv
                have HRM2 := Lib.hid hrm
                have HB9 := Lib.hid hbel
                have HG9 := Lib.hid hgo
                obtain ⟨ha, hb', hc', hd, he, hf, hg', hh'⟩ := hvv
                simp only at ha hb' hc' hd he hf hg' hh'
                clear hrv hrm hbel hgo HRV HRM HB8 z48
                by_cases hlt9 : k9 < 80
                · have hlt9' : (k9 : Int) < 80 := by omega
                  have c0 : wr.cell? ⟨V, 0, none⟩ = some (.int .u64 (va : Int)) := HRV2.out.cell (i := 0) (by show 0 < 8; decide)
                  have c1 : wr.cell? ⟨V, 1, none⟩ = some (.int .u64 (vb : Int)) := HRV2.out.cell (i := 1) (by show 1 < 8; decide)
                  have c2 : wr.cell? ⟨V, 2, none⟩ = some (.int .u64 (vc : Int)) := HRV2.out.cell (i := 2) (by show 2 < 8; decide)
                  have c3 : wr.cell? ⟨V, 3, none⟩ = some (.int .u64 (vd : Int)) := HRV2.out.cell (i := 3) (by show 3 < 8; decide)
                  have c4 : wr.cell? ⟨V, 4, none⟩ = some (.int .u64 (ve : Int)) := HRV2.out.cell (i := 4) (by show 4 < 8; decide)
                  have c5 : wr.cell? ⟨V, 5, none⟩ = some (.int .u64 (vf : Int)) := HRV2.out.cell (i := 5) (by show 5 < 8; decide)
                  have c6 : wr.cell? ⟨V, 6, none⟩ = some (.int .u64 (vg : Int)) := HRV2.out.cell (i := 6) (by show 6 < 8; decide)
                  have c7 : wr.cell? ⟨V, 7, none⟩ = some (.int .u64 (vh : Int)) := HRV2.out.cell (i := 7) (by show 7 < 8; decide)
                  have f0 := HRV2.out.frozen 0
                  have f1 := HRV2.out.frozen 1
                  have f2 := HRV2.out.frozen 2
                  have f3 := HRV2.out.frozen 3
                  have f4 := HRV2.out.frozen 4
                  have f5 := HRV2.out.frozen 5
                  have f6 := HRV2.out.frozen 6
                  have f7 := HRV2.out.frozen 7
                  obtain ⟨sw, hsw⟩ : ∃ s, l.getD k9 0 = s := ⟨_, rfl⟩
                  obtain ⟨kc, hkc⟩ : ∃ s, cube.getD k9 0 = s := ⟨_, rfl⟩
                  have cw := HRM2.out.cell (i := k9) (by rw [HLL.out]; exact hlt9)
                  rw [hsw] at cw
                  have ck : wr.cell? ⟨nk, k9, none⟩ = some (.int .u64 (kc : Int)) := by
                    rw [World.cell?_of_block (HB9.out.block nk (by omega)), ← hkc]
                    exact HENV0.out.1.table.cell (i := k9) (by show k9 < 80; exact hlt9)
                  have HST := Lib.hid (show rds512 (l.drop (k9 + 1)) (kk512.drop (k9 + 1)) (rnd512 ⟨va, vb, vc, vd, ve, vf, vg, vh⟩ ((sw + kc) % 18446744073709551616)) = rds512 l kk512 u by
                    rw [← HG9.out, rds512_step l kk512 _ k9 (by rw [HLL.out]; exact hlt9) (by rw [kk512_len]; exact hlt9), hsw, kk512_get k9 hlt9, hkc])
                  have R1 := Lib.hid (fun w => rot64_any ve 50 50 w he (by decide) (by decide))
                  have R2 := Lib.hid (fun w => rot64_any ve 46 46 w he (by decide) (by decide))
                  have R3 := Lib.hid (fun w => rot64_any ve 23 23 w he (by decide) (by decide))
                  have R4 := Lib.hid (fun w => rot64_any va 36 36 w ha (by decide) (by decide))
                  have R5 := Lib.hid (fun w => rot64_any va 30 30 w ha (by decide) (by decide))
                  have R6 := Lib.hid (fun w => rot64_any va 25 25 w ha (by decide) (by decide))
                  have e1 := bits_ch512 ve vf vg he hf hg'
                  have e2 := bits_mj512 va vb vc ha hb' hc'
                  have e3 := bits_bs1512 ve he
                  have e4 := bits_bs0512 va ha
                  have HN := Lib.hid (show rnd512 ⟨va, vb, vc, vd, ve, vf, vg, vh⟩ ((sw + kc) % 18446744073709551616) = ⟨((vh + bs1512 ve + ch512 ve vf vg + (sw + kc) % 18446744073709551616) % 18446744073709551616 + (bs0512 va + mj512 va vb vc)) % 18446744073709551616, va, vb, vc, (vd + (vh + bs1512 ve + ch512 ve vf vg + (sw + kc) % 18446744073709551616) % 18446744073709551616) % 18446744073709551616, ve, vf, vg⟩ from rfl)
                  generalize ch512 ve vf vg = CH at e1 HN
                  generalize mj512 va vb vc = MJ at e2 HN
                  generalize bs1512 ve = S1 at e3 HN
                  generalize bs0512 va = S0 at e4 HN
                  obtain ⟨Tt, hT⟩ : ∃ z, (vh + S1 + CH + kc + sw) % 18446744073709551616 = z := ⟨_, rfl⟩
                  obtain ⟨Uu, hU⟩ : ∃ z, (S0 + MJ) % 18446744073709551616 = z := ⟨_, rfl⟩
                  obtain ⟨X0, hX0⟩ : ∃ z, (Tt + Uu) % 18446744073709551616 = z := ⟨_, rfl⟩
                  obtain ⟨X4, hX4⟩ : ∃ z, (vd + Tt) % 18446744073709551616 = z := ⟨_, rfl⟩
                  have T1 := Lib.hid (show IntKind.u64.wrap (IntKind.u64.wrap (IntKind.u64.wrap (IntKind.u64.wrap ((vh : Int) + S1) + CH) + kc) + sw) = (Tt : Int) by rw [IntKind.wrap_u64, IntKind.wrap_u64, IntKind.wrap_u64, IntKind.wrap_u64]; omega)
                  have T2 := Lib.hid (show IntKind.u64.wrap ((S0 : Int) + MJ) = (Uu : Int) by rw [IntKind.wrap_u64]; omega)
                  have T3 := Lib.hid (show IntKind.u64.wrap ((Tt : Int) + Uu) = (X0 : Int) by rw [IntKind.wrap_u64]; omega)
                  have T4 := Lib.hid (show IntKind.u64.wrap ((vd : Int) + Tt) = (X4 : Int) by rw [IntKind.wrap_u64]; omega)
                  have HN2 := Lib.hid (show rnd512 ⟨va, vb, vc, vd, ve, vf, vg, vh⟩ ((sw + kc) % 18446744073709551616) = ⟨X0, va, vb, vc, X4, ve, vf, vg⟩ by
                    rw [HN.out]
                    congr 1
                    · omega
                    · omega)
                  have E1 := Lib.hid e1
                  have E2 := Lib.hid e2
                  have E3 := Lib.hid e3
                  have E4 := Lib.hid e4
                  clear HN hT hU hX0 hX4 e1 e2 e3 e4 hsw hkc ha hb' hc' hd he hf hg' hh'
                  go_wp2_with fail
                  go_quiet (fail)
                  go_wp2_with fail
                  go_quiet (first | (go_at_call 23; with_reducible refine Calls.quiet_eq2 (R1.out _)) | (go_at_call 23; with_reducible refine Calls.quiet_eq2 (R2.out _)) | (go_at_call 23; with_reducible refine Calls.quiet_eq2 (R3.out _)))
                  go_wp2_with fail
                  generalize hWX : World.drewN _ _ = wx
                  have HRX := Lib.hid (show RW wx V .u64 45 [va, vb, vc, vd, ve, vf, vg, vh] by subst hWX; exact HRV2.out)
                  have HMX := Lib.hid (show RW wx M .u64 52 l by subst hWX; exact HRM2.out)
                  have HBX := Lib.hid (show Below M W0 wx by subst hWX; exact ⟨HB9.out.os, HB9.out.tape, HB9.out.output, HB9.out.size, HB9.out.block⟩)
                  clear hWX c0 c1 c2 c3 c4 c5 c6 c7 f0 f1 f2 f3 f4 f5 f6 f7 cw ck HRV2 HRM2 HB9
                  have c1 : wx.cell? ⟨V, 1, none⟩ = some (.int .u64 (vb : Int)) := HRX.out.cell (i := 1) (by show 1 < 8; decide)
                  have c2 : wx.cell? ⟨V, 2, none⟩ = some (.int .u64 (vc : Int)) := HRX.out.cell (i := 2) (by show 2 < 8; decide)
                  go_quiet (first | (go_at_call 23; with_reducible refine Calls.quiet_eq (R4.out _)) | (go_at_call 23; with_reducible refine Calls.quiet_eq (R5.out _)) | (go_at_call 23; with_reducible refine Calls.quiet_eq (R6.out _)))
                  generalize hWZ : World.drewN _ _ = wz
                  have HRZ := Lib.hid (show RW wz V .u64 45 [va, vb, vc, vd, ve, vf, vg, vh] by subst hWZ; exact HRX.out)
                  have HMZ := Lib.hid (show RW wz M .u64 52 l by subst hWZ; exact HMX.out)
                  have HBZ := Lib.hid (show Below M W0 wz by subst hWZ; exact ⟨HBX.out.os, HBX.out.tape, HBX.out.output, HBX.out.size, HBX.out.block⟩)
                  clear hWZ c1 c2 HRX HMX HBX
                  have c0 : wz.cell? ⟨V, 0, none⟩ = some (.int .u64 (va : Int)) := HRZ.out.cell (i := 0) (by show 0 < 8; decide)
                  have c1 : wz.cell? ⟨V, 1, none⟩ = some (.int .u64 (vb : Int)) := HRZ.out.cell (i := 1) (by show 1 < 8; decide)
                  have c2 : wz.cell? ⟨V, 2, none⟩ = some (.int .u64 (vc : Int)) := HRZ.out.cell (i := 2) (by show 2 < 8; decide)
                  have c3 : wz.cell? ⟨V, 3, none⟩ = some (.int .u64 (vd : Int)) := HRZ.out.cell (i := 3) (by show 3 < 8; decide)
                  have c4 : wz.cell? ⟨V, 4, none⟩ = some (.int .u64 (ve : Int)) := HRZ.out.cell (i := 4) (by show 4 < 8; decide)
                  have c5 : wz.cell? ⟨V, 5, none⟩ = some (.int .u64 (vf : Int)) := HRZ.out.cell (i := 5) (by show 5 < 8; decide)
                  have c6 : wz.cell? ⟨V, 6, none⟩ = some (.int .u64 (vg : Int)) := HRZ.out.cell (i := 6) (by show 6 < 8; decide)
                  have c7 : wz.cell? ⟨V, 7, none⟩ = some (.int .u64 (vh : Int)) := HRZ.out.cell (i := 7) (by show 7 < 8; decide)
                  have f0 := HRZ.out.frozen 0
                  have f1 := HRZ.out.frozen 1
                  have f2 := HRZ.out.frozen 2
                  have f3 := HRZ.out.frozen 3
                  have f4 := HRZ.out.frozen 4
                  have f5 := HRZ.out.frozen 5
                  have f6 := HRZ.out.frozen 6
                  have f7 := HRZ.out.frozen 7
                  have e1 := E1.out
                  have e2 := E2.out
                  have e3 := E3.out
                  have e4 := E4.out
                  have t1 := T1.out
                  have t2 := T2.out
                  have t3 := T3.out
                  have t4 := T4.out
                  go_wp2
                  go_roundw
                  case rel =>
                    have h3 := put8_512 HRZ.out rfl X0 va vb vc X4 ve vf vg
                    have hVz := HRZ.out.lt
                    refine ⟨k9 + 1, ⟨X0, va, vb, vc, X4, ve, vf, vg⟩, rfl, hlt9, ?_, h3.1, HMZ.out.other (h3.2.block M (by omega) (by omega)), ?_, by rw [← HN2.out]; exact HST.out⟩
                    · rw [← HN2.out]; exact rnd512_lt _ HVL.out
                    · exact ⟨h3.2.os.trans HBZ.out.os, h3.2.tape.trans HBZ.out.tape, h3.2.output.trans HBZ.out.output, Nat.le_trans HBZ.out.size h3.2.size, fun i hi => (h3.2.block i (by omega) (by omega)).trans (HBZ.out.block i hi)⟩
                  case measure => simp [intOf]; omega
                · have hlt9' : ¬ (k9 : Int) < 80 := by omega
                  have HUU := Lib.hid (show (⟨va, vb, vc, vd, ve, vf, vg, vh⟩ : W8) = rds512 l kk512 u by
                    rw [← HG9.out, List.drop_eq_nil_of_le (by rw [HLL.out]; omega)]
                    conv => rhs; unfold rds512)
                  go_wp2_with fail
                  obtain ⟨vv, hvv⟩ : ∃ vv : W8, ⟨va, vb, vc, vd, ve, vf, vg, vh⟩ = vv := ⟨_, rfl⟩
                  rw [hvv] at HRV2 HUU
                  have HH9 := Lib.hid (show RW wr (nk + 1) .u64 45 (adN512 u vv 0).l from HRU0.out.other (HB9.out.block (nk + 1) (by omega)))
                  have HX9 := Lib.hid (show BelowX M (nk + 1) W0 wr from ⟨HB9.out.os, HB9.out.tape, HB9.out.output, HB9.out.size, fun i hi _ => HB9.out.block i hi⟩)
                  clear hvv ha hb' hc' hd he hf hg' hh' HVL HG9 HRM2 HB9
                  go_loopw [18] (fun iv wq => ∃ (j9 : Nat), iv = .int .i64 j9 ∧ j9 ≤ 8 ∧ RW wq (nk + 1) .u64 45 (adN512 u vv j9).l ∧ RW wq V .u64 45 vv.l ∧ BelowX M (nk + 1) W0 wq) (fun i _ => 8 - (intOf i).toNat)
                  case atStart => exact ⟨0, rfl, Nat.zero_le _, HH9.out, HRV2.out, HX9.out⟩
                  case round =>
                    obtain ⟨j9, rfl, hj9, hrh, hrv, hbx⟩ := hrel
                    have HRH := Lib.hid hrh
                    have HRV3 := Lib.hid hrv
                    have HBX := Lib.hid hbx
                    clear hrh hrv hbx HH9 HX9 HRV2
                    by_cases hlt8 : j9 < 8
                    · have hlt8' : (j9 : Int) < 8 := by omega
                      obtain ⟨y, hy⟩ : ∃ y, vv.l.getD j9 0 = y := ⟨_, rfl⟩
                      obtain ⟨x, hx⟩ : ∃ x, u.l.getD j9 0 = x := ⟨_, rfl⟩
                      have hce := HRH.out.cell (i := j9) (show j9 < 8 from hlt8)
                      rw [adN512_get u vv j9 hlt8, hx] at hce
                      have hcv := HRV3.out.cell (i := j9) (show j9 < 8 from hlt8)
                      rw [hy] at hcv
                      have hne : ¬ V = nk + 1 := by omega
                      obtain ⟨z, hz⟩ : ∃ z, (x + y) % 18446744073709551616 = z := ⟨_, rfl⟩
                      have hz1 : IntKind.u64.wrap ((x : Int) + y) = (z : Int) := by rw [IntKind.wrap_u64]; omega
                      have HZ := Lib.hid (show (adN512 u vv j9).l.set j9 z = (adN512 u vv (j9 + 1)).l by rw [← hz, ← hx, ← hy]; exact adN512_set u vv j9 hlt8)
                      clear hy hx hz
                      go_wp2_with fail
                      go_still_tail 8, (by kernel_rfl)
                      change wpList _ _ _ _ _ wr.drew
                      generalize hWY : wr.drew = wy
                      have HRY := Lib.hid (show RW wy (nk + 1) .u64 45 (adN512 u vv j9).l by subst hWY; exact HRH.out)
                      have HVY := Lib.hid (show RW wy V .u64 45 vv.l by subst hWY; exact HRV3.out)
                      have HXY := Lib.hid (show BelowX M (nk + 1) W0 wy by subst hWY; exact ⟨HBX.out.os, HBX.out.tape, HBX.out.output, HBX.out.size, HBX.out.block⟩)
                      have hcy : wy.cell? ⟨nk + 1, j9, none⟩ = some (.int .u64 (x : Int)) := by subst hWY; exact hce
                      have hfy := HRY.out.frozen j9
                      clear hWY hce hcv HRH HRV3 HBX
                      go_wp2
                      go_roundw
                      case rel => exact ⟨j9 + 1, rfl, hlt8, by rw [← HZ.out]; exact HRY.out.set z, HVY.out.other (setCell_other _ hne), HXY.out.trans (BelowX.set1 _ _ _)⟩
                      case measure => simp [intOf]; omega
                    · have hlt8' : ¬ (j9 : Int) < 8 := by omega
                      have HJ9 := Lib.hid (show j9 = 8 by omega)
                      have HMX := Lib.hid (show mix512 u c = adN512 u vv 8 by rw [HUU.out, HE.out]; rfl)
                      have HRF := Lib.hid (show RW wr (nk + 1) .u64 45 (mix512 u c).l by rw [HMX.out, ← HJ9.out]; exact HRH.out)
                      have HEF := Lib.hid (show JEnv512 w wr n0 nk g P from HENV0.out.1.keep (M := M) (by omega) (by omega) hgw (fun k hk h => HBX.out.block k hk (by omega)) HBX.out.os HBX.out.tape HBX.out.output HBX.out.size)
                      have HGF := Lib.hid (show g < wr.heap.size by have h1 := HBX.out.size; have h2 := HENV0.out.2; omega)
                      have HSF := Lib.hid (show blk512 (N + 1 - (j + 1)) (mix512 u c) (P.drop (a + 128)) = blk512 (N + 1) st512 P by
                        rw [← HGO0.out, show N + 1 - j = (N + 1 - (j + 1)) + 1 by omega]
                        conv => rhs; unfold blk512
                        rw [HC.out, List.drop_drop])
                      go_wp2
                      go_roundw
                      case rel => exact ⟨a + 128, j + 1, _, rfl, by have := HAJ.out; omega, hlt, ad512_lt _ _, HRF.out, HGF.out, HEF.out, HSF.out⟩
                      case measure => simp [intOf]; omega
    · have hla' : ¬ (a : Int) < (P.length : Int) := by have := HAJ.out; omega
      have HF := Lib.hid (show u = blk512 (N + 1) st512 P by rw [← HGO.out, show N + 1 - j = 0 by omega]; rfl)
      have HSUM := Lib.hid (show sum512 b = dig512 u by unfold sum512; rw [HPE.out, eat512_blks (N + 1) st512 P HPL.out, HF.out])
      have hnw : nk + 1 < wr.heap.size := HRU.out.lt
      have z26 := zd512
      clear HPL2 z55 z48
      go_wp2_with fail
      generalize hW9 : World.alloc _ _ = W9
      obtain ⟨D, hD⟩ : ∃ n, wr.heap.size = n := ⟨_, rfl⟩
      have HRW := Lib.hid (show BT W9 D 26 (List.replicate 64 0) by subst hW9; rw [← hD]; exact Go.heap_alloc_new _ _)
      have HRU9 := Lib.hid (show RW W9 (nk + 1) .u64 45 u.l by subst hW9; exact HRU.out.other (Go.heap_alloc_old _ _ hnw))
      have HRR := Lib.hid (show BT W9 n0 26 (zerB 64) by subst hW9; exact HENV.out.out.other (Go.heap_alloc_old _ _ (by omega)))
      have HB9 := Lib.hid (show Below n0 w W9 by subst hW9; exact HENV.out.below.alloc (by omega) _)
      rw [hD] at hnw ⊢
      clear hW9 hD HRU HENV HGO HGO0 HF z26
      go_loopw [20] (fun iv wq => ∃ (k : Nat), iv = .int .i64 k ∧ k ≤ 64 ∧ BT wq D 26 ((List.range k).map (db512 u) ++ List.replicate (64 - k) 0) ∧ RW wq (nk + 1) .u64 45 u.l ∧ BT wq n0 26 (zerB 64) ∧ Below n0 w wq) (fun i _ => 64 - (intOf i).toNat)
      case atStart => exact ⟨0, rfl, Nat.zero_le _, HRW.out, HRU9.out, HRR.out, HB9.out⟩
      case round =>
        obtain ⟨k, rfl, hk, hrw, hru, hrr, hbel⟩ := hrel
        have HRQ := Lib.hid hrw
        have HRUq := Lib.hid hru
        have HRRq := Lib.hid hrr
        have HBQ := Lib.hid hbel
        clear hrw hru hrr hbel HRW HRU9 HRR HB9
        by_cases hlt2 : k < 64
        · have hlt2' : (k : Int) < 64 := by omega
          obtain ⟨q, hq⟩ : ∃ q, k / 8 = q := ⟨_, rfl⟩
          obtain ⟨r, hr⟩ : ∃ r, k % 8 = r := ⟨_, rfl⟩
          have hq' : (k : Int) / 8 = (q : Int) := by omega
          have hr' : (k : Int) % 8 = (r : Int) := by omega
          have hq8 : q < 8 := by omega
          have hqI : (q : Int) < 8 := by omega
          have hrQ : r ≤ 7 := by omega
          have hs0 : (0 : Int) ≤ 56 - 8 * (r : Int) := by omega
          have hwo := HRUq.out.cell (i := q) (show q < 8 from hq8)
          have hce := HRQ.out.cell (i := k) (by simp; omega)
          generalize ((List.range k).map (db512 u) ++ List.replicate (64 - k) 0).getD k 0 = o at hce
          have hfr := HRQ.out.frozen k
          have HDB := Lib.hid (show db512 u k = UInt8.ofNat (u.l.getD q 0 / 2 ^ (56 - 8 * r) % 256) by unfold db512; rw [hq, hr, Nat.mul_comm r 8])
          generalize u.l.getD q 0 = y at hwo HDB
          have HY := Lib.hid (show ((y : Int) / 2 ^ (56 - 8 * r) % 256) = ((db512 u k).toNat : Int) by
            rw [HDB.out, UInt8.toNat_ofNat', Nat.mod_eq_of_lt (Nat.mod_lt _ (by decide)), Int.natCast_emod, Int.natCast_ediv, Int.natCast_pow]; rfl)
          have HS := Lib.hid (show BT (wr.setCell ⟨D, k, none⟩ (.int .u8 ((db512 u k).toNat : Int))) D 26 ((List.range (k + 1)).map (db512 u) ++ List.replicate (64 - (k + 1)) 0) by
            have h1 := HRQ.out.set (i := k) (db512 u k)
            have h2 := fill_set (db512 u) 0 k (64 - (k + 1))
            rw [show 64 - (k + 1) + 1 = 64 - k by omega] at h2
            rw [← h2]; exact h1)
          generalize db512 u k = d at HY HS
          have hy := HY.out
          clear hq hr
          go_wp2
          go_roundw
          case rel => exact ⟨k + 1, rfl, hlt2, HS.out, HRUq.out.other (setCell_other _ (by omega)), HRRq.out.other (setCell_other _ (by omega)), HBQ.out.setCell (p := ⟨D, k, none⟩) (by show n0 ≤ D; omega) _⟩
          case measure => simp [intOf]; omega
        · have hlt2' : ¬ (k : Int) < 64 := by omega
          have hrw := HRQ.out
          rw [show k = 64 by omega, Nat.sub_self, List.replicate_zero, List.append_nil, ← dig512_eq, ← HSUM.out] at hrw
          have HRW3 := Lib.hid hrw
          have HDL := Lib.hid (show (sum512 b).length = 64 by rw [HSUM.out, dig512_eq]; simp)
          have HS2 := Lib.hid (show (Tryd.prog.info? 26).map (·.size) = some (byteVals (sum512 b)).toArray.size by rw [size_byteVals, HDL.out]; exact szd512)
          have HO := Lib.hid (show (byteVals (zerB 64)).toArray.size = (byteVals (sum512 b)).toArray.size by rw [size_byteVals, size_byteVals, HDL.out, zerB_len])
          clear hrw HRQ
          go_wp2_with (first | (refine wpList_load_row rfl 26 _ rfl D rfl 26 _ (0, 0) _ HRW3.out Tryd.underlying26 rfl HS2.out ?_) | (refine wpList_store_row rfl 26 _ _ rfl n0 (byteVals (sum512 b)).toArray rfl rfl 26 _ HRRq.out HS2.out HO.out (byteVals_one _) ?_))
          refine bodyPost_ret (results_cell_row (by rfl) _ _ n0 26 (byteVals (sum512 b)).toArray (0, 0) _ (by rfl) (setRow_heap _ _ _ _ _ _ HRRq.out) Tryd.underlying26 rfl HS2.out) rfl ⟨rfl, ?_⟩
          rw [HN0.out]
          exact Below.setRow HBQ.out (Nat.le_refl _) _
end Go.Proofs.YtfjkinmmidmjaaaDoor
