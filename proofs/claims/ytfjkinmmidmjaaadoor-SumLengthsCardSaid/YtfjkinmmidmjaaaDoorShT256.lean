/-
  The schedule of SHA-256, as package sha makes it.
  Conditions: none.
-/
import Derived.Test.YtfjkinmmidmjaaaDoorShS256
import Derived.StillTailTactics
namespace Go.Proofs.YtfjkinmmidmjaaaDoor
open Go.RowKit

theorem zv256 (w : World) : (zeroValue 56).run Tryd.prog w = .ok (.agg (nums .u32 (zer 64))) w :=
  (zero_of_info (P := Tryd.prog) (t := 56) (v := .agg (nums .u32 (zer 64))) (n := 64) (by kernel_rfl)).1 w
theorem sz256 : (Tryd.prog.info? 56).map (·.size) = some 64 := by kernel_rfl
theorem szb256 : (Tryd.prog.info? 26).map (·.size) = some 64 := by kernel_rfl
theorem one_u8_256 (w : World) : (sizeOf 5).run Tryd.prog w = .ok 1 w ∧ (isAgg 5).run Tryd.prog w = .ok false w := ⟨by kernel_rfl, by kernel_rfl⟩
theorem or8_256 (m x : Nat) (hx : x < 256) : bits .or .u32 ((m : Int) * 256 % 4294967296) ((x : Int) % 4294967296) = ((m * 256 % 4294967296 + x : Nat) : Int) := by
  rw [bits_join .u32 32 (by decide) (fun n h₀ h₁ => by rw [IntKind.wrap_u32]; omega) 8 _ _ (by omega) (by omega) (by omega) (by omega) (by omega) (by omega)]
  omega
set_option maxRecDepth 100000 in
set_option maxHeartbeats 2000000 in
theorem schedule256_any (p : List UInt8) (w : World) (hp : p.length = 64) :
    Calls Tryd.prog 27 #[.agg (byteVals p).toArray] w fun e w' => e = .returned (.agg (nums .u32 (sc256 (64 - 16) (wds256 p)))) ∧ Below w.heap.size w w' := by
  have hbs : (byteVals p).toArray.size = 64 := by simpa [byteVals] using hp
  have HI := Lib.hid (show (Tryd.prog.info? 26).map (·.size) = some (byteVals p).toArray.size by rw [hbs]; exact szb256)
  have HG := Lib.hid (fun (o2 o3 : Obj) => (alloc3_at w (.cells (byteVals p).toArray 26) o2 o3).1)
  have hz := zv256
  go_enter Tryd.func27, Tryd.ntmps27
  go_wp2_with (refine wpList_load_row rfl 26 _ rfl w.heap.size rfl 26 _ (0, 0) _ (HG.out _ _) Tryd.underlying26 rfl HI.out ?_)
  generalize hW1 : World.alloc _ _ = W1
  have hrw : RW W1 (w.heap.size + 1 + 1) .u32 56 (List.replicate 64 0) := by subst hW1; exact (alloc3_at w _ _ _).2.2
  have hrr : RW W1 (w.heap.size + 1) .u32 56 (List.replicate 64 0) := by subst hW1; exact (alloc3_at w _ _ _).2.1
  have hb1 : Below w.heap.size w W1 := by subst hW1; exact Below.alloc3 _ _ _ _
  clear hW1 HG
  obtain ⟨n, hn⟩ : ∃ n, w.heap.size = n := ⟨_, rfl⟩
  rw [hn] at hrw hrr hb1 ⊢
  have HRW := Lib.hid hrw
  have HRR := Lib.hid hrr
  have HB1 := Lib.hid hb1
  have HP := Lib.hid hp
  have HN := Lib.hid hn
  clear hrw hrr hb1 hn hp hbs
  go_loopw [10] (fun iv wr => ∃ (k : Nat) (ws : List Nat), iv = .int .i64 k ∧ k ≤ 64 ∧ ws.length = 64 ∧ RW wr (n + 1 + 1) .u32 56 ws ∧ RW wr (n + 1) .u32 56 (List.replicate 64 0) ∧ Below n w wr ∧ ld256 ws k (p.drop k) = wds256 p ++ List.replicate (64 - 16) 0) (fun i _ => 64 - (intOf i).toNat)
  case atStart => exact ⟨0, _, rfl, Nat.zero_le _, by simp, HRW.out, HRR.out, HB1.out, by rw [List.drop_zero]; exact ld256_blk p HP.out⟩
  case round =>
    obtain ⟨k, ws, rfl, hk, hws, hrw, hrr, hbel, hgo⟩ := hrel
    have HW := Lib.hid hws
    have HRW := Lib.hid hrw
    have HRR := Lib.hid hrr
    have HBEL := Lib.hid hbel
    have HGO := Lib.hid hgo
    clear hws hrw hrr hbel hgo
    by_cases hlt : k < 64
    · have hlt' : (k : Int) < 64 := by omega
      have hkp : k < p.length := by rw [HP.out]; exact hlt
      obtain ⟨x, hx⟩ : ∃ x, p[k] = x := ⟨_, rfl⟩
      have hidx : (byteVals p).toArray[k]? = some (.int .u8 (x.toNat : Int)) := by
        simp [byteVals, List.getElem?_eq_getElem hkp, hx]
      have HDR := Lib.hid (show p.drop k = x :: p.drop (k + 1) by rw [List.drop_eq_getElem_cons hkp, hx])
      have hix := index_arr (P := Tryd.prog) wr 26 5 64 (byteVals p).toArray .i64 k _ Tryd.underlying26 (one_u8_256 wr).1 (one_u8_256 wr).2 hlt hidx
      obtain ⟨q, hq⟩ : ∃ q, k / 4 = q := ⟨_, rfl⟩
      have hq' : (k : Int) / 4 = (q : Int) := by omega
      have hq16 : q < 16 := by omega
      have hqI : (q : Int) < 64 := by omega
      obtain ⟨m, hm⟩ : ∃ m, ws.getD q 0 = m := ⟨_, rfl⟩
      have hce := HRW.out.cell (i := q) (by rw [HW.out]; omega)
      rw [hm] at hce
      have hfr := HRW.out.frozen q
      have hor := or8_256 m x.toNat x.toNat_lt
      have HS := Lib.hid (show ld256 (ws.set q (m * 256 % 4294967296 + x.toNat)) (k + 1) (p.drop (k + 1)) = wds256 p ++ List.replicate (64 - 16) 0 by
        rw [← HGO.out, HDR.out, ld256, hq, hm])
      have HL := Lib.hid (show (ws.set q (m * 256 % 4294967296 + x.toNat)).length = 64 by rw [List.length_set]; exact HW.out)
      generalize m * 256 % 4294967296 + x.toNat = z at hor HS HL
      clear hx hkp hidx hq hm
      go_wp2
      go_roundw
      case rel => exact ⟨k + 1, _, rfl, hlt, HL.out, HRW.out.set z, HRR.out.other (setCell_other _ (by omega)), HBEL.out.setCell (p := ⟨n + 1 + 1, q, none⟩) (by show n ≤ n + 1 + 1; omega) _, HS.out⟩
      case measure => simp [intOf]; omega
    · have hlt' : ¬ (k : Int) < 64 := by omega
      have HD := Lib.hid (show ws = wds256 p ++ List.replicate (64 - 16) 0 by
        rw [← HGO.out, List.drop_eq_nil_of_le (by have := HP.out; omega)]; rfl)
      have hrw := HRW.out
      rw [HD.out] at hrw
      have HWL := Lib.hid (wds256_len 16 p (by have := HP.out; omega))
      have HRW2 := Lib.hid hrw
      clear HRW HW HGO HD hrw
      go_wp2_with fail
      go_loopw [6] (fun iv wq => ∃ (j : Nat) (l : List Nat), iv = .int .i64 j ∧ 16 ≤ j ∧ j ≤ 64 ∧ l.length = j ∧ RW wq (n + 1 + 1) .u32 56 (l ++ List.replicate (64 - j) 0) ∧ RW wq (n + 1) .u32 56 (List.replicate 64 0) ∧ Below n w wq ∧ (∀ i, l.getD i 0 < 4294967296) ∧ sc256 (64 - j) l = sc256 (64 - 16) (wds256 p)) (fun i _ => 64 - (intOf i).toNat)
      case atStart => exact ⟨16, _, rfl, Nat.le_refl _, by decide, HWL.out, HRW2.out, HRR.out, HBEL.out, wds256_lt 16 p (by have := HP.out; omega), rfl⟩
      case round =>
        obtain ⟨j, l, rfl, hj16, hj, hl, hrw, hrr, hbel, hall, hgo⟩ := hrel
        have HL := Lib.hid hl
        have HRW := Lib.hid hrw
        have HRR2 := Lib.hid hrr
        have HBEL2 := Lib.hid hbel
        have HALL := Lib.hid hall
        have HGO := Lib.hid hgo
        clear hl hrw hrr hbel hall hgo HRR HRW2 HBEL
        by_cases hlt2 : j < 64
        · have hlt2' : (j : Int) < 64 := by omega
          have HLEN := Lib.hid (show (l ++ List.replicate (64 - j) 0).length = 64 by rw [List.length_append, List.length_replicate, HL.out]; omega)
          obtain ⟨j16, hj1⟩ : ∃ a, j - 16 = a := ⟨_, rfl⟩
          obtain ⟨j15, hj2⟩ : ∃ a, j - 15 = a := ⟨_, rfl⟩
          obtain ⟨j7, hj3⟩ : ∃ a, j - 7 = a := ⟨_, rfl⟩
          obtain ⟨j2, hj4⟩ : ∃ a, j - 2 = a := ⟨_, rfl⟩
          have i1 : (j : Int) - 16 = (j16 : Int) := by omega
          have i2 : (j : Int) - 15 = (j15 : Int) := by omega
          have i3 : (j : Int) - 7 = (j7 : Int) := by omega
          have i4 : (j : Int) - 2 = (j2 : Int) := by omega
          have wj1 : IntKind.i64.wrap (j16 : Int) = (j16 : Int) := by rw [IntKind.wrap_i64]; omega
          have wj3 : IntKind.i64.wrap (j7 : Int) = (j7 : Int) := by rw [IntKind.wrap_i64]; omega
          have b1 : (j16 : Int) < 64 := by omega
          have b2 : (j15 : Int) < 64 := by omega
          have b3 : (j7 : Int) < 64 := by omega
          have b4 : (j2 : Int) < 64 := by omega
          have c1 := HRW.out.cell (i := j16) (by rw [HLEN.out]; omega)
          have c2 := HRW.out.cell (i := j15) (by rw [HLEN.out]; omega)
          have c3 := HRW.out.cell (i := j7) (by rw [HLEN.out]; omega)
          have c4 := HRW.out.cell (i := j2) (by rw [HLEN.out]; omega)
          have fr := HRW.out.frozen j
          rw [pad_get_256 _ _ _ (by rw [HL.out]; omega)] at c1 c2 c3 c4
          have m1 := HALL.out j16
          have m2 := HALL.out j15
          have m3 := HALL.out j7
          have m4 := HALL.out j2
          have HX := Lib.hid (show nx256 l = (l.getD j16 0 + l.getD j7 0 + ss0256 (l.getD j15 0) + ss1256 (l.getD j2 0)) % 4294967296 by unfold nx256; rw [HL.out, hj1, hj2, hj3, hj4])
          generalize l.getD j16 0 = y1 at c1 m1 HX
          generalize l.getD j15 0 = y2 at c2 m2 HX
          generalize l.getD j7 0 = y3 at c3 m3 HX
          generalize l.getD j2 0 = y4 at c4 m4 HX
          have R1 := Lib.hid (fun w => right32_any y2 25 7 w m2 (by decide) (by decide))
          have R2 := Lib.hid (fun w => right32_any y2 14 18 w m2 (by decide) (by decide))
          have R3 := Lib.hid (fun w => right32_any y4 15 17 w m4 (by decide) (by decide))
          have R4 := Lib.hid (fun w => right32_any y4 13 19 w m4 (by decide) (by decide))
          have E1 := Lib.hid (bits_ss0256 y2 m2)
          have E2 := Lib.hid (bits_ss1256 y4 m4)
          generalize ss0256 y2 = z2 at E1 HX
          generalize ss1256 y4 = z4 at E2 HX
          generalize hnx : nx256 l = X at HX
          have T1 := Lib.hid (show ((y1 : Int) + y3 + z2 + z4) % 4294967296 = (X : Int) by have := HX.out; omega)
          have HSX := Lib.hid (show sc256 (64 - (j + 1)) (l ++ [X]) = sc256 (64 - 16) (wds256 p) by
            rw [← HGO.out, show 64 - j = (64 - (j + 1)) + 1 by omega, sc256, hnx])
          have HXL := Lib.hid (show X < 4294967296 by rw [HX.out]; exact Nat.mod_lt _ (by decide))
          clear m1 m2 m3 m4 hj1 hj2 hj3 hj4 hnx
          go_wp2_with fail
          go_quiet (fail)
          go_wp2_with fail
          generalize hWX : World.drewN _ _ = wx
          have d1 : wx.cell? ⟨n + 1 + 1, j16, none⟩ = some (.int .u32 (y1 : Int)) := by subst hWX; exact c1
          have d3 : wx.cell? ⟨n + 1 + 1, j7, none⟩ = some (.int .u32 (y3 : Int)) := by subst hWX; exact c3
          have HRX := Lib.hid (show RW wx (n + 1 + 1) .u32 56 (l ++ List.replicate (64 - j) 0) by subst hWX; exact HRW.out)
          have HRRX := Lib.hid (show RW wx (n + 1) .u32 56 (List.replicate 64 0) by subst hWX; exact HRR2.out)
          have HBX := Lib.hid (show Below n w wx by subst hWX; exact ⟨HBEL2.out.os, HBEL2.out.tape, HBEL2.out.output, HBEL2.out.size, HBEL2.out.block⟩)
          clear hWX c1 c2 c3 c4 fr HRW HRR2 HBEL2
          go_still_tail 29, (by kernel_rfl)
          still_call (R1.out _)
          repeat still_step
          still_call (R2.out _)
          repeat still_step
          still_call (R3.out _)
          repeat still_step
          still_call (R4.out _)
          repeat still_step
          refine wpStill_nil ?_
          change wpList _ _ _ _ _ wx.drew
          generalize hWY : wx.drew = wy
          have HRY := Lib.hid (show RW wy (n + 1 + 1) .u32 56 (l ++ List.replicate (64 - j) 0) by subst hWY; exact HRX.out)
          have HRRY := Lib.hid (show RW wy (n + 1) .u32 56 (List.replicate 64 0) by subst hWY; exact HRRX.out)
          have HBY := Lib.hid (show Below n w wy by subst hWY; exact HBX.out.drew)
          have fr := HRY.out.frozen j
          have cj := HRY.out.cell (i := j) (by rw [HLEN.out]; omega)
          generalize (l ++ List.replicate (64 - j) 0).getD j 0 = yj at cj
          have e1 := E1.out
          have e2 := E2.out
          have t1 := T1.out
          have HSET := Lib.hid (show (l ++ List.replicate (64 - j) 0).set j X = (l ++ [X]) ++ List.replicate (64 - (j + 1)) 0 by
            rw [show 64 - j = (64 - (j + 1)) + 1 by omega]
            have := pad_set_256 l (64 - (j + 1)) X
            rw [HL.out] at this
            exact this)
          have HRS := Lib.hid (show RW (wy.setCell ⟨n + 1 + 1, j, none⟩ (.int .u32 (X : Int))) (n + 1 + 1) .u32 56 ((l ++ [X]) ++ List.replicate (64 - (j + 1)) 0) by
            rw [← HSET.out]; exact HRY.out.set X)
          clear hWY d1 d3 HRX HRRX HBX
          go_wp2
          go_roundw
          case rel => exact ⟨j + 1, l ++ [X], rfl, by omega, hlt2, by rw [List.length_append, HL.out]; rfl, HRS.out, HRRY.out.other (setCell_other _ (by omega)), HBY.out.setCell (p := ⟨n + 1 + 1, j, none⟩) (by show n ≤ n + 1 + 1; omega) _, app256_lt l X HALL.out HXL.out, HSX.out⟩
          case measure => simp [intOf]; omega
        · have hlt2' : ¬ (j : Int) < 64 := by omega
          have HE := Lib.hid (show l = sc256 (64 - 16) (wds256 p) by
            rw [← HGO.out, show 64 - j = 0 by omega]; rfl)
          have hrw := HRW.out
          rw [show 64 - j = 0 by omega, List.replicate_zero, List.append_nil] at hrw
          have HRW3 := Lib.hid hrw
          have HL2 := Lib.hid (show l.length = 64 by rw [HL.out]; omega)
          have HS2 := Lib.hid (show (Tryd.prog.info? 56).map (·.size) = some (nums .u32 l).size by rw [size_nums, HL2.out]; exact sz256)
          have HO := Lib.hid (show (nums .u32 (List.replicate 64 0)).size = (nums .u32 l).size by rw [size_nums, size_nums, HL2.out, List.length_replicate])
          clear hrw
          go_wp2_with (first | (refine wpList_load_row rfl 56 _ rfl (n + 1 + 1) rfl 56 _ (0, 0) _ HRW3.out Tryd.underlying56 rfl HS2.out ?_) | (refine wpList_store_row rfl 56 _ _ rfl (n + 1) (nums .u32 l) rfl rfl 56 _ HRR2.out HS2.out HO.out (nums_one _ _) ?_))
          refine bodyPost_ret (results_cell_row (by rfl) _ _ (n + 1) 56 (nums .u32 l) (0, 0) _ (by rfl) (setRow_heap _ _ _ _ _ _ HRR2.out) Tryd.underlying56 rfl HS2.out) rfl ⟨?_, ?_⟩
          · rw [HE.out]
          · rw [HN.out]
            exact Below.setRow HBEL2.out (by omega) _
end Go.Proofs.YtfjkinmmidmjaaaDoor
