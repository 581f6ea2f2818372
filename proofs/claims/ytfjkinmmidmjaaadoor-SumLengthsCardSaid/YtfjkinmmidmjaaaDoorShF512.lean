/-
  The padding, as package sha passes it to a hash512.
  Conditions: none.
-/
import Derived.Test.YtfjkinmmidmjaaaDoorShD512
import Derived.Test.YtfjkinmmidmjaaaDoorShV
namespace Go.Proofs.YtfjkinmmidmjaaaDoor
open Go.RowKit

/-- The j-th byte of the length. -/
def lb512 (n j : Nat) : UInt8 := UInt8.ofNat (n * 8 / 2 ^ (8 * (16 - 1 - j)) % 256)
theorem pad512_eq (n : Nat) : pad512 n = [128] ++ List.replicate ((128 - 16 + 128 - (n + 1) % 128) % 128) 0 ++ (List.range 16).map (lb512 n) := rfl
theorem eat512_snoc (s : W8 × List UInt8) (p : List UInt8) (x : UInt8) : eat512 (eat512 s.1 s.2 p).1 (eat512 s.1 s.2 p).2 [x] = eat512 s.1 s.2 (p ++ [x]) := (eat512_app p [x] s.1 s.2).symm
set_option maxRecDepth 100000 in
set_option maxHeartbeats 2000000 in
theorem padding512_any (b n : Nat) (s : W8 × List UInt8) (w : World) (hn : n ≤ 1000000) (h : ST512 w b s) (hG : Gl w) (hb : 1 < b) :
    Calls Tryd.prog 24 #[.int .u64 (n : Int), .int .i64 128, .int .i64 16, .func (.func 17) #[.pointer (some ⟨b, 0, none⟩)] #[]] w fun e w' => e = .returned (.tuple #[]) ∧ ST512 w' b (eat512 s.1 s.2 (pad512 n)) ∧ BelowX w.heap.size b w w' := by
  have HST := Lib.hid h
  have HG := Lib.hid hG
  have hbl := h.lt
  have hlt1 : 1 < w.heap.size := by omega
  obtain ⟨Z, hZ⟩ : ∃ Z, (128 - 16 + 128 - (n + 1) % 128) % 128 = Z := ⟨_, rfl⟩
  have HP := Lib.hid (show pad512 n = [128] ++ List.replicate Z 0 ++ (List.range 16).map (lb512 n) by rw [pad512_eq, hZ])
  have hw1 : IntKind.u64.wrap ((n : Int) + 1) = ((n + 1 : Nat) : Int) := by rw [IntKind.wrap_u64]; omega
  have hw8 : IntKind.u64.wrap ((n : Int) * 8) = ((n * 8 : Nat) : Int) := by rw [IntKind.wrap_u64]; omega
  have HZ := Lib.hid hZ
  clear h hG hZ
  go_enter Tryd.func24, Tryd.ntmps24
  go_wp2_with fail
  refine (add512_any b 128 _ s w (by rfl) HST.out HG.out hb).mono ?_
  rintro e w1 ⟨rfl, hs1, hb1⟩
  have HS1 := Lib.hid hs1
  have HB1 := Lib.hid hb1
  clear hs1 hb1
  go_wp2_with fail
  go_loopw [8] (fun av wr => ∃ (a t : Nat) (z : Int), av = .int .i64 z ∧ z = (a : Int) ∧ a < 128 ∧ t + (128 - 16 + 128 - a) % 128 = Z ∧ ST512 wr b (eat512 s.1 s.2 ([128] ++ List.replicate t 0)) ∧ BelowX w.heap.size b w wr) (fun a _ => (128 - 16 + 128 - (intOf a).toNat) % 128)
  case atStart => exact ⟨(n + 1) % 128, 0, _, rfl, by omega, Nat.mod_lt _ (by decide), by rw [Nat.zero_add]; exact HZ.out, HS1.out, HB1.out⟩
  case round =>
    obtain ⟨a, t, z, rfl, hza, ha, ht, hst, hbx⟩ := hrel
    have HS2 := Lib.hid hst
    have HB2 := Lib.hid hbx
    have HG2 := Lib.hid (HG.out.belowX hbx hb (by omega))
    have HT := Lib.hid ht
    clear hst hbx ht
    by_cases hne : a = 128 - 16
    · obtain rfl : z = 112 := by omega
      have HTZ := Lib.hid (show t = Z by have := HT.out; omega)
      clear HS1 HB1 hne hza ha
      go_wp2_with fail
      go_loopw [10] (fun iv wr => ∃ (j : Nat) (z : Int), j ≤ 16 ∧ iv = .int .i64 z ∧ z = 16 - 1 - (j : Int) ∧ ST512 wr b (eat512 s.1 s.2 ([128] ++ List.replicate Z 0 ++ (List.range j).map (lb512 n))) ∧ BelowX w.heap.size b w wr) (fun i _ => (intOf i + 1).toNat)
      case atStart => exact ⟨0, _, Nat.zero_le _, rfl, rfl, by rw [← HTZ.out, List.range_zero, List.map_nil, List.append_nil]; exact HS2.out, HB2.out⟩
      case round =>
        obtain ⟨j, z, hj, rfl, hzj, hst, hbx⟩ := hrel
        have HS3 := Lib.hid hst
        have HB3 := Lib.hid hbx
        have HG3 := Lib.hid (HG.out.belowX hbx hb (by omega))
        clear hst hbx
        by_cases hlt : j < 16
        · obtain ⟨m, hm⟩ : ∃ m, 16 - 1 - j = m := ⟨_, rfl⟩
          obtain rfl : z = (m : Int) := by omega
          have HM := Lib.hid hzj
          clear hzj
          have h0 : (0 : Int) ≤ (m : Int) := by omega
          have h8 : (0 : Int) ≤ 8 * (m : Int) := by omega
          have HX := Lib.hid (show ((n * 8 / 2 ^ (8 * m) % 256 : Nat) : Int) = ((lb512 n j).toNat : Int) by
            unfold lb512
            rw [hm, UInt8.toNat_ofNat']
            congr 1
            rw [Nat.mod_mod])
          have HY := Lib.hid (show ((n : Int) * 8 / 2 ^ (min (8 * m) 64) % 256) = ((lb512 n j).toNat : Int) by
            have e : n * 8 / 2 ^ (8 * m) = n * 8 / 2 ^ (min (8 * m) 64) := by
              by_cases h : 8 * m ≤ 64
              · rw [Nat.min_eq_left h]
              · rw [Nat.min_eq_right (by omega), Nat.div_eq_of_lt (Nat.lt_of_lt_of_le (show n * 8 < 2 ^ 64 by omega) (Nat.pow_le_pow_right (by decide) (by omega))), Nat.div_eq_of_lt (show n * 8 < 2 ^ 64 by omega)]
            rw [← HX.out, e, Int.natCast_emod, Int.natCast_ediv, Int.natCast_mul, Int.natCast_pow]; rfl)
          go_wp2_with fail
          refine (add512_any b (lb512 n j) _ _ wr HY.out HS3.out HG3.out hb).mono ?_
          rintro e w4 ⟨rfl, hs4, hb4⟩
          rw [eat512_snoc] at hs4
          have HS4 := Lib.hid (show ST512 w4 b (eat512 s.1 s.2 ([128] ++ List.replicate Z 0 ++ (List.range (j + 1)).map (lb512 n))) by
            rw [List.range_succ, List.map_append, ← List.append_assoc]; exact hs4)
          have HB4 := Lib.hid (BelowX.up HB3.out hb4)
          clear hs4 hb4
          go_wp2
          go_roundw
          case rel => exact ⟨j + 1, _, hlt, rfl, by have := HM.out; omega, HS4.out, HB4.out⟩
          case measure => simp [intOf]
        · have hjL : j = 16 := by omega
          have hneg : ¬ (0 : Int) ≤ z := by omega
          clear hzj
          have HJ := Lib.hid hjL
          clear hjL
          go_wp2
          go_end0
          refine ⟨rfl, ?_, HB3.out⟩
          rw [HP.out]
          have := HS3.out
          rw [HJ.out] at this
          exact this
    · have hne2 : (z == 112) = false := by simp; omega
      have hz0 : 0 ≤ z := by omega
      have hz1 : z < 128 := by omega
      have HZA := Lib.hid hza
      clear hza
      clear HS1 HB1
      go_wp2_with fail
      refine (add512_any b 0 _ _ wr (by rfl) HS2.out HG2.out hb).mono ?_
      rintro e w4 ⟨rfl, hs4, hb4⟩
      rw [eat512_snoc] at hs4
      have HS4 := Lib.hid (show ST512 w4 b (eat512 s.1 s.2 ([128] ++ List.replicate (t + 1) 0)) by
        rw [List.replicate_succ', ← List.append_assoc]; exact hs4)
      have HB4 := Lib.hid (BelowX.up HB2.out hb4)
      clear hs4 hb4
      go_wp2
      go_roundw
      case rel => exact ⟨(a + 1) % 128, t + 1, _, rfl, by have := HZA.out; omega, Nat.mod_lt _ (by decide), by have := HT.out; omega, HS4.out, HB4.out⟩
      case measure => have := HZA.out; simp [intOf]; omega
end Go.Proofs.YtfjkinmmidmjaaaDoor
