/-
  The padding, as package sha passes it to a hash256.
  Conditions: none.
-/
import Derived.Test.YtfjkinmmidmjaaaDoorShD256
import Derived.Test.YtfjkinmmidmjaaaDoorShV
namespace Go.Proofs.YtfjkinmmidmjaaaDoor
open Go.RowKit

/-- The j-th byte of the length. -/
def lb256 (n j : Nat) : UInt8 := UInt8.ofNat (n * 8 / 2 ^ (8 * (8 - 1 - j)) % 256)
theorem pad256_eq (n : Nat) : pad256 n = [128] ++ List.replicate ((64 - 8 + 64 - (n + 1) % 64) % 64) 0 ++ (List.range 8).map (lb256 n) := rfl
theorem eat256_snoc (s : W8 × List UInt8) (p : List UInt8) (x : UInt8) : eat256 (eat256 s.1 s.2 p).1 (eat256 s.1 s.2 p).2 [x] = eat256 s.1 s.2 (p ++ [x]) := (eat256_app p [x] s.1 s.2).symm
set_option maxRecDepth 100000 in
set_option maxHeartbeats 2000000 in
theorem padding256_any (b n : Nat) (s : W8 × List UInt8) (w : World) (hn : n ≤ 1000000) (h : ST256 w b s) (hG : Gl w) (hb : 1 < b) :
    Calls Tryd.prog 24 #[.int .u64 (n : Int), .int .i64 64, .int .i64 8, .func (.func 14) #[.pointer (some ⟨b, 0, none⟩)] #[]] w fun e w' => e = .returned (.tuple #[]) ∧ ST256 w' b (eat256 s.1 s.2 (pad256 n)) ∧ BelowX w.heap.size b w w' := by
  have HST := Lib.hid h
  have HG := Lib.hid hG
  have hbl := h.lt
  have hlt1 : 1 < w.heap.size := by omega
  obtain ⟨Z, hZ⟩ : ∃ Z, (64 - 8 + 64 - (n + 1) % 64) % 64 = Z := ⟨_, rfl⟩
  have HP := Lib.hid (show pad256 n = [128] ++ List.replicate Z 0 ++ (List.range 8).map (lb256 n) by rw [pad256_eq, hZ])
  have hw1 : IntKind.u64.wrap ((n : Int) + 1) = ((n + 1 : Nat) : Int) := by rw [IntKind.wrap_u64]; omega
  have hw8 : IntKind.u64.wrap ((n : Int) * 8) = ((n * 8 : Nat) : Int) := by rw [IntKind.wrap_u64]; omega
  have HZ := Lib.hid hZ
  clear h hG hZ
  go_enter Tryd.func24, Tryd.ntmps24
  go_wp2_with fail
  refine (add256_any b 128 _ s w (by rfl) HST.out HG.out hb).mono ?_
  rintro e w1 ⟨rfl, hs1, hb1⟩
  have HS1 := Lib.hid hs1
  have HB1 := Lib.hid hb1
  clear hs1 hb1
  go_wp2_with fail
  go_loopw [8] (fun av wr => ∃ (a t : Nat) (z : Int), av = .int .i64 z ∧ z = (a : Int) ∧ a < 64 ∧ t + (64 - 8 + 64 - a) % 64 = Z ∧ ST256 wr b (eat256 s.1 s.2 ([128] ++ List.replicate t 0)) ∧ BelowX w.heap.size b w wr) (fun a _ => (64 - 8 + 64 - (intOf a).toNat) % 64)
  case atStart => exact ⟨(n + 1) % 64, 0, _, rfl, by omega, Nat.mod_lt _ (by decide), by rw [Nat.zero_add]; exact HZ.out, HS1.out, HB1.out⟩
  case round =>
    obtain ⟨a, t, z, rfl, hza, ha, ht, hst, hbx⟩ := hrel
    have HS2 := Lib.hid hst
    have HB2 := Lib.hid hbx
    have HG2 := Lib.hid (HG.out.belowX hbx hb (by omega))
    have HT := Lib.hid ht
    clear hst hbx ht
    by_cases hne : a = 64 - 8
    · obtain rfl : z = 56 := by omega
      have HTZ := Lib.hid (show t = Z by have := HT.out; omega)
      clear HS1 HB1 hne hza ha
      go_wp2_with fail
      go_loopw [10] (fun iv wr => ∃ (j : Nat) (z : Int), j ≤ 8 ∧ iv = .int .i64 z ∧ z = 8 - 1 - (j : Int) ∧ ST256 wr b (eat256 s.1 s.2 ([128] ++ List.replicate Z 0 ++ (List.range j).map (lb256 n))) ∧ BelowX w.heap.size b w wr) (fun i _ => (intOf i + 1).toNat)
      case atStart => exact ⟨0, _, Nat.zero_le _, rfl, rfl, by rw [← HTZ.out, List.range_zero, List.map_nil, List.append_nil]; exact HS2.out, HB2.out⟩
      case round =>
        obtain ⟨j, z, hj, rfl, hzj, hst, hbx⟩ := hrel
        have HS3 := Lib.hid hst
        have HB3 := Lib.hid hbx
        have HG3 := Lib.hid (HG.out.belowX hbx hb (by omega))
        clear hst hbx
        by_cases hlt : j < 8
        · obtain ⟨m, hm⟩ : ∃ m, 8 - 1 - j = m := ⟨_, rfl⟩
          obtain rfl : z = (m : Int) := by omega
          have HM := Lib.hid hzj
          clear hzj
          have h0 : (0 : Int) ≤ (m : Int) := by omega
          have h8 : (0 : Int) ≤ 8 * (m : Int) := by omega
          have HX := Lib.hid (show ((n * 8 / 2 ^ (8 * m) % 256 : Nat) : Int) = ((lb256 n j).toNat : Int) by
            unfold lb256
            rw [hm, UInt8.toNat_ofNat']
            congr 1
            rw [Nat.mod_mod])
          have HY := Lib.hid (show ((n : Int) * 8 / 2 ^ (8 * m) % 256) = ((lb256 n j).toNat : Int) by
            rw [← HX.out, Int.natCast_emod, Int.natCast_ediv, Int.natCast_mul, Int.natCast_pow]; rfl)
          go_wp2_with fail
          refine (add256_any b (lb256 n j) _ _ wr HY.out HS3.out HG3.out hb).mono ?_
          rintro e w4 ⟨rfl, hs4, hb4⟩
          rw [eat256_snoc] at hs4
          have HS4 := Lib.hid (show ST256 w4 b (eat256 s.1 s.2 ([128] ++ List.replicate Z 0 ++ (List.range (j + 1)).map (lb256 n))) by
            rw [List.range_succ, List.map_append, ← List.append_assoc]; exact hs4)
          have HB4 := Lib.hid (BelowX.up HB3.out hb4)
          clear hs4 hb4
          go_wp2
          go_roundw
          case rel => exact ⟨j + 1, _, hlt, rfl, by have := HM.out; omega, HS4.out, HB4.out⟩
          case measure => simp [intOf]
        · have hjL : j = 8 := by omega
          have hneg : ¬ (0 : Int) ≤ z := by omega
          clear hzj
          have HJ := Lib.hid hjL
          clear hjL
          go_wp2
          go_end0
          refine ⟨rfl, ?_, HB3.out⟩
          rw [HP.out]
          have := HS3.out
          rw [HJ.out] at this
          exact this
    · have hne2 : (z == 56) = false := by simp; omega
      have hz0 : 0 ≤ z := by omega
      have hz1 : z < 64 := by omega
      have HZA := Lib.hid hza
      clear hza
      clear HS1 HB1
      go_wp2_with fail
      refine (add256_any b 0 _ _ wr (by rfl) HS2.out HG2.out hb).mono ?_
      rintro e w4 ⟨rfl, hs4, hb4⟩
      rw [eat256_snoc] at hs4
      have HS4 := Lib.hid (show ST256 w4 b (eat256 s.1 s.2 ([128] ++ List.replicate (t + 1) 0)) by
        rw [List.replicate_succ', ← List.append_assoc]; exact hs4)
      have HB4 := Lib.hid (BelowX.up HB2.out hb4)
      clear hs4 hb4
      go_wp2
      go_roundw
      case rel => exact ⟨(a + 1) % 64, t + 1, _, rfl, by have := HZA.out; omega, Nat.mod_lt _ (by decide), by have := HT.out; omega, HS4.out, HB4.out⟩
      case measure => have := HZA.out; simp [intOf]; omega
end Go.Proofs.YtfjkinmmidmjaaaDoor
