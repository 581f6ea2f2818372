/-
  The document's own Dec.
  Conditions: none.
-/
import Derived.Test.YthcphfpkinfjoaaPaY
namespace Go.Proofs.Ythcphfpkinfjoaa
open Go.RowKit

set_option maxRecDepth 100000 in
set_option maxHeartbeats 2000000 in
theorem refDec_pos (n : Int) (w : World) (h0 : 0 < n) (h1 : n < 9223372036854775808) :
    Calls Try.prog 30 #[.int .i64 n] w fun e w' => e = .returned (.string ⟨(decI n).toArray⟩) ∧ Below w.heap.size w w' := by
  have hz : (n == 0) = false := beq_eq_false_iff_ne.2 (by omega)
  have hneg : ¬ n < 0 := by omega
  have H1 := Lib.hid h1
  have H0 := Lib.hid h0
  clear h1 h0
  go_enter Try.func30, Try.ntmps30
  go_wp2_with fail
  have HU := Lib.hid (show IntKind.u64.wrap n = ((n.natAbs : Nat) : Int) by
    have h1 := H1.out
    have h2 := H0.out
    rw [IntKind.wrap_u64]; omega)
  go_loopw [3, 4] (fun uv sv wr => ∃ (u f : Nat) (acc : List UInt8), uv = .int .u64 u ∧ sv = .string ⟨acc.toArray⟩ ∧ (u < 10 ^ f ∧ u < 18446744073709551616) ∧ acc.length + f = 20 ∧ Below w.heap.size w wr ∧ dl f u ++ acc = dl 20 n.natAbs) (fun u _ _ => (intOf u).toNat)
  case atStart => exact ⟨n.natAbs, 20, [], by rw [HU.out], rfl, by have h1 := H1.out; have h2 := H0.out; omega, rfl, Below.refl _ _, by simp⟩
  case round =>
    obtain ⟨u, f, acc, rfl, rfl, hu, hl, hbr, hd⟩ := hrel
    have HUF := Lib.hid hu
    have HL := Lib.hid hl
    have HD := Lib.hid hd
    have HBR := Lib.hid hbr
    clear hu hl hd hbr HU
    by_cases h0 : u = 0
    · subst h0
      have HA := Lib.hid (show acc = dl 20 n.natAbs by rw [← HD.out]; cases f <;> simp [dl])
      go_wp2
      go_ret
      exact ⟨by rw [show decI n = acc by rw [HA.out]; unfold decI; rw [if_neg (by have := H0.out; omega), if_neg (by omega)]]; rfl, HBR.out⟩
    · have h0' : (0 : Int) < (u : Int) := by omega
      have hc : byteVals [UInt8.ofNat (48 + u % 10)] = [Value.int .u8 (48 + (u : Int) % 10)] := by
        simp only [byteVals, List.map_cons, List.map_nil, dl_byte]; congr 2
      have hstr := (Owns.new wr [UInt8.ofNat (48 + u % 10)] 1 rfl (by decide)).toStr
      rw [hc] at hstr
      obtain ⟨g, rfl⟩ : ∃ g, f = g + 1 := by
        cases f with
        | zero => have := HUF.out.1; simp at this; omega
        | succ g => exact ⟨g, rfl⟩
      have HWR := Lib.hid (show IntKind.u64.wrap ((u : Int) / 10) = ((u / 10 : Nat) : Int) by
        have h1 := HUF.out.2
        rw [IntKind.wrap_u64]; omega)
      have HDD := Lib.hid (show dl g (u / 10) ++ (UInt8.ofNat (48 + u % 10) :: acc) = dl 20 n.natAbs by
        rw [← HD.out]; simp only [dl]; rw [if_neg h0, List.append_assoc]; rfl)
      have hsz : (⟨acc.toArray⟩ : ByteArray).size ≤ 20 := by
        have h4 : (⟨acc.toArray⟩ : ByteArray).size = acc.length := List.size_toArray
        have := HL.out
        omega
      have hg1 : ¬ 9223372036854775807 < 1 + (⟨acc.toArray⟩ : ByteArray).size := by omega
      have hg2 : ¬ 9223372036854775807 < 1 + acc.length := by have := HL.out; omega
      clear hc hsz
      go_wp2
      go_roundw
      case rel =>
        refine ⟨u / 10, g, UInt8.ofNat (48 + u % 10) :: acc, by rw [HWR.out], ?_, ?_, ?_, HBR.out.alloc HBR.out.size _, HDD.out⟩
        · congr 1
          apply Go.WideShapes.bytes_inj
          rw [ByteArray.data_append, Array.toList_append]
          simp [UInt8.ofNat_add]
        · have h1 := HUF.out
          rw [Nat.pow_succ] at h1
          omega
        · have h1 := HL.out
          simp only [List.length_cons]; omega
      case measure =>
        rw [HWR.out]
        simp only [intOf]
        omega
set_option maxRecDepth 100000 in
set_option maxHeartbeats 2000000 in
theorem refDec_neg (n : Int) (w : World) (h0 : n < 0) (h1 : -9223372036854775808 ≤ n) :
    Calls Try.prog 30 #[.int .i64 n] w fun e w' => e = .returned (.string ⟨(decI n).toArray⟩) ∧ Below w.heap.size w w' := by
  have hz : (n == 0) = false := beq_eq_false_iff_ne.2 (by omega)
  have hneg : n < 0 := h0
  have H1 := Lib.hid h1
  have H0 := Lib.hid h0
  clear h1 h0
  go_enter Try.func30, Try.ntmps30
  go_wp2_with fail
  have HU := Lib.hid (show IntKind.u64.wrap (-IntKind.u64.wrap n) = ((n.natAbs : Nat) : Int) by
    have h1 := H1.out
    have h2 := H0.out
    rw [IntKind.wrap_u64, IntKind.wrap_u64]; omega)
  go_loopw [3, 4] (fun uv sv wr => ∃ (u f : Nat) (acc : List UInt8), uv = .int .u64 u ∧ sv = .string ⟨acc.toArray⟩ ∧ (u < 10 ^ f ∧ u < 18446744073709551616) ∧ acc.length + f = 20 ∧ Below w.heap.size w wr ∧ dl f u ++ acc = dl 20 n.natAbs) (fun u _ _ => (intOf u).toNat)
  case atStart => exact ⟨n.natAbs, 20, [], by rw [HU.out], rfl, by have h1 := H1.out; have h2 := H0.out; omega, rfl, Below.refl _ _, by simp⟩
  case round =>
    obtain ⟨u, f, acc, rfl, rfl, hu, hl, hbr, hd⟩ := hrel
    have HUF := Lib.hid hu
    have HL := Lib.hid hl
    have HD := Lib.hid hd
    have HBR := Lib.hid hbr
    clear hu hl hd hbr HU
    by_cases h0 : u = 0
    · subst h0
      have HA := Lib.hid (show acc = dl 20 n.natAbs by rw [← HD.out]; cases f <;> simp [dl])
      have hg2 : ¬ 9223372036854775807 < 1 + acc.length := by have := HL.out; omega
      have hg1 : ¬ 9223372036854775807 < 1 + (⟨acc.toArray⟩ : ByteArray).size := by
        have h4 : (⟨acc.toArray⟩ : ByteArray).size = acc.length := List.size_toArray
        omega
      have HE := Lib.hid (show (⟨#[45]⟩ : ByteArray) ++ ⟨acc.toArray⟩ = ⟨(decI n).toArray⟩ by
        rw [show decI n = 45 :: acc by rw [HA.out]; unfold decI; rw [if_neg (by have := H0.out; omega), if_pos H0.out]]
        apply Go.WideShapes.bytes_inj
        rw [ByteArray.data_append, Array.toList_append]
        rfl)
      go_wp2
      go_ret
      exact ⟨by rw [← HE.out]; rfl, HBR.out⟩
    · have h0' : (0 : Int) < (u : Int) := by omega
      have hc : byteVals [UInt8.ofNat (48 + u % 10)] = [Value.int .u8 (48 + (u : Int) % 10)] := by
        simp only [byteVals, List.map_cons, List.map_nil, dl_byte]; congr 2
      have hstr := (Owns.new wr [UInt8.ofNat (48 + u % 10)] 1 rfl (by decide)).toStr
      rw [hc] at hstr
      obtain ⟨g, rfl⟩ : ∃ g, f = g + 1 := by
        cases f with
        | zero => have := HUF.out.1; simp at this; omega
        | succ g => exact ⟨g, rfl⟩
      have HWR := Lib.hid (show IntKind.u64.wrap ((u : Int) / 10) = ((u / 10 : Nat) : Int) by
        have h1 := HUF.out.2
        rw [IntKind.wrap_u64]; omega)
      have HDD := Lib.hid (show dl g (u / 10) ++ (UInt8.ofNat (48 + u % 10) :: acc) = dl 20 n.natAbs by
        rw [← HD.out]; simp only [dl]; rw [if_neg h0, List.append_assoc]; rfl)
      have hsz : (⟨acc.toArray⟩ : ByteArray).size ≤ 20 := by
        have h4 : (⟨acc.toArray⟩ : ByteArray).size = acc.length := List.size_toArray
        have := HL.out
        omega
      have hg1 : ¬ 9223372036854775807 < 1 + (⟨acc.toArray⟩ : ByteArray).size := by omega
      have hg2 : ¬ 9223372036854775807 < 1 + acc.length := by have := HL.out; omega
      clear hc hsz
      go_wp2
      go_roundw
      case rel =>
        refine ⟨u / 10, g, UInt8.ofNat (48 + u % 10) :: acc, by rw [HWR.out], ?_, ?_, ?_, HBR.out.alloc HBR.out.size _, HDD.out⟩
        · congr 1
          apply Go.WideShapes.bytes_inj
          rw [ByteArray.data_append, Array.toList_append]
          simp [UInt8.ofNat_add]
        · have h1 := HUF.out
          rw [Nat.pow_succ] at h1
          omega
        · have h1 := HL.out
          simp only [List.length_cons]; omega
      case measure =>
        rw [HWR.out]
        simp only [intOf]
        omega
set_option maxRecDepth 100000 in
theorem refDec_any (n : Int) (w : World) (h : -9223372036854775808 ≤ n ∧ n < 9223372036854775808) :
    Calls Try.prog 30 #[.int .i64 n] w fun e w' => e = .returned (.string ⟨(decI n).toArray⟩) ∧ Below w.heap.size w w' := by
  by_cases h0 : n = 0
  · subst h0
    go_enter Try.func30, Try.ntmps30
    go_wp2
    go_ret
    exact ⟨rfl, Below.refl _ _⟩
  by_cases h1 : n < 0
  · exact refDec_neg n w h1 h.1
  · exact refDec_pos n w (by omega) h.2
end Go.Proofs.Ythcphfpkinfjoaa
