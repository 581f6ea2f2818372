/-
  What package sha passes to a hash512: all bytes of all rows, and the padding.
  Conditions: none.
-/
import Derived.Test.YtfjkinmmidmjaaaDoorShF512
namespace Go.Proofs.YtfjkinmmidmjaaaDoor
open Go.RowKit

set_option maxRecDepth 100000 in
set_option maxHeartbeats 2000000 in
theorem feed512_any (b : Nat) (v : Value) (ll : List (List UInt8)) (s : W8 × List UInt8) (w : World) (hv : Bss b w v ll) (hn : (flat ll).length ≤ 1000000) (hn2 : ll.length ≤ 1000000) (h : ST512 w b s) (hG : Gl w) (hb : 1 < b) :
    Calls Tryd.prog 13 #[v, .int .i64 128, .int .i64 16, .func (.func 17) #[.pointer (some ⟨b, 0, none⟩)] #[]] w fun e w' => e = .returned (.tuple #[]) ∧ ST512 w' b (eat512 s.1 s.2 (flat ll ++ pad512 (flat ll).length)) ∧ BelowX w.heap.size b w w' := by
  obtain ⟨ao, cap, rfl, hao⟩ := hv
  have HAO := Lib.hid hao
  have HST := Lib.hid h
  have HG := Lib.hid hG
  have hbl := h.lt
  have hlt1 : 1 < w.heap.size := by omega
  have HN := Lib.hid hn
  have HLE := Lib.hid (fun k => show (flat (ll.take k)).length ≤ (flat ll).length by
    have : flat ll = flat (ll.take k) ++ flat (ll.drop k) := by unfold flat; rw [← List.flatten_append, List.take_append_drop]
    rw [this, List.length_append]; omega)
  clear hao h hG hn
  go_enter Tryd.func13, Tryd.ntmps13
  go_wp2_with fail
  go_loopw [8, 15] (fun cv iv wr => ∃ (k c : Nat), cv = .int .u64 c ∧ iv = .int .i64 k ∧ k ≤ ll.length ∧ c = (flat (ll.take k)).length ∧ ST512 wr b (eat512 s.1 s.2 (flat (ll.take k))) ∧ BelowX w.heap.size b w wr) (fun _ i _ => ll.length - (intOf i).toNat)
  case atStart => exact ⟨0, 0, rfl, rfl, Nat.zero_le _, rfl, HST.out, BelowX.refl _ _ _⟩
  case round =>
    obtain ⟨k, c, rfl, rfl, hk, hc, hst, hbx⟩ := hrel
    have HS := Lib.hid hst
    have HB := Lib.hid hbx
    have HC := Lib.hid hc
    clear hst hbx hc HST
    by_cases hlt : k < ll.length
    · have hlt' : (k : Int) < (ll.length : Int) := by omega
      obtain ⟨g, off, rfl, hg, hcell⟩ : ∃ g off, ao = some ⟨g, off, none⟩ ∧ g < b ∧ ∀ i (h : i < ll.length), ∃ u, w.cell? ⟨g, off + i, none⟩ = some u ∧ BysB b w u ll[i] := by
        rcases HAO.out with rfl | h
        · simp at hlt
        · exact h
      obtain ⟨u, hu, hub⟩ := hcell k hlt
      have hu2 : wr.cell? ⟨g, off + k, none⟩ = some u := by
        rw [World.cell?_of_block (HB.out.block g (by omega) (by omega))]; exact hu
      obtain ⟨l, hl⟩ : ∃ l, ll[k] = l := ⟨_, rfl⟩
      rw [hl] at hub
      have HFT := Lib.hid (show flat (ll.take (k + 1)) = flat (ll.take k) ++ l by rw [flat_take ll k hlt, hl])
      have HLL := Lib.hid (show (flat (ll.take k)).length + l.length ≤ 1000000 by
        have h1 := HLE.out (k + 1)
        rw [HFT.out, List.length_append] at h1
        have h2 := HN.out
        omega)
      obtain ⟨ao2, cap2, rfl, hao2⟩ := hub
      have HAO2 := Lib.hid hao2
      have hll : l.length ≤ 1000000 := by have := HLL.out; omega
      have hcn : c ≤ 1000000 := by have := HLL.out; have := HC.out; omega
      clear hcell hu hl hao2 HAO
      go_wp2_with fail
      go_loopw [21] (fun iv wq => ∃ (j : Nat), iv = .int .i64 j ∧ j ≤ l.length ∧ ST512 wq b (eat512 s.1 s.2 (flat (ll.take k) ++ l.take j)) ∧ BelowX w.heap.size b w wq) (fun i _ => l.length - (intOf i).toNat)
      case atStart => exact ⟨0, rfl, Nat.zero_le _, by rw [List.take_zero, List.append_nil]; exact HS.out, HB.out⟩
      case round =>
        obtain ⟨j, rfl, hj, hst, hbx⟩ := hrel
        have HS2 := Lib.hid hst
        have HB2 := Lib.hid hbx
        have HG2 := Lib.hid (HG.out.belowX hbx hb (by omega))
        clear hst hbx HS HB
        by_cases hlt2 : j < l.length
        · have hlt2' : (j : Int) < (l.length : Int) := by omega
          obtain ⟨g2, off2, rfl, hg2, hcell2⟩ : ∃ g off, ao2 = some ⟨g, off, none⟩ ∧ g < b ∧ ∀ i (h : i < l.length), w.cell? ⟨g, off + i, none⟩ = some (.int .u8 (l[i].toNat : Int)) := by
            rcases HAO2.out with rfl | h
            · simp at hlt2
            · exact h
          have hce : wr.cell? ⟨g2, off2 + j, none⟩ = some (.int .u8 (l[j].toNat : Int)) := by
            rw [World.cell?_of_block (HB2.out.block g2 (by omega) (by omega))]; exact hcell2 j hlt2
          obtain ⟨x, hx⟩ : ∃ x, l[j] = x := ⟨_, rfl⟩
          rw [hx] at hce
          have HX := Lib.hid hx
          clear hcell2 hx HAO2 hu2
          go_wp2_with fail
          refine (add512_any b x _ _ wr (by rfl) HS2.out HG2.out hb).mono ?_
          rintro e w4 ⟨rfl, hs4, hb4⟩
          rw [eat512_snoc] at hs4
          have HS4 := Lib.hid (show ST512 w4 b (eat512 s.1 s.2 (flat (ll.take k) ++ l.take (j + 1))) by
            rw [List.take_add_one, List.getElem?_eq_getElem hlt2, HX.out, Option.toList_some, ← List.append_assoc]; exact hs4)
          have HB4 := Lib.hid (BelowX.up HB2.out hb4)
          clear hs4 hb4
          go_wp2
          go_roundw
          case rel => exact ⟨j + 1, rfl, hlt2, HS4.out, HB4.out⟩
          case measure => simp [intOf]; omega
        · have hlt2' : ¬ (j : Int) < (l.length : Int) := by omega
          have HS3 := Lib.hid (show ST512 wr b (eat512 s.1 s.2 (flat (ll.take (k + 1)))) by
            rw [HFT.out]
            have := HS2.out
            rw [show l.take j = l from List.take_of_length_le (by omega)] at this
            exact this)
          have hw1 : IntKind.u64.wrap (l.length : Int) = (l.length : Int) := by rw [IntKind.wrap_u64]; omega
          have hw2 : IntKind.u64.wrap ((c : Int) + (l.length : Int)) = ((c + l.length : Nat) : Int) := by rw [IntKind.wrap_u64]; omega
          have HCC := Lib.hid (show c + l.length = (flat (ll.take (k + 1))).length by rw [HFT.out, List.length_append, ← HC.out])
          clear hu2 HAO2
          go_wp2
          go_roundw
          case rel => exact ⟨k + 1, c + l.length, rfl, rfl, hlt, HCC.out, HS3.out, HB2.out⟩
          case measure => simp [intOf]; omega
    · have hlt' : ¬ (k : Int) < (ll.length : Int) := by omega
      have HE := Lib.hid (show flat (ll.take k) = flat ll by rw [List.take_of_length_le (by omega)])
      have HCE := Lib.hid (show c = (flat ll).length by rw [HC.out, HE.out])
      have HCL := Lib.hid (show c ≤ 1000000 by rw [HCE.out]; exact HN.out)
      have HG2 := Lib.hid (HG.out.belowX HB.out hb (by omega))
      clear HAO
      go_wp2_with fail
      refine (padding512_any b c _ wr HCL.out HS.out HG2.out hb).mono ?_
      rintro e w4 ⟨rfl, hs4, hb4⟩
      rw [← eat512_app, HE.out, HCE.out] at hs4
      have HS4 := Lib.hid hs4
      have HB4 := Lib.hid (BelowX.up HB.out hb4)
      clear hs4 hb4
      go_wp2
      go_end0
      exact ⟨rfl, HS4.out, HB4.out⟩
end Go.Proofs.YtfjkinmmidmjaaaDoor
