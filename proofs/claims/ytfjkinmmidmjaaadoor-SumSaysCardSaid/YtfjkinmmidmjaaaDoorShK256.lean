/-
  The document's padding, in blocks of 64 bytes.
  Conditions: none.
-/
import Derived.Test.YtfjkinmmidmjaaaDoorShF256
import Derived.Test.YtfjkinmmidmjaaaDoorShX
namespace Go.Proofs.YtfjkinmmidmjaaaDoor
open Go.RowKit

/-- The j-th of eight bytes of the length. -/
def l8256 (n j : Nat) : UInt8 := UInt8.ofNat (n * 8 / 2 ^ (8 * (7 - j)) % 256)
/-- The noughts ahead of them. -/
def zz256 (n : Nat) : Nat := (64 - 8 + 64 - (n + 1) % 64) % 64 + (8 - 8)
theorem pad256_ref (n : Nat) (_hn : n ≤ 1000000) : pad256 n = [128] ++ List.replicate (zz256 n) 0 ++ (List.range 8).map (l8256 n) := by
  rfl
theorem ownsb256_alloc {w : World} {B : Nat} {v : Value} {xs : List UInt8} (h : Owns w B v xs) (o : Obj) : Owns (w.alloc o) B v xs := World.ownsRow.alloc h o
theorem below_grown256 {w w' : World} {B : Nat} {v : Value} {xs : List UInt8} {o : Obj} (hB : B ≤ w.heap.size) (hown : Owns w B v xs) (hg : (w.alloc o).grownBy w' v.ownBlock) : Below B w w' := Below.of_append hB hown hg
def slen256 : Value → Nat
  | .slice _ n _ => n
  | _ => 0
theorem own_form256 {w : World} {B : Nat} {v : Value} {xs : List UInt8} (h : Owns w B v xs) (n : Nat) (hn : xs.length = n) : ∃ A C, v = .slice A n C ∧ Owns w B (.slice A n C) xs := by
  have h2 := h
  obtain ⟨A, C, rfl, _⟩ := h.bys
  rw [hn] at h2 ⊢
  exact ⟨A, C, rfl, h2⟩
theorem own_next256 {w w2 : World} {B n : Nat} {v v2 : Value} {xs : List UInt8} {x : UInt8} {o : Obj} (hB : B ≤ w.heap.size) (h : Owns w B v xs) (h2 : w2.ownsRow B 5 1 v2 (xs.length + 1) (byteVals xs ++ byteVals [x])) (hg : (w.alloc o).grownBy w2 v.ownBlock) (hn : xs.length = n) : (∃ A C, v2 = .slice A (n + 1) C ∧ Owns w2 B (.slice A (n + 1) C) (xs ++ [x])) ∧ Below B w w2 :=
  ⟨own_form256 (Owns.of_append h2 rfl rfl) (n + 1) (by rw [List.length_append, hn]; rfl), Below.of_append hB h hg⟩
set_option maxRecDepth 100000 in
set_option maxHeartbeats 2000000 in
theorem padded256_any (v : Value) (b : List UInt8) (w : World) (hlen : b.length ≤ 100000) (hb : Bys w v b) :
    Calls Tryd.prog 21 #[v, .int .i64 64] w fun e w' => ∃ v', e = .returned v' ∧ Owns w' w.heap.size v' (b ++ pad256 b.length) ∧ Below w.heap.size w w' := by
  obtain ⟨i0, hi, hz0, hz1, hz2⟩ := info_parts info_u8
  have HI := Lib.hid hi
  have HB := Lib.hid hb
  obtain ⟨ao, cap, rfl, hcap, ho⟩ := hb
  have HP := Lib.hid (pad256_ref b.length (by omega))
  have hw8 : IntKind.u64.wrap ((b.length : Int) * 8) = (b.length : Int) * 8 := by rw [IntKind.wrap_u64]; omega
  have hw9 : IntKind.u64.wrap (b.length : Int) = (b.length : Int) := by rw [IntKind.wrap_u64]; omega
  have HBY := Lib.hid (HB.out.below ((Below.refl _ w).alloc (Nat.le_refl _) (.cells #[] 5)))
  clear hi HB hcap ho
  go_enter Tryd.func21, Tryd.ntmps21
  go_wp2_with (first
    | (at_builtin; refine wpList_append_bys rfl _ _ rfl w.heap.size _ [] rfl (owns_empty w _ (Nat.le_refl _)) _ b rfl HBY.out (by simp; omega) (by simp) ?_))
  intro v1 w1 ho1 hg1
  have HO1 := Lib.hid ho1
  have HB1 := Lib.hid (show Below w.heap.size w w1 from ((Below.refl _ w).alloc (Nat.le_refl _) _).trans ((Below.refl _ _).grown hg1 (by simp) (fun k hk => by simp [Value.ownBlock] at hk; omega)))
  clear ho1 hg1 HBY
  have HNW1 := Lib.hid (news_at w1 [128])
  have hsz1 : w.heap.size ≤ w1.heap.size := HB1.out.size
  go_wp2_with (first
    | (at_builtin; refine wpList_append_own _ rfl _ _ 22 rfl w.heap.size 5 i0 (.int .u8 0) 1 1 Tryd.underlying22 HI.out hz0 hz1 hz2 rfl (by decide) _ _ _ rfl (World.ownsRow.alloc HO1.out _) ⟨w1.heap.size, 0, none⟩ 1 1 (byteVals [128]) rfl rfl HNW1.out (news_one _) (by unfold maxLen; omega) (by omega) (by simp; omega) ?_))
  intro v2 w2 ho2 hg2 _
  obtain ⟨⟨A2, C2, rfl, ho2b⟩, hb2⟩ := own_next256 hsz1 HO1.out ho2 hg2 rfl
  have HO2 := Lib.hid (show Owns w2 w.heap.size (.slice A2 (b.length + 1) C2) (b ++ [128] ++ List.replicate 0 0) by rw [List.replicate_zero, List.append_nil]; exact ho2b)
  have HB2 := Lib.hid (HB1.out.trans hb2)
  obtain ⟨Z, hZ⟩ : ∃ Z, (64 - 8 + 64 - (b.length + 1) % 64) % 64 = Z := ⟨_, rfl⟩
  have HZ := Lib.hid hZ
  have hZ128 : Z < 64 := by rw [← hZ]; exact Nat.mod_lt _ (by decide)
  clear ho2 hg2 HNW1 hsz1 ho2b hb2 hZ
  go_wp2_with fail
  go_loopw [5] (fun ov wr => ∃ (A : Option Addr) (C N t : Nat), ov = .slice A N C ∧ N = b.length + 1 + t ∧ t ≤ Z ∧ t + (64 - 8 + 64 - N % 64) % 64 = Z ∧ Owns wr w.heap.size (.slice A N C) (b ++ [128] ++ List.replicate t 0) ∧ Below w.heap.size w wr) (fun o _ => (64 - 8 + 64 - slen256 o % 64) % 64)
  case atStart => exact ⟨A2, C2, _, 0, rfl, rfl, Nat.zero_le _, by rw [Nat.zero_add]; exact HZ.out, HO2.out, HB2.out⟩
  case round =>
    obtain ⟨A, C, N, t, rfl, hN, htZ, htz, hown, hbel⟩ := hrel
    have HOW := Lib.hid hown
    have HBE := Lib.hid hbel
    have HNE := Lib.hid hN
    have HTZ := Lib.hid htz
    have hlx : (b ++ [128] ++ List.replicate t 0).length = N := by simp; omega
    obtain ⟨X, hX⟩ : ∃ X, b ++ [128] ++ List.replicate t 0 = X := ⟨_, rfl⟩
    have HX := Lib.hid hX
    rw [hX] at hlx HOW
    have HLX := Lib.hid hlx
    have hNs : N ≤ 200000 := by omega
    have hsz : w.heap.size ≤ wr.heap.size := hbel.size
    clear hown hbel hN htz HO2 HB2 hX hlx
    obtain ⟨r, hr⟩ : ∃ r, N % 64 = r := ⟨_, rfl⟩
    obtain ⟨zr, hr'⟩ : ∃ z : Int, (N : Int) % 64 = z := ⟨_, rfl⟩
    have hzr : zr = (r : Int) := by omega
    have HR := Lib.hid hr
    have hrl : r < 64 := by rw [← hr]; exact Nat.mod_lt _ (by decide)
    clear hr
    by_cases hne : r = 64 - 8
    · obtain rfl : zr = 56 := by omega
      clear hzr
      have HT := Lib.hid (show t = Z by have h1 := HTZ.out; have h2 := HR.out; rw [h2] at h1; omega)
      have HOW2 := Lib.hid (show Owns wr w.heap.size (.slice A N C) (b ++ [128] ++ List.replicate Z 0) by rw [← HT.out, HX.out]; exact HOW.out)
      have HN2 := Lib.hid (show N = b.length + 1 + Z by rw [← HT.out]; exact HNE.out)
      clear hne HOW hrl
      go_wp2_with fail
      clear hr'
      go_loopw [5, 8] (fun ov iv wq => ∃ (A : Option Addr) (C N j : Nat) (z : Int), ov = .slice A N C ∧ iv = .int .i64 z ∧ z = 7 - (j : Int) ∧ j ≤ 8 ∧ N = b.length + 1 + Z + j ∧ Owns wq w.heap.size (.slice A N C) (b ++ [128] ++ List.replicate Z 0 ++ (List.range j).map (l8256 b.length)) ∧ Below w.heap.size w wq) (fun _ i _ => (intOf i + 1).toNat)
      case atStart => exact ⟨_, _, _, 0, _, rfl, rfl, rfl, Nat.zero_le _, by rw [HN2.out]; omega, by rw [List.range_zero, List.map_nil, List.append_nil]; exact HOW2.out, HBE.out⟩
      case round =>
        obtain ⟨A9, C9, N9, j, z, rfl, rfl, hzj, hj, hN9, hown9, hbel9⟩ := hrel
        have hlx9 : (b ++ [128] ++ List.replicate Z 0 ++ (List.range j).map (l8256 b.length)).length = N9 := by simp; omega
        obtain ⟨X9, hX9⟩ : ∃ X, b ++ [128] ++ List.replicate Z 0 ++ (List.range j).map (l8256 b.length) = X := ⟨_, rfl⟩
        rw [hX9] at hlx9 hown9
        have HX9 := Lib.hid hX9
        have HLX9 := Lib.hid hlx9
        have HOW9 := Lib.hid hown9
        have HBE9 := Lib.hid hbel9
        have HN9 := Lib.hid hN9
        have hsz9 : w.heap.size ≤ wr.heap.size := hbel9.size
        have hNs9 : N9 ≤ 200000 := by omega
        clear hX9 hlx9 hown9 hbel9 hN9
        by_cases hlt9 : j < 8
        · obtain ⟨m, hm⟩ : ∃ m, 7 - j = m := ⟨_, rfl⟩
          obtain rfl : z = (m : Int) := by omega
          have HM := Lib.hid hzj
          clear hzj
          have hm7 : m ≤ 7 := by omega
          have h0 : (0 : Int) ≤ (m : Int) := by omega
          have h8 : (0 : Int) ≤ 8 * (m : Int) := by omega
          have HY := Lib.hid (show ((b.length : Int) * 8 / 2 ^ (8 * m) % 256) = ((l8256 b.length j).toNat : Int) by
            unfold l8256
            rw [hm, UInt8.toNat_ofNat', Nat.mod_eq_of_lt (Nat.mod_lt _ (by decide)), Int.natCast_emod, Int.natCast_ediv, Int.natCast_mul, Int.natCast_pow]; rfl)
          have HSN := Lib.hid (show b ++ [128] ++ List.replicate Z 0 ++ (List.range (j + 1)).map (l8256 b.length) = X9 ++ [l8256 b.length j] by
            rw [List.range_succ, List.map_append, ← List.append_assoc, HX9.out]; rfl)
          generalize l8256 b.length j = d at HY HSN
          have HNW := Lib.hid (news_at wr [d])
          have hy := HY.out
          clear hm
          go_wp2_with (first
            | (at_builtin; refine wpList_append_own _ rfl _ _ 22 rfl w.heap.size 5 i0 (.int .u8 0) 1 1 Tryd.underlying22 HI.out hz0 hz1 hz2 rfl (by decide) _ _ _ rfl (World.ownsRow.alloc HOW9.out _) ⟨wr.heap.size, 0, none⟩ 1 1 (byteVals [d]) rfl rfl HNW.out (news_one _) (by rw [HLX9.out]; unfold maxLen; omega) (by rw [HLX9.out]; omega) (by simp; omega) ?_))
          intro v4 w4 ho4 hg4 _
          obtain ⟨⟨A4, C4, rfl, ho4b⟩, hb4⟩ := own_next256 hsz9 HOW9.out ho4 hg4 HLX9.out
          have HO4 := Lib.hid (show Owns w4 w.heap.size (.slice A4 (N9 + 1) C4) (b ++ [128] ++ List.replicate Z 0 ++ (List.range (j + 1)).map (l8256 b.length)) by rw [HSN.out]; exact ho4b)
          have HB4 := Lib.hid (HBE9.out.trans hb4)
          clear ho4 hg4 ho4b hb4 HNW hy
          go_wp2
          go_roundw
          case rel => exact ⟨A4, C4, N9 + 1, j + 1, _, rfl, rfl, by have := HM.out; omega, hlt9, by have := HN9.out; omega, HO4.out, HB4.out⟩
          case measure => simp [intOf]
        · have hneg : ¬ (0 : Int) ≤ z := by omega
          have HJ := Lib.hid (show j = 8 by omega)
          clear hzj
          go_wp2
          go_ret
          refine ⟨_, rfl, ?_, HBE9.out⟩
          have h1 := HOW9.out
          rw [← HX9.out, HJ.out] at h1
          rw [HP.out, ← List.append_assoc, ← List.append_assoc]
          rw [show zz256 b.length = Z from HZ.out]
          exact h1
    · have hne2 : (zr == 56) = false := by simp; omega
      clear hzr
      have HNW := Lib.hid (news_at wr [0])
      go_wp2_with (first
        | (at_builtin; refine wpList_append_own _ rfl _ _ 22 rfl w.heap.size 5 i0 (.int .u8 0) 1 1 Tryd.underlying22 HI.out hz0 hz1 hz2 rfl (by decide) _ _ _ rfl (World.ownsRow.alloc HOW.out _) ⟨wr.heap.size, 0, none⟩ 1 1 (byteVals [0]) rfl rfl HNW.out (news_one _) (by rw [HLX.out]; unfold maxLen; omega) (by rw [HLX.out]; omega) (by simp; omega) ?_))
      intro v3 w3 ho3 hg3 _
      obtain ⟨⟨A3, C3, rfl, ho3b⟩, hb3⟩ := own_next256 hsz HOW.out ho3 hg3 HLX.out
      have HO3 := Lib.hid (show Owns w3 w.heap.size (.slice A3 (N + 1) C3) (b ++ [128] ++ List.replicate (t + 1) 0) by rw [List.replicate_succ', ← List.append_assoc, HX.out]; exact ho3b)
      have HB3 := Lib.hid (HBE.out.trans hb3)
      have HT3 := Lib.hid (show t + 1 + (64 - 8 + 64 - (N + 1) % 64) % 64 = Z ∧ t + 1 ≤ Z by
        have h1 := HTZ.out
        have h2 := HR.out
        omega)
      clear ho3 hg3 ho3b hb3 HNW
      go_wp2
      go_roundw
      case rel => exact ⟨A3, C3, N + 1, t + 1, rfl, by have := HNE.out; omega, HT3.out.2, HT3.out.1, HO3.out, HB3.out⟩
      case measure =>
        have h1 := HTZ.out
        have h2 := HT3.out.1
        show (64 - 8 + 64 - (N + 1) % 64) % 64 < (64 - 8 + 64 - N % 64) % 64
        omega
end Go.Proofs.YtfjkinmmidmjaaaDoor
