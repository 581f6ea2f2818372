/-
  What the document puts.
  Conditions: none.
-/
import Derived.Test.YtnbonoallcjlbaaBaG
namespace Go.Proofs.Ytnbonoallcjlbaa
open Go.RowKit

theorem wraps_i64 (n : Int) (h₀ : 0 ≤ n) (h₁ : n < 2 ^ 63) : IntKind.i64.wrap n = n := by rw [IntKind.wrap_i64]; omega
theorem or_bit (n y : Nat) (hn : n < 64) (hy : y < 256) : bits .or .i64 ((n : Int) * 2) (bits .and .i64 (y : Int) 1) = ((2 * n + y % 2 : Nat) : Int) := by
  have h := bits_mask .i64 63 (by decide) wraps_i64 1 (by decide) (y : Int) (by omega) (by omega)
  rw [show ((1 : Int)) = 2 ^ 1 - 1 by decide, h]
  rw [bits_join .i64 63 (by decide) wraps_i64 1 _ _ (by omega) (by omega) (by omega) (by omega) (by omega) (by omega)]
  omega
theorem bitAt_in {l : List UInt8} {k q : Nat} (hq : k / 8 = q) (h : q < l.length) {x : UInt8} (hx : l[q] = x) (t : Nat) (ht : k % 8 = t) : bitAt l k = x.toNat / 2 ^ (7 - t) % 2 := by
  subst hq ht
  unfold bitAt
  rw [List.getD_eq_getElem?_getD, List.getElem?_eq_getElem h, ← hx]
  rfl
theorem bitAt_out {l : List UInt8} {k : Nat} (h : 8 * l.length ≤ k) : bitAt l k = 0 := by
  unfold bitAt
  rw [List.getD_eq_getElem?_getD, List.getElem?_eq_none (by omega)]
  simp
set_option maxRecDepth 100000 in
set_option maxHeartbeats 4000000 in
theorem put64_any (u : Bool) (v : Value) (l : List UInt8) (w : World) (hlen : l.length ≤ 100000) (hl : Bys w v l) :
    Calls Try.prog 12 #[v, .bool u] w fun e w' => e = .returned (.string ⟨(put u l).toArray⟩) ∧ Below w.heap.size w w' := by
  obtain ⟨ao, cap, rfl, _, hao⟩ := hl
  have HAO := Lib.hid hao
  clear hao
  obtain ⟨i0, hi, hz0, hz1, hz2⟩ := info_parts info_u8
  go_enter Try.func12, Try.ntmps12
  go_wp2_with fail
  go_loopw [5, 6] (fun ov iv wr => ∃ j : Nat, iv = .int .i64 (6 * j : Nat) ∧ j ≤ (8 * l.length + 5) / 6 ∧ Owns wr w.heap.size ov ((rput l j).map (sg u)) ∧ Below w.heap.size w wr) (fun _ i _ => 8 * l.length + 6 - (intOf i).toNat)
  case atStart => exact ⟨0, rfl, Nat.zero_le _, World.ownsRow_nil _ _ _ _, Below.refl _ _⟩
  case round =>
    obtain ⟨j, rfl, hj, hown, hbr⟩ := hrel
    have HOW := Lib.hid hown
    have HBR := Lib.hid hbr
    clear hown hbr
    by_cases hlt : 6 * j < 8 * l.length
    · have hlt' : ((6 * j : Nat) : Int) < 8 * (l.length : Int) := by omega
      obtain ⟨g, off, rfl, hg, hcell⟩ : ∃ g off, ao = some ⟨g, off, none⟩ ∧ g < w.heap.size ∧ ∀ i (h : i < l.length), w.cell? ⟨g, off + i, none⟩ = some (.int .u8 (l[i].toNat : Int)) := by
        rcases HAO.out with rfl | h
        · simp at hlt
        · exact h
      have HCE := Lib.hid (fun i (h : i < l.length) => (World.cell?_of_block (a := ⟨g, off + i, none⟩) (HBR.out.block g hg)).trans (hcell i h))
      clear hcell HAO
      obtain ⟨i, hi6⟩ : ∃ i, 6 * j = i := ⟨_, rfl⟩
      have HI6 := Lib.hid hi6
      rw [hi6] at hlt hlt' ⊢
      clear hi6
      go_wp2_with fail
      go_loopw [7, 8] (fun nv kv wq => ∃ m : Nat, m ≤ 6 ∧ nv = .int .i64 (sixP l i m : Nat) ∧ kv = .int .i64 (i + m : Nat) ∧ wq = wr) (fun _ k _ => i + 6 - (intOf k).toNat)
      case atStart => exact ⟨0, by decide, rfl, rfl, rfl⟩
      case round =>
        obtain ⟨m, hm, rfl, rfl, rfl⟩ := hrel
        obtain ⟨n, hn⟩ : ∃ n, sixP l i m = n := ⟨_, rfl⟩
        obtain ⟨k, hk⟩ : ∃ k, i + m = k := ⟨_, rfl⟩
        have hnp : n < 64 ∧ (m < 6 → n < 32) := by
          have h1 := sixP_lt l i m
          rw [hn] at h1
          have h2 : m = 6 ∨ m = 5 ∨ m = 4 ∨ m = 3 ∨ m = 2 ∨ m = 1 ∨ m = 0 := by omega
          rcases h2 with rfl | rfl | rfl | rfl | rfl | rfl | rfl <;> omega
        have hkb : i ≤ k ∧ k ≤ i + 6 ∧ i ≤ 1000000 := by omega
        rw [hn, hk]
        have HN := Lib.hid hn
        have HK := Lib.hid hk
        by_cases hm6 : m < 6
        · have hki : (k : Int) < (i : Int) + 6 := by omega
          by_cases hkl : k < 8 * l.length
          · have hkl' : (k : Int) < 8 * (l.length : Int) := by omega
            obtain ⟨q, hq⟩ : ∃ q, k / 8 = q := ⟨_, rfl⟩
            have hql : q < l.length := by omega
            have hce := HCE.out q hql
            have hq' : (k : Int) / 8 = (q : Int) := by omega
            have hqb : (q : Int) < (l.length : Int) := by omega
            obtain ⟨x, hx⟩ : ∃ x, l[q] = x := ⟨_, rfl⟩
            rw [hx] at hce
            have HX := Lib.hid hx
            have HQ := Lib.hid hq
            clear hx hq hk hn
            have hn1 := hnp.1
            have hn2 := hnp.2 hm6
            have hx8 := x.toNat_lt
            clear hnp
            have h8 : k % 8 = 0 ∨ k % 8 = 1 ∨ k % 8 = 2 ∨ k % 8 = 3 ∨ k % 8 = 4 ∨ k % 8 = 5 ∨ k % 8 = 6 ∨ k % 8 = 7 := by omega
            rcases h8 with ht | ht | ht | ht | ht | ht | ht | ht
            · have ht' : (k : Int) % 8 = 0 := by omega
              have HB := Lib.hid (show sixP l i (m + 1) = 2 * n + x.toNat / 128 % 2 by
                show 2 * sixP l i m + bitAt l (i + m) = _
                rw [HN.out, HK.out, bitAt_in HQ.out hql HX.out 0 ht])
              have HT := Lib.hid ht
              clear ht
              go_wp2
              go_roundw
              case rel => exact ⟨m + 1, hm6, by rw [HB.out]; congr 1; exact or_bit n (x.toNat / 128) hn1 (by omega), by rw [← HK.out]; rfl, by trivial⟩
              case measure => simp [intOf]; omega
            · have ht' : (k : Int) % 8 = 1 := by omega
              have HB := Lib.hid (show sixP l i (m + 1) = 2 * n + x.toNat / 64 % 2 by
                show 2 * sixP l i m + bitAt l (i + m) = _
                rw [HN.out, HK.out, bitAt_in HQ.out hql HX.out 1 ht])
              have HT := Lib.hid ht
              clear ht
              go_wp2
              go_roundw
              case rel => exact ⟨m + 1, hm6, by rw [HB.out]; congr 1; exact or_bit n (x.toNat / 64) hn1 (by omega), by rw [← HK.out]; rfl, by trivial⟩
              case measure => simp [intOf]; omega
            · have ht' : (k : Int) % 8 = 2 := by omega
              have HB := Lib.hid (show sixP l i (m + 1) = 2 * n + x.toNat / 32 % 2 by
                show 2 * sixP l i m + bitAt l (i + m) = _
                rw [HN.out, HK.out, bitAt_in HQ.out hql HX.out 2 ht])
              have HT := Lib.hid ht
              clear ht
              go_wp2
              go_roundw
              case rel => exact ⟨m + 1, hm6, by rw [HB.out]; congr 1; exact or_bit n (x.toNat / 32) hn1 (by omega), by rw [← HK.out]; rfl, by trivial⟩
              case measure => simp [intOf]; omega
            · have ht' : (k : Int) % 8 = 3 := by omega
              have HB := Lib.hid (show sixP l i (m + 1) = 2 * n + x.toNat / 16 % 2 by
                show 2 * sixP l i m + bitAt l (i + m) = _
                rw [HN.out, HK.out, bitAt_in HQ.out hql HX.out 3 ht])
              have HT := Lib.hid ht
              clear ht
              go_wp2
              go_roundw
              case rel => exact ⟨m + 1, hm6, by rw [HB.out]; congr 1; exact or_bit n (x.toNat / 16) hn1 (by omega), by rw [← HK.out]; rfl, by trivial⟩
              case measure => simp [intOf]; omega
            · have ht' : (k : Int) % 8 = 4 := by omega
              have HB := Lib.hid (show sixP l i (m + 1) = 2 * n + x.toNat / 8 % 2 by
                show 2 * sixP l i m + bitAt l (i + m) = _
                rw [HN.out, HK.out, bitAt_in HQ.out hql HX.out 4 ht])
              have HT := Lib.hid ht
              clear ht
              go_wp2
              go_roundw
              case rel => exact ⟨m + 1, hm6, by rw [HB.out]; congr 1; exact or_bit n (x.toNat / 8) hn1 (by omega), by rw [← HK.out]; rfl, by trivial⟩
              case measure => simp [intOf]; omega
            · have ht' : (k : Int) % 8 = 5 := by omega
              have HB := Lib.hid (show sixP l i (m + 1) = 2 * n + x.toNat / 4 % 2 by
                show 2 * sixP l i m + bitAt l (i + m) = _
                rw [HN.out, HK.out, bitAt_in HQ.out hql HX.out 5 ht])
              have HT := Lib.hid ht
              clear ht
              go_wp2
              go_roundw
              case rel => exact ⟨m + 1, hm6, by rw [HB.out]; congr 1; exact or_bit n (x.toNat / 4) hn1 (by omega), by rw [← HK.out]; rfl, by trivial⟩
              case measure => simp [intOf]; omega
            · have ht' : (k : Int) % 8 = 6 := by omega
              have HB := Lib.hid (show sixP l i (m + 1) = 2 * n + x.toNat / 2 % 2 by
                show 2 * sixP l i m + bitAt l (i + m) = _
                rw [HN.out, HK.out, bitAt_in HQ.out hql HX.out 6 ht])
              have HT := Lib.hid ht
              clear ht
              go_wp2
              go_roundw
              case rel => exact ⟨m + 1, hm6, by rw [HB.out]; congr 1; exact or_bit n (x.toNat / 2) hn1 (by omega), by rw [← HK.out]; rfl, by trivial⟩
              case measure => simp [intOf]; omega
            · have ht' : (k : Int) % 8 = 7 := by omega
              have HB := Lib.hid (show sixP l i (m + 1) = 2 * n + x.toNat % 2 by
                show 2 * sixP l i m + bitAt l (i + m) = _
                rw [HN.out, HK.out, bitAt_in HQ.out hql HX.out 7 ht, Nat.div_one])
              have HT := Lib.hid ht
              clear ht
              go_wp2
              go_roundw
              case rel => exact ⟨m + 1, hm6, by rw [HB.out]; congr 1; exact or_bit n x.toNat hn1 (by omega), by rw [← HK.out]; rfl, by trivial⟩
              case measure => simp [intOf]; omega
          · have hkl' : ¬ (k : Int) < 8 * (l.length : Int) := by omega
            have HB := Lib.hid (show sixP l i (m + 1) = n * 2 by
              show 2 * sixP l i m + bitAt l (i + m) = _
              rw [HN.out, HK.out, bitAt_out (by omega)]; omega)
            have hn1 := hnp.1
            have hn2 := hnp.2 hm6
            clear hk hn hnp
            go_wp2
            go_roundw
            case rel => exact ⟨m + 1, hm6, by rw [HB.out]; rfl, by rw [← HK.out]; rfl, by trivial⟩
            case measure => simp [intOf]; omega
        · have hki : ¬ (k : Int) < (i : Int) + 6 := by omega
          have hn1 := hnp.1
          have HR := Lib.hid (show (rput l j).map (sg u) ++ [sg u n] = (rput l (j + 1)).map (sg u) by
            rw [rput_succ, HI6.out, ← HN.out, show m = 6 by omega]; simp)
          have hrl : ((rput l j).map (sg u)).length = j := by simp [rput]
          have HRL := Lib.hid hrl
          have hsz := HBR.out.size
          have HI0 := Lib.hid hi
          clear hk hn hnp hrl
          go_wp2_with fail
          refine (sign_any u n _ wr hn1 rfl).mono ?_
          rintro e w1 ⟨rfl, rfl⟩
          have HOA := Lib.hid (HOW.out.alloc (.cells #[.int .u8 ((sg u n).toNat : Int)] 5))
          have HNW := Lib.hid (news_at wr [sg u n])
          go_wp2_with (first
            | (at_builtin; refine wpList_append_own _ rfl _ _ 24 rfl w.heap.size 5 i0 (.int .u8 0) 1 1 Try.underlying24 HI0.out hz0 hz1 hz2 rfl (by decide) _ _ _ rfl HOA.out ⟨wr.heap.size, 0, none⟩ 1 1 (byteVals [sg u n]) rfl rfl HNW.out (news_one _) (by have := HRL.out; unfold maxLen; omega) (by have := HRL.out; omega) (by simp; omega) ?_))
          intro v' w' hown' hgrow hne
          have h1 : Owns w' w.heap.size v' ((rput l (j + 1)).map (sg u)) := Owns.of_append (xs := (rput l j).map (sg u)) (by rw [List.length_map]; exact hown') rfl HR.out.symm
          have h2 := HBR.out.trans (Below.of_append HBR.out.size HOW.out hgrow)
          have H1 := Lib.hid h1
          have H2 := Lib.hid h2
          clear hown' hgrow hne h1 h2
          go_wp2
          go_roundw
          case rel => exact ⟨j + 1, by have := HI6.out; congr 1; omega, by have := HI6.out; omega, H1.out, H2.out⟩
          case measure => simp [intOf]; omega
    · have hlt' : ¬ ((6 * j : Nat) : Int) < 8 * (l.length : Int) := by omega
      have HR := Lib.hid (show (rput l j).map (sg u) = put u l by
        rw [show j = (8 * l.length + 5) / 6 by omega, rput_en]; rfl)
      have hstr := HOW.out.toStr
      rw [HR.out] at hstr
      clear HAO
      go_wp2
      go_ret
      exact ⟨rfl, HBR.out⟩
end Go.Proofs.Ytnbonoallcjlbaa
