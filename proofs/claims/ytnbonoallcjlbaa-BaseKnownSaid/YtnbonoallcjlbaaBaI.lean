/-
  What the document gets.
  Conditions: none.
-/
import Derived.Test.YtnbonoallcjlbaaBaH
import Derived.Laws.MakeOwn
namespace Go.Proofs.Ytnbonoallcjlbaa
open Go.RowKit

/-- Block g holds the bytes O, and nothing more. -/
def BR (w : World) (g : Nat) (O : List UInt8) : Prop := w.heap[g]? = some (.cells (byteVals O).toArray 5 (0, 0))
theorem made_zero (n : Nat) : madeCells (Value.int .u8 0).cells (n * 1) = (byteVals (List.replicate n 0)).toArray := by
  apply Array.ext
  · rw [size_madeCells]; simp [byteVals]
  · intro i h1 h2
    simp [madeCells, byteVals, Value.cells, Nat.mod_one]
theorem make_run (n : Nat) (x : Int) (hx : x = (n : Int)) (hn : n ≤ 1000000) (w : World) : (Instr.makeSlice 24 (.int .i64 x) (.int .i64 x)).run Try.prog w = .ok (.slice (some ⟨w.heap.size, 0, none⟩) n n) (w.alloc (.cells (byteVals (List.replicate n 0)).toArray 5)) := by
  subst hx
  obtain ⟨i0, hi, hz0, hz1, hz2⟩ := info_parts info_u8
  have := run_make (P := Try.prog) w 24 5 i0 _ Try.underlying24 hi hz0 .i64 .i64 (n : Int) (n : Int) (by omega) (Int.le_refl _) (by rw [hz2]; omega) (by omega)
  rw [hz1, Int.toNat_natCast, made_zero] at this
  exact this
theorem and_bit {n e r : Nat} (hn : n < 64) (h : n / 2 ^ e % 2 = r) : bits .and .i64 ((n : Int) / 2 ^ e) 1 = (r : Int) := by
  have h1 : (n : Int) / 2 ^ e = ((n / 2 ^ e : Nat) : Int) := by push_cast; rfl
  have h2 : n / 2 ^ e ≤ n := Nat.div_le_self _ _
  rw [h1]
  generalize n / 2 ^ e = z at *
  have h3 := bits_mask .i64 63 (by decide) wraps_i64 1 (by decide) (z : Int) (by omega) (by omega)
  rw [show ((1 : Int)) = 2 ^ 1 - 1 by decide, h3]
  omega
/-- A bit more. -/
def orB (y : UInt8) (p : Nat) : UInt8 := UInt8.ofNat (y.toNat ||| 2 ^ (7 - p))
theorem or_pow (y : UInt8) (p : Nat) (hp : p ≤ 7) : bits .or .u8 (y.toNat : Int) (2 ^ (7 - p) % 256) = ((orB y p).toNat : Int) := by
  have hy := y.toNat_lt
  have h1 : (2 : Nat) ^ (7 - p) < 256 := Nat.lt_of_le_of_lt (Nat.pow_le_pow_right (by decide) (show 7 - p ≤ 7 by omega)) (by decide)
  have h2 : ((2 : Int) ^ (7 - p)) = ((2 ^ (7 - p) : Nat) : Int) := by push_cast; rfl
  have h3 : y.toNat ||| 2 ^ (7 - p) < 2 ^ 8 := Nat.or_lt_two_pow hy h1
  unfold orB
  rw [h2, UInt8.toNat_ofNat']
  generalize (2 : Nat) ^ (7 - p) = z at *
  rw [show ((z : Int) % 256) = (z : Int) by omega, u8_or_nat _ _ hy h1]
  omega
theorem BR.set {w : World} {g q : Nat} {O : List UInt8} (h : BR w g O) (z : UInt8) : BR (w.setCell ⟨g, q, none⟩ (.int .u8 (z.toNat : Int))).drew g (O.set q z) := by
  show (w.setCell ⟨g, q, none⟩ _).heap[g]? = _
  rw [setCell_cells _ h]
  congr 2
  apply Array.ext'
  simp [byteVals, List.map_set]
theorem BR.cells {w : World} {g q : Nat} {O : List UInt8} (h : BR w g O) (hq : q < O.length) : w.cell? ⟨g, q, none⟩ = some (.int .u8 ((O.getD q 0).toNat : Int)) ∧ w.frozen? ⟨g, q, none⟩ = false := by
  have h' : w.heap[g]? = _ := h
  refine ⟨?_, ?_⟩
  · simp only [World.cell?, h']
    simp [byteVals, List.getD_eq_getElem?_getD, List.getElem?_map, List.getElem?_eq_getElem hq]
  · simp [World.frozen?, h']
theorem BR.owns {w : World} {g B : Nat} {O : List UInt8} {n : Nat} (h : BR w g O) (hB : B ≤ g) (hn : O.length = n) (hm : n ≤ 1000000) : Owns w B (.slice (some ⟨g, 0, none⟩) n n) O := by
  subst hn
  refine ⟨by simp [byteVals], .inr ⟨g, O.length, (byteVals O).toArray, rfl, hB, h, Nat.le_refl _, by unfold maxLen; omega, by simp [byteVals], ?_⟩⟩
  rw [List.take_of_length_le (by simp [byteVals])]
theorem got_none {u : Bool} {s : ByteArray} {N B : Nat} {w' : World} (hN : 6 * s.size / 8 = N) (h : rg u (List.replicate N 0) 0 s.data.toList = none) : GotR B (got u s.data.toList) w' (.returned (.tuple #[.slice none 0 0, .int .i64 2])) := by
  rw [← rg_got, show s.data.toList.length = s.size by simp, hN, h, ite_self]
  exact rfl
theorem got_len {u : Bool} {s : ByteArray} {B : Nat} {w' : World} (h : s.size % 4 = 1) : GotR B (got u s.data.toList) w' (.returned (.tuple #[.slice none 0 0, .int .i64 2])) := by
  unfold got
  rw [show s.data.toList.length = s.size by simp, if_pos h]
  exact rfl
theorem got_some {u : Bool} {s : ByteArray} {N B : Nat} {w' : World} {v : Value} {O : List UInt8} (hN : 6 * s.size / 8 = N) (h : rg u (List.replicate N 0) 0 s.data.toList = some O) (h4 : ¬ s.size % 4 = 1) (ho : Owns w' B v O) : GotR B (got u s.data.toList) w' (.returned (.tuple #[v, .int .i64 0])) := by
  rw [← rg_got, show s.data.toList.length = s.size by simp, hN, h, if_neg h4]
  exact ⟨_, rfl, ho⟩
set_option maxRecDepth 100000 in
set_option maxHeartbeats 4000000 in
theorem get64_any (u : Bool) (s : ByteArray) (w : World) (hlen : s.size ≤ 100000) :
    Calls Try.prog 11 #[.string s, .bool u] w fun e w' => Below w.heap.size w w' ∧ GotR w.heap.size (got u s.data.toList) w' e := by
  obtain ⟨N, hN⟩ : ∃ N, 6 * s.size / 8 = N := ⟨_, rfl⟩
  have HN := Lib.hid hN
  have hmk := make_run N (6 * (s.size : Int) / 8) (by omega) (by omega)
  clear hN
  go_enter Try.func11, Try.ntmps11
  go_wp2_with fail
  clear hmk
  generalize hW1 : w.alloc _ = W1
  have hb1 : Below w.heap.size w W1 := by subst hW1; exact (Below.refl _ w).alloc (Nat.le_refl _) _
  have hblk : BR W1 w.heap.size (List.replicate N 0) := by subst hW1; show (w.heap.push _)[w.heap.size]? = _; simp
  clear hW1
  have HB1 := Lib.hid hb1
  have HBLK := Lib.hid hblk
  clear hb1 hblk
  obtain ⟨g, hg⟩ : ∃ g, w.heap.size = g := ⟨_, rfl⟩
  rw [hg] at HB1 HBLK ⊢
  have HG := Lib.hid hg
  clear hg
  go_loopw [7] (fun iv wr => ∃ (k : Nat) (O : List UInt8), iv = .int .i64 k ∧ k ≤ s.size ∧ O.length = N ∧ BR wr g O ∧ Below g w wr ∧ rg u O (6 * k) (s.data.toList.drop k) = rg u (List.replicate N 0) 0 s.data.toList) (fun i _ => s.size - (intOf i).toNat)
  case atStart => exact ⟨0, _, rfl, Nat.zero_le _, by simp, HBLK.out, HB1.out, rfl⟩
  case round =>
    obtain ⟨k, O, rfl, hk, hO, hbr, hbel, hgo⟩ := hrel
    have HO := Lib.hid hO
    have HBR := Lib.hid hbr
    have HBEL := Lib.hid hbel
    have HGO := Lib.hid hgo
    clear hO hbr hbel hgo HBLK
    by_cases hlt : k < s.size
    · have hlt' : (k : Int) < (s.size : Int) := by omega
      obtain ⟨c, hc⟩ : ∃ c, s[k] = c := ⟨_, rfl⟩
      have HDR := Lib.hid (show s.data.toList.drop k = c :: s.data.toList.drop (k + 1) by
        rw [List.drop_eq_getElem_cons (by simpa using hlt)]
        congr 1)
      have HC := Lib.hid hc
      clear hc
      have HIX := Lib.hid (fun W => six_any u c (s[k].toNat : Int) W (by rw [HC.out]))
      by_cases hz : ix u c < 0
      · have HRG := Lib.hid (show rg u (List.replicate N 0) 0 s.data.toList = none by
          rw [← HGO.out, HDR.out, rg, if_pos hz])
        generalize hixz : ix u c = z at hz HIX
        clear hixz
        go_wp2_with fail
        refine (HIX.out wr).mono ?_
        rintro e w1 ⟨rfl, rfl⟩
        go_wp2
        go_ret2
        exact ⟨HG.out ▸ HBEL.out, got_none HN.out HRG.out⟩
      · obtain ⟨n, hn, hixn⟩ : ∃ n : Nat, n < 64 ∧ ix u c = (n : Int) := ⟨(ix u c).toNat, by have := (ix_ok u c).2.1; omega, by omega⟩
        rw [hixn] at HIX
        have HIXN := Lib.hid hixn
        clear hixn hz
        go_wp2_with fail
        refine (HIX.out wr).mono ?_
        rintro e w1 ⟨rfl, rfl⟩
        go_wp2_with fail
        go_loopw [9] (fun tv wq => ∃ (t : Nat) (O' : List UInt8), tv = .int .i64 t ∧ t ≤ 6 ∧ O'.length = N ∧ BR wq g O' ∧ Below g w wq ∧ rb O' (6 * k + t) n (6 - t) = rb O (6 * k) n 6) (fun t _ => 6 - (intOf t).toNat)
        case atStart => exact ⟨0, _, rfl, Nat.zero_le _, HO.out, HBR.out, HBEL.out, rfl⟩
        case round =>
          obtain ⟨t, O', rfl, ht, hO', hbr', hbel', hgo'⟩ := hrel
          have HO' := Lib.hid hO'
          have HBR' := Lib.hid hbr'
          have HBEL' := Lib.hid hbel'
          have HGO' := Lib.hid hgo'
          clear hO' hbr' hbel' hgo'
          by_cases ht6 : t < 6
          · have ht6' : (t : Int) < 6 := by omega
            have hs0 : 0 ≤ 5 - (t : Int) := by omega
            by_cases hbit : n / 2 ^ (5 - t) % 2 = 0
            · have hand : bits .and .i64 ((n : Int) / 2 ^ (5 - t)) 1 = 0 := and_bit (r := 0) hn hbit
              have HS := Lib.hid (show rb O' (6 * k + (t + 1)) n (6 - (t + 1)) = rb O (6 * k) n 6 by
                rw [← HGO'.out, show 6 - t = (5 - t) + 1 by omega, rb, if_pos hbit, show 6 - (t + 1) = 5 - t by omega]; rfl)
              clear hbit
              go_wp2
              go_roundw
              case rel => exact ⟨t + 1, O', rfl, ht6, HO'.out, HBR'.out, HBEL'.out, HS.out⟩
              case measure => simp [intOf]; omega
            · have hand : bits .and .i64 ((n : Int) / 2 ^ (5 - t)) 1 = 1 := and_bit (r := 1) hn (by omega)
              obtain ⟨q, hq⟩ : ∃ q, (6 * k + t) / 8 = q := ⟨_, rfl⟩
              obtain ⟨p, hp⟩ : ∃ p, (6 * k + t) % 8 = p := ⟨_, rfl⟩
              have hq' : (6 * (k : Int) + (t : Int)) / 8 = (q : Int) := by omega
              have hp' : (6 * (k : Int) + (t : Int)) % 8 = (p : Int) := by omega
              have HBIT := Lib.hid hbit
              have HQ := Lib.hid hq
              have HP := Lib.hid hp
              have hp7 : p ≤ 7 := by omega
              have hp0 : 0 ≤ 7 - (p : Int) := by omega
              clear hbit hq hp
              by_cases hqN : N ≤ q
              · have hqN' : (N : Int) ≤ (q : Int) := by omega
                have HR := Lib.hid (show rb O (6 * k) n 6 = none by
                  rw [← HGO'.out, show 6 - t = (5 - t) + 1 by omega, rb, if_neg HBIT.out, HQ.out, HO'.out, if_pos hqN])
                have HRG := Lib.hid (show rg u (List.replicate N 0) 0 s.data.toList = none by
                  rw [← HGO.out, HDR.out, rg, if_neg (by rw [HIXN.out]; omega), HIXN.out, Int.toNat_natCast, HR.out])
                go_wp2
                go_ret2
                exact ⟨HG.out ▸ HBEL'.out, got_none HN.out HRG.out⟩
              · have hqN' : ¬ (N : Int) ≤ (q : Int) := by omega
                have hqN2 : (q : Int) < (N : Int) := by omega
                obtain ⟨y, hy⟩ : ∃ y, O'.getD q 0 = y := ⟨_, rfl⟩
                obtain ⟨hce, hfr⟩ := HBR'.out.cells (q := q) (by rw [HO'.out]; omega)
                rw [hy] at hce
                have HY := Lib.hid hy
                have HS := Lib.hid (show rb (O'.set q (orB y p)) (6 * k + (t + 1)) n (6 - (t + 1)) = rb O (6 * k) n 6 by
                  rw [← HGO'.out, show 6 - t = (5 - t) + 1 by omega, rb, if_neg HBIT.out, HQ.out, HO'.out, if_neg hqN, HP.out, HY.out, show 6 - (t + 1) = 5 - t by omega]; rfl)
                clear hy
                have hor := or_pow y p hp7
                go_wp2_with fail
                go_region
                all_goals
                  go_wp2
                  go_roundw
                  case rel => exact ⟨t + 1, _, rfl, ht6, by rw [List.length_set]; exact HO'.out, HBR'.out.set _, (HBEL'.out.setCell (p := ⟨g, q, none⟩) (Nat.le_refl _) _).drew, HS.out⟩
                  case measure => simp [intOf]; omega
          · have ht6' : ¬ (t : Int) < 6 := by omega
            have HR := Lib.hid (show rb O (6 * k) n 6 = some O' by
              rw [← HGO'.out, show 6 - t = 0 by omega]; rfl)
            have HS := Lib.hid (show rg u O' (6 * (k + 1)) (s.data.toList.drop (k + 1)) = rg u (List.replicate N 0) 0 s.data.toList by
              rw [← HGO.out, HDR.out, rg, if_neg (by rw [HIXN.out]; omega), HIXN.out, Int.toNat_natCast, HR.out]; rfl)
            go_wp2
            go_roundw
            case rel => exact ⟨k + 1, O', rfl, hlt, HO'.out, HBR'.out, HBEL'.out, HS.out⟩
            case measure => simp [intOf]; omega
    · have hlt' : ¬ (k : Int) < (s.size : Int) := by omega
      have HRG := Lib.hid (show rg u (List.replicate N 0) 0 s.data.toList = some O by
        rw [← HGO.out, List.drop_eq_nil_of_le (by simpa using Nat.le_of_not_lt hlt)]; rfl)
      by_cases h4 : s.size % 4 = 1
      · have h4' : ((s.size : Int) % 4 == 1) = true := by simp; omega
        have H4 := Lib.hid h4
        clear h4
        go_wp2
        go_ret2
        exact ⟨HG.out ▸ HBEL.out, got_len H4.out⟩
      · have h4' : ((s.size : Int) % 4 == 1) = false := by simp; omega
        have H4 := Lib.hid h4
        clear h4
        go_wp2
        go_ret2
        exact ⟨HG.out ▸ HBEL.out, got_some HN.out HRG.out H4.out (HBR.out.owns (by rw [HG.out]; exact Nat.le_refl _) HO.out (by have := HN.out; omega))⟩
end Go.Proofs.Ytnbonoallcjlbaa
