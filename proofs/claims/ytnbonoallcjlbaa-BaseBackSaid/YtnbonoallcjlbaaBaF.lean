/-
  What package b64 gets.
  Conditions: none.
-/
import Derived.Test.YtnbonoallcjlbaaBaE
namespace Go.Proofs.Ytnbonoallcjlbaa
open Go.RowKit

set_option maxRecDepth 100000 in
set_option maxHeartbeats 1000000 in
theorem indexByte0_any (s : ByteArray) (c : Int) (w : World) :
    Calls Try.prog 21 #[.string s, .int .u8 c] w fun e w' => e = .returned (.int .i64 (Lib.indexByte s.data.toList c.toNat.toUInt8)) ∧ w = w' := by
  go_enter Try.func21, Try.ntmps21
  go_wp2
  rw [run_callFunc_extern Try.func22 (by kernel_rfl) (by kernel_rfl) (by kernel_rfl) (e := Extern.BytealgIndexByte.indexByte) (by kernel_rfl), Lib.run_indexByteString]
  simp only [Result.andThen]
  rw [Oper.upon_value]
  go_wp2
  go_ret
  exact ⟨rfl, rfl⟩
set_option maxRecDepth 100000 in
set_option maxHeartbeats 1000000 in
theorem indexByte_any (s : ByteArray) (c : UInt8) (x : Int) (w : World) (z : Int) (hx : x = (c.toNat : Int)) (hz : Lib.indexByte s.data.toList c = z) :
    Calls Try.prog 18 #[.string s, .int .u8 x] w fun e w' => e = .returned (.int .i64 z) ∧ w = w' := by
  have H := Lib.hid (show Lib.indexByte s.data.toList x.toNat.toUInt8 = z by subst hx; rw [← hz]; congr 1; simp)
  clear hx hz
  go_enter Try.func18, Try.ntmps18
  go_wp2_with fail
  refine (indexByte0_any s x w).mono ?_
  rintro e w1 ⟨rfl, rfl⟩
  rw [H.out]
  go_wp2
  go_ret
  exact ⟨rfl, rfl⟩
theorem dz_0 (u : Bool) (v : Nat) (acc r : List UInt8) (c : UInt8) (h : ¬ ix u c < 0) : dz u 0 v acc (c :: r) = dz u 6 (ix u c).toNat acc r := by simp [dz, h]
theorem dz_6 (u : Bool) (v : Nat) (acc r : List UInt8) (c : UInt8) (h : ¬ ix u c < 0) : dz u 6 v acc (c :: r) = dz u 4 ((ix u c).toNat % 16) (acc ++ [UInt8.ofNat (v * 4 + (ix u c).toNat / 16)]) r := by simp [dz, h]
theorem dz_4 (u : Bool) (v : Nat) (acc r : List UInt8) (c : UInt8) (h : ¬ ix u c < 0) : dz u 4 v acc (c :: r) = dz u 2 ((ix u c).toNat % 4) (acc ++ [UInt8.ofNat (v * 16 + (ix u c).toNat / 4)]) r := by simp [dz, h]
theorem dz_2 (u : Bool) (v : Nat) (acc r : List UInt8) (c : UInt8) (h : ¬ ix u c < 0) : dz u 2 v acc (c :: r) = dz u 0 0 (acc ++ [UInt8.ofNat (v * 64 + (ix u c).toNat)]) r := by simp [dz, h]
theorem or6 (m x : Nat) (hx : x < 64) : bits .or .u32 ((m : Int) * 64 % 4294967296) (x : Int) = ((m * 64 % 4294967296 + x : Nat) : Int) := by
  rw [bits_join .u32 32 (by decide) wraps_u32 6 _ _ (by omega) (by omega) (by omega) (by omega) (by omega) (by omega)]
  omega
/-- What a call of Get leaves. -/
def GotR (B : Nat) (r : Option (List UInt8)) (w' : World) (e : Ending) : Prop := match r with
  | some x => ∃ v', e = .returned (.tuple #[v', .int .i64 0]) ∧ Owns w' B v' x
  | none => e = .returned (.tuple #[.slice none 0 0, .int .i64 2])
theorem GotR.yes {u : Bool} {B : Nat} {l x : List UInt8} {w' : World} {v' : Value} (h : dz u 0 0 [] l = some x) (hm : l.length % 4 ≠ 1) (ho : Owns w' B v' x) : GotR B (got u l) w' (.returned (.tuple #[v', .int .i64 0])) := by
  unfold got
  rw [if_neg hm, h]
  exact ⟨_, rfl, ho⟩
theorem GotR.no {u : Bool} {B : Nat} {l : List UInt8} {w' : World} (h : dz u 0 0 [] l = none) : GotR B (got u l) w' (.returned (.tuple #[.slice none 0 0, .int .i64 2])) := by
  unfold got
  rw [h, ite_self]
  exact rfl
set_option maxRecDepth 100000 in
set_option maxHeartbeats 4000000 in
theorem decoded_any (u : Bool) (a s : ByteArray) (w : World) (ha : a = ⟨(al u).toArray⟩) (hlen : s.size ≤ 100000) :
    Calls Try.prog 14 #[.string s, .string a] w fun e w' => Below w.heap.size w w' ∧ GotR w.heap.size (got u s.data.toList) w' e := by
  have hsl : s.data.toList.length = s.size := by simp
  have HSL := Lib.hid hsl
  have HA := Lib.hid ha
  obtain ⟨i0, hi, hz0, hz1, hz2⟩ := info_parts info_u8
  clear ha hsl
  by_cases h4 : s.size % 4 = 1
  · have h4' : ((s.size : Int) % 4 == 1) = true := by simp; omega
    have HG := Lib.hid (show got u s.data.toList = none by unfold got; rw [HSL.out, if_pos h4])
    clear h4
    go_enter Try.func14, Try.ntmps14
    go_wp2
    go_ret2
    rw [HG.out]
    exact ⟨Below.refl _ _, rfl⟩
  have h4' : ((s.size : Int) % 4 == 1) = false := by simp; omega
  have hmod4 : s.data.toList.length % 4 ≠ 1 := by rw [HSL.out]; exact h4
  clear h4
  go_enter Try.func14, Try.ntmps14
  go_wp2_with fail
  go_loopw [6, 7, 8, 17] (fun ov bv lv iv wr => ∃ (m lf k : Nat) (acc : List UInt8), bv = .int .u32 m ∧ lv = .int .i64 lf ∧ iv = .int .i64 k ∧ k ≤ s.size ∧ m < 4294967296 ∧ (lf = 0 ∨ lf = 2 ∨ lf = 4 ∨ lf = 6) ∧ Owns wr w.heap.size ov acc ∧ acc.length ≤ k ∧ Below w.heap.size w wr ∧ dz u lf (m % 2 ^ lf) acc (s.data.toList.drop k) = dz u 0 0 [] s.data.toList) (fun _ _ _ i _ => s.size - (intOf i).toNat)
  case atStart => exact ⟨0, 0, 0, [], rfl, rfl, rfl, Nat.zero_le _, by decide, .inl rfl, World.ownsRow_nil _ _ _ _, Nat.le_refl _, Below.refl _ _, rfl⟩
  case round =>
    obtain ⟨m, lf, k, acc, rfl, rfl, rfl, hk, hm, hlf, hown, hacc, hbr, hgo⟩ := hrel
    have HGO := Lib.hid hgo
    have HOW := Lib.hid hown
    have HBR := Lib.hid hbr
    clear hgo hbr
    by_cases hlt : k < s.size
    · have hlt' : (k : Int) < (s.size : Int) := by omega
      have hsz := HBR.out.size
      obtain ⟨c, hc⟩ : ∃ c, s[k] = c := ⟨_, rfl⟩
      have HDR := Lib.hid (show s.data.toList.drop k = c :: s.data.toList.drop (k + 1) by
        rw [List.drop_eq_getElem_cons (by rw [HSL.out]; exact hlt)]
        congr 1)
      have HC := Lib.hid hc
      clear hc
      have HIX := Lib.hid (fun W => indexByte_any a c (s[k].toNat : Int) W (ix u c) (by rw [HC.out]) (by rw [HA.out]; rfl))
      by_cases hz : ix u c < 0
      · have HR := Lib.hid (show dz u 0 0 [] s.data.toList = none by rw [← HGO.out, HDR.out, dz.eq_def]; simp [hz])
        generalize hixz : ix u c = z at hz HIX
        clear hixz hown
        go_wp2_with fail
        refine (HIX.out wr).mono ?_
        rintro e w1 ⟨rfl, rfl⟩
        go_wp2
        go_ret2
        exact ⟨HBR.out, GotR.no HR.out⟩
      · obtain ⟨n, hn, hixn⟩ : ∃ n : Nat, n < 64 ∧ ix u c = (n : Int) := ⟨(ix u c).toNat, by have := (ix_ok u c).2.1; omega, by omega⟩
        have hor := or6 m n hn
        obtain ⟨M, hM⟩ : ∃ M, m * 64 % 4294967296 + n = M := ⟨_, rfl⟩
        rw [hM] at hor
        have HM := Lib.hid (show m * 64 % 4294967296 + (ix u c).toNat = M by rw [hixn]; exact hM)
        have hM2 : M < 4294967296 := by omega
        have hacc' : acc.length ≤ k + 1 := by omega
        rw [hixn] at HIX
        have HIXN := Lib.hid hixn
        have HZ := Lib.hid hz
        clear hM hz hixn
        have hwn : IntKind.u32.wrap (n : Int) = (n : Int) := wraps_u32 _ (by omega) (by omega)
        go_wp2_with fail
        refine (HIX.out wr).mono ?_
        rintro e w1 ⟨rfl, rfl⟩
        clear HIX
        have hz := HZ.out
        have hix2 := (ix_ok u c).2.1
        rcases hlf with rfl | rfl | rfl | rfl
        · have HST := Lib.hid (show dz u 6 (M % 2 ^ 6) acc (s.data.toList.drop (k + 1)) = dz u 0 0 [] s.data.toList by
            rw [← HGO.out, HDR.out, dz_0 _ _ _ _ _ (by omega), show M % 2 ^ 6 = (ix u c).toNat by have := HM.out; omega])
          go_wp2
          go_roundw
          case rel => exact ⟨M, 6, k + 1, acc, rfl, rfl, rfl, by omega, hM2, by decide, HOW.out, hacc', HBR.out, HST.out⟩
          case measure => simp [intOf]; omega
        · have HY := Lib.hid (show UInt8.ofNat (m % 2 ^ 2 * 64 + (ix u c).toNat) = UInt8.ofNat (M % 256) by
            apply UInt8.toNat.inj
            simp only [UInt8.toNat_ofNat']
            have := HM.out
            omega)
          have HST := Lib.hid (show dz u 0 (M % 2 ^ 0) (acc ++ [UInt8.ofNat (M % 256)]) (s.data.toList.drop (k + 1)) = dz u 0 0 [] s.data.toList by
            rw [← HGO.out, HDR.out, dz_2 _ _ _ _ _ (by omega), ← HY.out, show M % 2 ^ 0 = 0 by have := HM.out; omega])
          have hyb : Value.int .u8 ((M : Int) % 256) = .int .u8 ((UInt8.ofNat (M % 256)).toNat : Int) := by
            congr 1
            simp only [UInt8.toNat_ofNat']
            omega
          have hnews := news_at wr [UInt8.ofNat (M % 256)]
          simp only [byteVals, List.map_cons, List.map_nil] at hnews
          rw [← hyb] at hnews
          have HNW := Lib.hid hnews
          have HYB := Lib.hid hyb
          have HOA := Lib.hid (hown.alloc (.cells #[.int .u8 ((M : Int) % 256)] 5))
          clear hnews hyb hown
          go_wp2_with (first
            | (at_builtin; refine wpList_append_own _ rfl _ _ 24 rfl w.heap.size 5 i0 (.int .u8 0) 1 1 Try.underlying24 hi hz0 hz1 hz2 rfl (by decide) _ _ _ rfl HOA.out ⟨wr.heap.size, 0, none⟩ 1 1 [.int .u8 ((M : Int) % 256)] rfl rfl HNW.out (by simp [Value.oneCell']) (by unfold maxLen; omega) (by omega) (by simp; omega) ?_))
          intro v' w' hown' hgrow hne
          have h1 : Owns w' w.heap.size v' (acc ++ [UInt8.ofNat (M % 256)]) := Owns.of_append (ys := [UInt8.ofNat (M % 256)]) (by rw [HYB.out] at hown'; exact hown') rfl rfl
          have h2 := HBR.out.trans (Below.of_append HBR.out.size HOW.out hgrow)
          have H1 := Lib.hid h1
          have H2 := Lib.hid h2
          clear hown' hgrow hne h1 h2
          go_wp2
          go_roundw
          case rel => exact ⟨M, 0, k + 1, _, rfl, rfl, rfl, by omega, hM2, by decide, H1.out, by simp; omega, H2.out, HST.out⟩
          case measure => simp [intOf]; omega
        · have HY := Lib.hid (show UInt8.ofNat (m % 2 ^ 4 * 16 + (ix u c).toNat / 4) = UInt8.ofNat (M / 4 % 256) by
            apply UInt8.toNat.inj
            simp only [UInt8.toNat_ofNat']
            have := HM.out
            omega)
          have HST := Lib.hid (show dz u 2 (M % 2 ^ 2) (acc ++ [UInt8.ofNat (M / 4 % 256)]) (s.data.toList.drop (k + 1)) = dz u 0 0 [] s.data.toList by
            rw [← HGO.out, HDR.out, dz_4 _ _ _ _ _ (by omega), ← HY.out, show M % 2 ^ 2 = (ix u c).toNat % 4 by have := HM.out; omega])
          have hyb : Value.int .u8 ((M : Int) / 4 % 256) = .int .u8 ((UInt8.ofNat (M / 4 % 256)).toNat : Int) := by
            congr 1
            simp only [UInt8.toNat_ofNat']
            omega
          have hnews := news_at wr [UInt8.ofNat (M / 4 % 256)]
          simp only [byteVals, List.map_cons, List.map_nil] at hnews
          rw [← hyb] at hnews
          have HNW := Lib.hid hnews
          have HYB := Lib.hid hyb
          have HOA := Lib.hid (hown.alloc (.cells #[.int .u8 ((M : Int) / 4 % 256)] 5))
          clear hnews hyb hown
          go_wp2_with (first
            | (at_builtin; refine wpList_append_own _ rfl _ _ 24 rfl w.heap.size 5 i0 (.int .u8 0) 1 1 Try.underlying24 hi hz0 hz1 hz2 rfl (by decide) _ _ _ rfl HOA.out ⟨wr.heap.size, 0, none⟩ 1 1 [.int .u8 ((M : Int) / 4 % 256)] rfl rfl HNW.out (by simp [Value.oneCell']) (by unfold maxLen; omega) (by omega) (by simp; omega) ?_))
          intro v' w' hown' hgrow hne
          have h1 : Owns w' w.heap.size v' (acc ++ [UInt8.ofNat (M / 4 % 256)]) := Owns.of_append (ys := [UInt8.ofNat (M / 4 % 256)]) (by rw [HYB.out] at hown'; exact hown') rfl rfl
          have h2 := HBR.out.trans (Below.of_append HBR.out.size HOW.out hgrow)
          have H1 := Lib.hid h1
          have H2 := Lib.hid h2
          clear hown' hgrow hne h1 h2
          go_wp2
          go_roundw
          case rel => exact ⟨M, 2, k + 1, _, rfl, rfl, rfl, by omega, hM2, by decide, H1.out, by simp; omega, H2.out, HST.out⟩
          case measure => simp [intOf]; omega
        · have HY := Lib.hid (show UInt8.ofNat (m % 2 ^ 6 * 4 + (ix u c).toNat / 16) = UInt8.ofNat (M / 16 % 256) by
            apply UInt8.toNat.inj
            simp only [UInt8.toNat_ofNat']
            have := HM.out
            omega)
          have HST := Lib.hid (show dz u 4 (M % 2 ^ 4) (acc ++ [UInt8.ofNat (M / 16 % 256)]) (s.data.toList.drop (k + 1)) = dz u 0 0 [] s.data.toList by
            rw [← HGO.out, HDR.out, dz_6 _ _ _ _ _ (by omega), ← HY.out, show M % 2 ^ 4 = (ix u c).toNat % 16 by have := HM.out; omega])
          have hyb : Value.int .u8 ((M : Int) / 16 % 256) = .int .u8 ((UInt8.ofNat (M / 16 % 256)).toNat : Int) := by
            congr 1
            simp only [UInt8.toNat_ofNat']
            omega
          have hnews := news_at wr [UInt8.ofNat (M / 16 % 256)]
          simp only [byteVals, List.map_cons, List.map_nil] at hnews
          rw [← hyb] at hnews
          have HNW := Lib.hid hnews
          have HYB := Lib.hid hyb
          have HOA := Lib.hid (hown.alloc (.cells #[.int .u8 ((M : Int) / 16 % 256)] 5))
          clear hnews hyb hown
          go_wp2_with (first
            | (at_builtin; refine wpList_append_own _ rfl _ _ 24 rfl w.heap.size 5 i0 (.int .u8 0) 1 1 Try.underlying24 hi hz0 hz1 hz2 rfl (by decide) _ _ _ rfl HOA.out ⟨wr.heap.size, 0, none⟩ 1 1 [.int .u8 ((M : Int) / 16 % 256)] rfl rfl HNW.out (by simp [Value.oneCell']) (by unfold maxLen; omega) (by omega) (by simp; omega) ?_))
          intro v' w' hown' hgrow hne
          have h1 : Owns w' w.heap.size v' (acc ++ [UInt8.ofNat (M / 16 % 256)]) := Owns.of_append (ys := [UInt8.ofNat (M / 16 % 256)]) (by rw [HYB.out] at hown'; exact hown') rfl rfl
          have h2 := HBR.out.trans (Below.of_append HBR.out.size HOW.out hgrow)
          have H1 := Lib.hid h1
          have H2 := Lib.hid h2
          clear hown' hgrow hne h1 h2
          go_wp2
          go_roundw
          case rel => exact ⟨M, 4, k + 1, _, rfl, rfl, rfl, by omega, hM2, by decide, H1.out, by simp; omega, H2.out, HST.out⟩
          case measure => simp [intOf]; omega
    · have hlt' : ¬ (k : Int) < (s.size : Int) := by omega
      have HD := Lib.hid (show s.data.toList.drop k = [] from List.drop_eq_nil_of_le (by rw [HSL.out]; omega))
      clear hown
      rcases hlf with rfl | rfl | rfl | rfl
      · have hand : bits .and .u32 (m : Int) 0 = (m : Int) % 1 := bits_mask .u32 32 (by decide) wraps_u32 0 (by decide) _ (by omega) (by omega)
        by_cases hz : m % 1 = 0
        · have hz' : (m : Int) % 1 = 0 := by omega
          rw [hz'] at hand
          have HR := Lib.hid (show dz u 0 0 [] s.data.toList = some acc by rw [← HGO.out, HD.out]; simp [dz]; exact hz)
          clear hz hz'
          go_wp2
          go_ret2
          exact ⟨HBR.out, GotR.yes (HR.out) hmod4 HOW.out⟩
        · omega
      · have hand : bits .and .u32 (m : Int) 3 = (m : Int) % 4 := bits_mask .u32 32 (by decide) wraps_u32 2 (by decide) _ (by omega) (by omega)
        by_cases hz : m % 4 = 0
        · have hz' : (m : Int) % 4 = 0 := by omega
          rw [hz'] at hand
          have HR := Lib.hid (show dz u 0 0 [] s.data.toList = some acc by rw [← HGO.out, HD.out]; simp [dz]; exact hz)
          clear hz hz'
          go_wp2
          go_ret2
          exact ⟨HBR.out, GotR.yes (HR.out) hmod4 HOW.out⟩
        · have hz' : ((m : Int) % 4 != 0) = true := by simp; omega
          have HR := Lib.hid (show dz u 0 0 [] s.data.toList = none by rw [← HGO.out, HD.out]; simp [dz]; exact hz)
          have HZ := Lib.hid hz
          clear hz
          go_wp2
          go_ret2
          exact ⟨HBR.out, GotR.no (HR.out)⟩
      · have hand : bits .and .u32 (m : Int) 15 = (m : Int) % 16 := bits_mask .u32 32 (by decide) wraps_u32 4 (by decide) _ (by omega) (by omega)
        by_cases hz : m % 16 = 0
        · have hz' : (m : Int) % 16 = 0 := by omega
          rw [hz'] at hand
          have HR := Lib.hid (show dz u 0 0 [] s.data.toList = some acc by rw [← HGO.out, HD.out]; simp [dz]; exact hz)
          clear hz hz'
          go_wp2
          go_ret2
          exact ⟨HBR.out, GotR.yes (HR.out) hmod4 HOW.out⟩
        · have hz' : ((m : Int) % 16 != 0) = true := by simp; omega
          have HR := Lib.hid (show dz u 0 0 [] s.data.toList = none by rw [← HGO.out, HD.out]; simp [dz]; exact hz)
          have HZ := Lib.hid hz
          clear hz
          go_wp2
          go_ret2
          exact ⟨HBR.out, GotR.no (HR.out)⟩
      · have hand : bits .and .u32 (m : Int) 63 = (m : Int) % 64 := bits_mask .u32 32 (by decide) wraps_u32 6 (by decide) _ (by omega) (by omega)
        by_cases hz : m % 64 = 0
        · have hz' : (m : Int) % 64 = 0 := by omega
          rw [hz'] at hand
          have HR := Lib.hid (show dz u 0 0 [] s.data.toList = some acc by rw [← HGO.out, HD.out]; simp [dz]; exact hz)
          clear hz hz'
          go_wp2
          go_ret2
          exact ⟨HBR.out, GotR.yes (HR.out) hmod4 HOW.out⟩
        · have hz' : ((m : Int) % 64 != 0) = true := by simp; omega
          have HR := Lib.hid (show dz u 0 0 [] s.data.toList = none by rw [← HGO.out, HD.out]; simp [dz]; exact hz)
          have HZ := Lib.hid hz
          clear hz
          go_wp2
          go_ret2
          exact ⟨HBR.out, GotR.no (HR.out)⟩

set_option maxRecDepth 100000 in
set_option maxHeartbeats 1000000 in
theorem get_std (s : ByteArray) (w : World) (hlen : s.size ≤ 100000) :
    Calls Try.prog 8 #[.string s] w fun e w' => Below w.heap.size w w' ∧ GotR w.heap.size (got false s.data.toList) w' e := by
  go_enter Try.func8, Try.ntmps8
  go_wp2_with fail
  refine (decoded_any false _ s w rfl hlen).mono ?_
  rintro e w1 ⟨hb, hr⟩
  cases hg : got false s.data.toList with
  | none =>
    rw [hg] at hr
    have hr' : e = _ := hr
    subst hr'
    have HG := Lib.hid hg
    clear hr hg
    go_wp2
    go_ret2
    rw [HG.out]
    exact ⟨hb, rfl⟩
  | some x =>
    rw [hg] at hr
    obtain ⟨v', rfl, ho⟩ := hr
    have HO := Lib.hid ho
    have HG := Lib.hid hg
    clear ho hg
    go_wp2
    go_ret2
    rw [HG.out]
    exact ⟨hb, v', rfl, HO.out⟩
set_option maxRecDepth 100000 in
set_option maxHeartbeats 1000000 in
theorem get_url (s : ByteArray) (w : World) (hlen : s.size ≤ 100000) :
    Calls Try.prog 9 #[.string s] w fun e w' => Below w.heap.size w w' ∧ GotR w.heap.size (got true s.data.toList) w' e := by
  go_enter Try.func9, Try.ntmps9
  go_wp2_with fail
  refine (decoded_any true _ s w rfl hlen).mono ?_
  rintro e w1 ⟨hb, hr⟩
  cases hg : got true s.data.toList with
  | none =>
    rw [hg] at hr
    have hr' : e = _ := hr
    subst hr'
    have HG := Lib.hid hg
    clear hr hg
    go_wp2
    go_ret2
    rw [HG.out]
    exact ⟨hb, rfl⟩
  | some x =>
    rw [hg] at hr
    obtain ⟨v', rfl, ho⟩ := hr
    have HO := Lib.hid ho
    have HG := Lib.hid hg
    clear ho hg
    go_wp2
    go_ret2
    rw [HG.out]
    exact ⟨hb, v', rfl, HO.out⟩
end Go.Proofs.Ytnbonoallcjlbaa
