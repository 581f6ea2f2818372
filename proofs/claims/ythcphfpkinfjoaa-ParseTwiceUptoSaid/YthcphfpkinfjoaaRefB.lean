/-
  What Quote of the document's own answers (package introitref1) answers: as Quote of package utf.
  Conditions: the string is short enough that its quote fits Go's own bound on a slice of bytes.
-/
import Derived.Test.YthcphfpkinfjoaaRefA
namespace Go.Proofs.Ythcphfpkinfjoaa
open Go.RowKit

def RQRel (s : ByteArray) (w : World) (k : Nat) (o : Value) (wr : World) : Prop :=
  k ≤ s.size ∧ w.heap.size ≤ wr.heap.size ∧ Below w.heap.size w wr ∧ ∃ xs, Owns wr w.heap.size o xs ∧ xs ++ (s.data.toList.drop k).flatMap uEnc = 34 :: s.data.toList.flatMap uEnc ∧ xs.length ≤ 1 + 6 * k

theorem rq_step {s : ByteArray} {w wr w' : World} {k : Nat} {v' : Value} {xs : List UInt8} (hlt : k < s.size) (hb : Below w.heap.size w wr) (hcat : xs ++ (s.data.toList.drop k).flatMap uEnc = 34 :: s.data.toList.flatMap uEnc) (hlen : xs.length ≤ 1 + 6 * k)
    (h1 : Owns w' w.heap.size v' (xs ++ uEnc s[k])) (h2 : Below w.heap.size wr w') : RQRel s w (k + 1) v' w' := by
  have hl := uEnc_len s[k]
  refine ⟨hlt, Nat.le_trans hb.size h2.size, hb.trans h2, xs ++ uEnc s[k], h1, ?_, ?_⟩
  · rw [← hcat, drop_at s k hlt, List.flatMap_cons, List.append_assoc]
  · rw [List.length_append]; omega

set_option maxRecDepth 100000 in
set_option maxHeartbeats 4000000 in
theorem refQuote_yes (s : ByteArray) (w : World) (hs : 6 * s.size + 8 ≤ 140737488355328) (h : (uRunes s.data.toList).isSome = true) :
    Calls Try.prog 31 #[.string s] w (Quoted s w) := by
  have hs' : s.size ≤ maxLen := by unfold maxLen; omega
  obtain ⟨i0, hi, hz0, hz1, hz2⟩ := info_parts info_u8
  have HV := Lib.hid h
  clear h
  have hnil : Owns w w.heap.size (.slice none 0 0) [] := ⟨rfl, Or.inl ⟨rfl, rfl⟩⟩
  go_enter Try.func31, Try.ntmps31
  go_wp2_with fail
  refine (refGood_any s _ true hs' HV.out).mono ?_
  rintro e w1 ⟨rfl, rfl⟩
  clear HV
  go_wp2_with (first
    | (at_builtin; refine wpList_append_own _ rfl (.tmp 10) (.tmp 11) 89 rfl w.heap.size 5 i0 (.int .u8 0) 1 1 Try.underlying89 hi hz0 hz1 hz2 rfl (by decide) _ _ _ rfl (hnil.alloc _) ⟨w.heap.size, 0, none⟩ 1 1 (byteVals [34]) rfl rfl (news_at w [34]) (news_one [34]) (by decide) (by decide) (by simp) ?_))
  intro v0 w0 hown0 hgrow0 hne0
  have R0 : RQRel s w 0 v0 w0 := by
    have h2 := Below.of_append (Nat.le_refl _) hnil hgrow0
    exact ⟨Nat.zero_le _, h2.size, h2, [34], Owns.of_append (xs := []) (ys := [34]) hown0 rfl rfl, by rw [List.drop_zero]; rfl, by simp⟩
  clear hown0 hgrow0 hne0
  go_wp2_with fail
  go_loopw [4, 5] (fun o i wr => ∃ k : Nat, i = .int .i64 k ∧ RQRel s w k o wr) (fun _ i _ => s.size - (intOf i).toNat)
  case atStart => exact ⟨0, rfl, R0⟩
  case round =>
    clear R0
    obtain ⟨k, rfl, hk, hz, hbel, xs, hown, hcat, hlen⟩ := hrel
    have HC := Lib.hid hcat
    clear hcat
    by_cases hlt : k < s.size
    · have hlt' : (k : Int) < (s.size : Int) := by omega
      by_cases hc34 : s[k].toNat = 34
      · have e34 : ((s[k].toNat : Int) == 34) = true := by simp; omega
        have e92 : ((s[k].toNat : Int) == 92) = false := by simp; omega
        have e8 : ((s[k].toNat : Int) == 8) = false := by simp; omega
        have e9 : ((s[k].toNat : Int) == 9) = false := by simp; omega
        have e10 : ((s[k].toNat : Int) == 10) = false := by simp; omega
        have e12 : ((s[k].toNat : Int) == 12) = false := by simp; omega
        have e13 : ((s[k].toNat : Int) == 13) = false := by simp; omega
        have HE := Lib.hid (show uEnc s[k] = [92, s[k]] by simp [uEnc, hc34])
        clear hc34
        go_wp2_with (first
          | (at_builtin; refine wpList_append_own _ rfl _ _ 89 rfl w.heap.size 5 i0 (.int .u8 0) 1 1 Try.underlying89 hi hz0 hz1 hz2 rfl (by decide) _ _ _ rfl (hown.alloc _) ⟨wr.heap.size, 0, none⟩ 2 2 (byteVals [92, s[k]]) rfl rfl (news_at wr [92, s[k]]) (news_one [92, s[k]]) (by unfold maxLen; omega) (by omega) (by simp; omega) ?_))
        intro v' w' hown' hgrow hne
        have R := rq_step hlt hbel HC.out hlen (Owns.of_append hown' rfl (show xs ++ uEnc s[k] = _ by rw [HE.out])) (Below.of_append hz hown hgrow)
        clear hown' hgrow hne
        go_wp2
        go_roundw
        case rel => exact ⟨k + 1, by go_num, R⟩
        case measure => simp [intOf]; omega
      by_cases hc92 : s[k].toNat = 92
      · have e34 : ((s[k].toNat : Int) == 34) = false := by simp; omega
        have e92 : ((s[k].toNat : Int) == 92) = true := by simp; omega
        have e8 : ((s[k].toNat : Int) == 8) = false := by simp; omega
        have e9 : ((s[k].toNat : Int) == 9) = false := by simp; omega
        have e10 : ((s[k].toNat : Int) == 10) = false := by simp; omega
        have e12 : ((s[k].toNat : Int) == 12) = false := by simp; omega
        have e13 : ((s[k].toNat : Int) == 13) = false := by simp; omega
        have HE := Lib.hid (show uEnc s[k] = [92, s[k]] by simp [uEnc, hc92])
        clear hc34 hc92
        go_wp2_with (first
          | (at_builtin; refine wpList_append_own _ rfl _ _ 89 rfl w.heap.size 5 i0 (.int .u8 0) 1 1 Try.underlying89 hi hz0 hz1 hz2 rfl (by decide) _ _ _ rfl (hown.alloc _) ⟨wr.heap.size, 0, none⟩ 2 2 (byteVals [92, s[k]]) rfl rfl (news_at wr [92, s[k]]) (news_one [92, s[k]]) (by unfold maxLen; omega) (by omega) (by simp; omega) ?_))
        intro v' w' hown' hgrow hne
        have R := rq_step hlt hbel HC.out hlen (Owns.of_append hown' rfl (show xs ++ uEnc s[k] = _ by rw [HE.out])) (Below.of_append hz hown hgrow)
        clear hown' hgrow hne
        go_wp2
        go_roundw
        case rel => exact ⟨k + 1, by go_num, R⟩
        case measure => simp [intOf]; omega
      by_cases hc8 : s[k].toNat = 8
      · have e34 : ((s[k].toNat : Int) == 34) = false := by simp; omega
        have e92 : ((s[k].toNat : Int) == 92) = false := by simp; omega
        have e8 : ((s[k].toNat : Int) == 8) = true := by simp; omega
        have e9 : ((s[k].toNat : Int) == 9) = false := by simp; omega
        have e10 : ((s[k].toNat : Int) == 10) = false := by simp; omega
        have e12 : ((s[k].toNat : Int) == 12) = false := by simp; omega
        have e13 : ((s[k].toNat : Int) == 13) = false := by simp; omega
        have HE := Lib.hid (show uEnc s[k] = [92, 98] by simp [uEnc, hc8])
        clear hc34 hc92 hc8
        go_wp2_with (first
          | (at_builtin; refine wpList_append_own _ rfl _ _ 89 rfl w.heap.size 5 i0 (.int .u8 0) 1 1 Try.underlying89 hi hz0 hz1 hz2 rfl (by decide) _ _ _ rfl (hown.alloc _) ⟨wr.heap.size, 0, none⟩ 2 2 (byteVals [92, 98]) rfl rfl (news_at wr [92, 98]) (news_one [92, 98]) (by unfold maxLen; omega) (by omega) (by simp; omega) ?_))
        intro v' w' hown' hgrow hne
        have R := rq_step hlt hbel HC.out hlen (Owns.of_append hown' rfl (show xs ++ uEnc s[k] = _ by rw [HE.out])) (Below.of_append hz hown hgrow)
        clear hown' hgrow hne
        go_wp2
        go_roundw
        case rel => exact ⟨k + 1, by go_num, R⟩
        case measure => simp [intOf]; omega
      by_cases hc9 : s[k].toNat = 9
      · have e34 : ((s[k].toNat : Int) == 34) = false := by simp; omega
        have e92 : ((s[k].toNat : Int) == 92) = false := by simp; omega
        have e8 : ((s[k].toNat : Int) == 8) = false := by simp; omega
        have e9 : ((s[k].toNat : Int) == 9) = true := by simp; omega
        have e10 : ((s[k].toNat : Int) == 10) = false := by simp; omega
        have e12 : ((s[k].toNat : Int) == 12) = false := by simp; omega
        have e13 : ((s[k].toNat : Int) == 13) = false := by simp; omega
        have HE := Lib.hid (show uEnc s[k] = [92, 116] by simp [uEnc, hc9])
        clear hc34 hc92 hc8 hc9
        go_wp2_with (first
          | (at_builtin; refine wpList_append_own _ rfl _ _ 89 rfl w.heap.size 5 i0 (.int .u8 0) 1 1 Try.underlying89 hi hz0 hz1 hz2 rfl (by decide) _ _ _ rfl (hown.alloc _) ⟨wr.heap.size, 0, none⟩ 2 2 (byteVals [92, 116]) rfl rfl (news_at wr [92, 116]) (news_one [92, 116]) (by unfold maxLen; omega) (by omega) (by simp; omega) ?_))
        intro v' w' hown' hgrow hne
        have R := rq_step hlt hbel HC.out hlen (Owns.of_append hown' rfl (show xs ++ uEnc s[k] = _ by rw [HE.out])) (Below.of_append hz hown hgrow)
        clear hown' hgrow hne
        go_wp2
        go_roundw
        case rel => exact ⟨k + 1, by go_num, R⟩
        case measure => simp [intOf]; omega
      by_cases hc10 : s[k].toNat = 10
      · have e34 : ((s[k].toNat : Int) == 34) = false := by simp; omega
        have e92 : ((s[k].toNat : Int) == 92) = false := by simp; omega
        have e8 : ((s[k].toNat : Int) == 8) = false := by simp; omega
        have e9 : ((s[k].toNat : Int) == 9) = false := by simp; omega
        have e10 : ((s[k].toNat : Int) == 10) = true := by simp; omega
        have e12 : ((s[k].toNat : Int) == 12) = false := by simp; omega
        have e13 : ((s[k].toNat : Int) == 13) = false := by simp; omega
        have HE := Lib.hid (show uEnc s[k] = [92, 110] by simp [uEnc, hc10])
        clear hc34 hc92 hc8 hc9 hc10
        go_wp2_with (first
          | (at_builtin; refine wpList_append_own _ rfl _ _ 89 rfl w.heap.size 5 i0 (.int .u8 0) 1 1 Try.underlying89 hi hz0 hz1 hz2 rfl (by decide) _ _ _ rfl (hown.alloc _) ⟨wr.heap.size, 0, none⟩ 2 2 (byteVals [92, 110]) rfl rfl (news_at wr [92, 110]) (news_one [92, 110]) (by unfold maxLen; omega) (by omega) (by simp; omega) ?_))
        intro v' w' hown' hgrow hne
        have R := rq_step hlt hbel HC.out hlen (Owns.of_append hown' rfl (show xs ++ uEnc s[k] = _ by rw [HE.out])) (Below.of_append hz hown hgrow)
        clear hown' hgrow hne
        go_wp2
        go_roundw
        case rel => exact ⟨k + 1, by go_num, R⟩
        case measure => simp [intOf]; omega
      by_cases hc12 : s[k].toNat = 12
      · have e34 : ((s[k].toNat : Int) == 34) = false := by simp; omega
        have e92 : ((s[k].toNat : Int) == 92) = false := by simp; omega
        have e8 : ((s[k].toNat : Int) == 8) = false := by simp; omega
        have e9 : ((s[k].toNat : Int) == 9) = false := by simp; omega
        have e10 : ((s[k].toNat : Int) == 10) = false := by simp; omega
        have e12 : ((s[k].toNat : Int) == 12) = true := by simp; omega
        have e13 : ((s[k].toNat : Int) == 13) = false := by simp; omega
        have HE := Lib.hid (show uEnc s[k] = [92, 102] by simp [uEnc, hc12])
        clear hc34 hc92 hc8 hc9 hc10 hc12
        go_wp2_with (first
          | (at_builtin; refine wpList_append_own _ rfl _ _ 89 rfl w.heap.size 5 i0 (.int .u8 0) 1 1 Try.underlying89 hi hz0 hz1 hz2 rfl (by decide) _ _ _ rfl (hown.alloc _) ⟨wr.heap.size, 0, none⟩ 2 2 (byteVals [92, 102]) rfl rfl (news_at wr [92, 102]) (news_one [92, 102]) (by unfold maxLen; omega) (by omega) (by simp; omega) ?_))
        intro v' w' hown' hgrow hne
        have R := rq_step hlt hbel HC.out hlen (Owns.of_append hown' rfl (show xs ++ uEnc s[k] = _ by rw [HE.out])) (Below.of_append hz hown hgrow)
        clear hown' hgrow hne
        go_wp2
        go_roundw
        case rel => exact ⟨k + 1, by go_num, R⟩
        case measure => simp [intOf]; omega
      by_cases hc13 : s[k].toNat = 13
      · have e34 : ((s[k].toNat : Int) == 34) = false := by simp; omega
        have e92 : ((s[k].toNat : Int) == 92) = false := by simp; omega
        have e8 : ((s[k].toNat : Int) == 8) = false := by simp; omega
        have e9 : ((s[k].toNat : Int) == 9) = false := by simp; omega
        have e10 : ((s[k].toNat : Int) == 10) = false := by simp; omega
        have e12 : ((s[k].toNat : Int) == 12) = false := by simp; omega
        have e13 : ((s[k].toNat : Int) == 13) = true := by simp; omega
        have HE := Lib.hid (show uEnc s[k] = [92, 114] by simp [uEnc, hc13])
        clear hc34 hc92 hc8 hc9 hc10 hc12 hc13
        go_wp2_with (first
          | (at_builtin; refine wpList_append_own _ rfl _ _ 89 rfl w.heap.size 5 i0 (.int .u8 0) 1 1 Try.underlying89 hi hz0 hz1 hz2 rfl (by decide) _ _ _ rfl (hown.alloc _) ⟨wr.heap.size, 0, none⟩ 2 2 (byteVals [92, 114]) rfl rfl (news_at wr [92, 114]) (news_one [92, 114]) (by unfold maxLen; omega) (by omega) (by simp; omega) ?_))
        intro v' w' hown' hgrow hne
        have R := rq_step hlt hbel HC.out hlen (Owns.of_append hown' rfl (show xs ++ uEnc s[k] = _ by rw [HE.out])) (Below.of_append hz hown hgrow)
        clear hown' hgrow hne
        go_wp2
        go_roundw
        case rel => exact ⟨k + 1, by go_num, R⟩
        case measure => simp [intOf]; omega
      by_cases hc32 : s[k].toNat < 32
      · have e34 : ((s[k].toNat : Int) == 34) = false := by simp; omega
        have e92 : ((s[k].toNat : Int) == 92) = false := by simp; omega
        have e8 : ((s[k].toNat : Int) == 8) = false := by simp; omega
        have e9 : ((s[k].toNat : Int) == 9) = false := by simp; omega
        have e10 : ((s[k].toNat : Int) == 10) = false := by simp; omega
        have e12 : ((s[k].toNat : Int) == 12) = false := by simp; omega
        have e13 : ((s[k].toNat : Int) == 13) = false := by simp; omega
        have HE := Lib.hid (show uEnc s[k] = [92, 117, 48, 48, uHex (s[k].toNat / 16), uHex (s[k].toNat % 16)] by simp [uEnc, hc34, hc92, hc8, hc9, hc10, hc12, hc13, hc32])
        have hc' : (s[k].toNat : Int) < 32 := by omega
        have hbits : bits .and .u8 (s[k].toNat : Int) 15 = (s[k].toNat : Int) % 16 := u8_and15 _ (by omega) (by omega)
        have g1 : 0 ≤ (s[k].toNat : Int) / 16 := by omega
        have g2 : (s[k].toNat : Int) / 16 < 16 := by omega
        have g3 : 0 ≤ (s[k].toNat : Int) % 16 := by omega
        have g4 : (s[k].toNat : Int) % 16 < 16 := by omega
        have hk1 : ((s[k].toNat : Int) / 16).toNat < hexD.size := by show _ < 16; omega
        have hk2 : ((s[k].toNat : Int) % 16).toNat < hexD.size := by show _ < 16; omega
        clear hc34 hc92 hc8 hc9 hc10 hc12 hc13
        go_wp2_with fail
        go_region_law ((refine step_append_lies _ (by rfl) _ _ _ (by rfl) w.heap.size 5 i0 _ 1 1 Try.underlying89 hi hz0 hz1 hz2 rfl (by decide) _ xs.length (byteVals xs) (by rfl) (by exact ((hown.alloc _).drew)) ⟨wr.heap.size, 0, none⟩ 6 6 (byteVals [92, 117, 48, 48, hexD[((s[k].toNat : Int) / 16).toNat]'hk1, hexD[((s[k].toNat : Int) % 16).toNat]'hk2]) (by rfl) (by rfl) (by exact news_at wr [92, 117, 48, 48, hexD[((s[k].toNat : Int) / 16).toNat]'hk1, hexD[((s[k].toNat : Int) % 16).toNat]'hk2]) (news_one _) (by decide) (by unfold maxLen; omega) (by omega) (by simp; omega) _ rfl ?_; intro g cap w' hown' hgrow hat hlg; clear hat hlg))
        all_goals
          have R := rq_step hlt hbel HC.out hlen (Owns.of_append hown' rfl (show xs ++ uEnc s[k] = _ by rw [HE.out, hexD_at _ (s[k].toNat / 16) (by omega) (by omega) hk1, hexD_at _ (s[k].toNat % 16) (by omega) (by omega) hk2])) (Below.of_append_drew hz hown hgrow)
          clear hown' hgrow
          go_wp2
          go_roundw
          case rel => exact ⟨k + 1, by go_num, R⟩
          case measure => simp [intOf]; omega
      · have e34 : ((s[k].toNat : Int) == 34) = false := by simp; omega
        have e92 : ((s[k].toNat : Int) == 92) = false := by simp; omega
        have e8 : ((s[k].toNat : Int) == 8) = false := by simp; omega
        have e9 : ((s[k].toNat : Int) == 9) = false := by simp; omega
        have e10 : ((s[k].toNat : Int) == 10) = false := by simp; omega
        have e12 : ((s[k].toNat : Int) == 12) = false := by simp; omega
        have e13 : ((s[k].toNat : Int) == 13) = false := by simp; omega
        have hc' : ¬ (s[k].toNat : Int) < 32 := by omega
        have HE := Lib.hid (show uEnc s[k] = [s[k]] by simp [uEnc, hc34, hc92, hc8, hc9, hc10, hc12, hc13, hc32])
        clear hc34 hc92 hc8 hc9 hc10 hc12 hc13 hc32
        go_wp2_with (first
          | (at_builtin; refine wpList_append_own _ rfl _ _ 89 rfl w.heap.size 5 i0 (.int .u8 0) 1 1 Try.underlying89 hi hz0 hz1 hz2 rfl (by decide) _ _ _ rfl (hown.alloc _) ⟨wr.heap.size, 0, none⟩ 1 1 (byteVals [s[k]]) rfl rfl (news_at wr [s[k]]) (news_one [s[k]]) (by unfold maxLen; omega) (by omega) (by simp; omega) ?_))
        intro v' w' hown' hgrow hne
        have R := rq_step hlt hbel HC.out hlen (Owns.of_append hown' rfl (show xs ++ uEnc s[k] = _ by rw [HE.out])) (Below.of_append hz hown hgrow)
        clear hown' hgrow hne
        go_wp2
        go_roundw
        case rel => exact ⟨k + 1, by go_num, R⟩
        case measure => simp [intOf]; omega
    · have HQ := Lib.hid (show uQuote s.data.toList = xs ++ [34] by
        have e0 := HC.out
        rw [List.drop_of_length_le (by rw [Array.length_toList]; show s.size ≤ k; omega)] at e0
        simp only [uQuote, ← e0]; simp)
      go_wp2_with (first
        | (at_builtin; refine wpList_append_own _ rfl _ _ 89 rfl w.heap.size 5 i0 (.int .u8 0) 1 1 Try.underlying89 hi hz0 hz1 hz2 rfl (by decide) _ _ _ rfl (hown.alloc _) ⟨wr.heap.size, 0, none⟩ 1 1 (byteVals [34]) rfl rfl (news_at wr [34]) (news_one [34]) (by unfold maxLen; omega) (by omega) (by simp; omega) ?_))
      intro v' w' hown' hgrow hne
      have h1 := Owns.of_append hown' rfl HQ.out
      have h2 := hbel.trans (Below.of_append hz hown hgrow)
      have hstr := h1.toStr
      clear hown' hgrow hne
      go_wp2
      go_ret2
      exact ⟨rfl, h2⟩

set_option maxRecDepth 100000 in
set_option maxHeartbeats 400000 in
theorem refQuote_no (s : ByteArray) (w : World) (hs : s.size ≤ maxLen) (h : (uRunes s.data.toList).isSome = false) :
    Calls Try.prog 31 #[.string s] w fun e w' => e = .returned (.tuple #[.string ⟨#[]⟩, .int .i64 2]) ∧ w = w' := by
  have HV := Lib.hid h
  clear h
  go_enter Try.func31, Try.ntmps31
  go_wp2_with fail
  refine (refGood_any s _ false hs HV.out).mono ?_
  rintro e w1 ⟨rfl, rfl⟩
  go_wp2
  go_ret2
  exact ⟨rfl, rfl⟩

end Go.Proofs.Ythcphfpkinfjoaa
