/-
  What Unquote of the document's own answers (package introitref1) answers: as Unquote of package utf.
  Conditions: the string is short enough that what it says fits Go's own bound on a slice of bytes.
-/
import Derived.Test.YtomdkkmfgeajgaaRefE
import Derived.Lib.AppendStr
namespace Go.Proofs.Ytomdkkmfgeajgaa
open Go.RowKit

/-- What is left is the text behind some bytes. -/
theorem uLow_drop {l : List UInt8} {q : Nat} {u : List UInt8} (h : uLow l = some (q, u)) : u = l.drop 6 ∧ 6 ≤ l.length := by
  match l, h with
  | [], h => simp [uLow] at h
  | [_], h => simp [uLow] at h
  | a :: c :: t, h =>
    simp only [uLow] at h
    split at h
    · split at h
      · rename_i heq
        have := uDigs_drop _ _ _ _ _ heq
        split at h
        · simp only [Option.some.injEq, Prod.mk.injEq] at h
          rw [← h.2]; simp; exact ⟨this.1, this.2⟩
        · simp at h
      · simp at h
    · simp at h
theorem uNum_drop {l : List UInt8} {q : Nat} {u : List UInt8} (h : uNum l = some (q, u)) : ∃ n, u = l.drop n ∧ n ≤ l.length := by
  unfold uNum at h
  split at h
  · rename_i r u' heq
    have hd := uDigs_drop _ _ _ _ _ heq
    split at h
    · split at h
      · simp at h
      · split at h
        · rename_i hl
          have h6 := uLow_drop hl
          simp only [Option.some.injEq, Prod.mk.injEq] at h
          refine ⟨10, ?_, ?_⟩
          · rw [← h.2, h6.1, hd.1, List.drop_drop]
          · have := h6.2; rw [hd.1, List.length_drop] at this; omega
        · simp at h
    · simp only [Option.some.injEq, Prod.mk.injEq] at h
      exact ⟨4, by rw [← h.2]; exact hd.1, hd.2⟩
  · simp at h
theorem uEsc_drop {l : List UInt8} {q : Nat} {u : List UInt8} (h : uEsc l = some (q, u)) : ∃ n, u = l.drop n ∧ n ≤ l.length ∧ 1 ≤ n := by
  match l, h with
  | [], h => simp [uEsc] at h
  | c :: t, h =>
    simp only [uEsc] at h
    repeat' split at h
    all_goals first
      | (simp only [Option.some.injEq, Prod.mk.injEq] at h; exact ⟨1, by rw [← h.2]; rfl, by simp, by omega⟩)
      | (obtain ⟨n, h1, h2⟩ := uNum_drop h; exact ⟨n + 1, by rw [h1]; rfl, by simp; omega, by omega⟩)
      | (simp at h)

theorem resc_none (s : ByteArray) (l : List UInt8) (w : World) (hs : s.size ≤ maxLen) (hl : s.data.toList = l) (h : uEsc l = none) :
    Calls Try.prog 24 #[.string s] w fun e w' => e = .returned (.tuple #[.slice none 0 0, .int .i64 0]) ∧ w = w' := by
  subst hl
  refine (resc_any s w hs).mono ?_
  intro e w' he
  unfold Esc at he
  rw [h] at he
  exact ⟨he.1, he.2.symm⟩
theorem resc_some (s : ByteArray) (l : List UInt8) (r n : Nat) (u ys : List UInt8) (w : World) (hs : s.size ≤ maxLen) (hl : s.data.toList = l) (h : uEsc l = some (r, u)) (hn : l.length - u.length = n) (hy : uBytes r = ys) :
    Calls Try.prog 24 #[.string s] w fun e w' => e = .returned (.tuple #[.slice (some ⟨w.heap.size, 0, none⟩) ys.length ys.length, .int .i64 (n : Int)]) ∧ w' = w.alloc (.cells (byteVals ys).toArray 5) := by
  subst hl hn hy
  refine (resc_any s w hs).mono ?_
  intro e w' he
  unfold Esc at he
  rw [h] at he
  exact he

def RURel (s : ByteArray) (w : World) (k : Nat) (o : Value) (wr : World) : Prop :=
  1 ≤ k ∧ k ≤ s.size ∧ w.heap.size ≤ wr.heap.size ∧ Below w.heap.size w wr ∧ ∃ xs, Owns wr w.heap.size o xs ∧ (uBody (s.data.toList.drop k)).map (fun p => (xs ++ p.1, p.2)) = uBody (s.data.toList.drop 1) ∧ xs.length ≤ 4 * k

theorem ru_unq (s : ByteArray) (h0 : 0 < s.size) (h34 : s[0].toNat = 34) : uUnq s.data.toList = (uBody (s.data.toList.drop 1)).map fun p => (p.1, s.size - p.2.length) := by
  have e0 := list_cons s h0
  have hl : (s.data.toList.drop 1).length + 1 = s.size := by rw [List.length_drop, Array.length_toList]; show s.size - 1 + 1 = s.size; omega
  generalize s.data.toList.drop 1 = t at e0 hl ⊢
  rw [e0]
  simp only [uUnq]
  rw [if_pos h34, hl]
theorem ru_bad {s : ByteArray} {k : Nat} {xs : List UInt8} (h0 : 0 < s.size) (h34 : s[0].toNat = 34) (hb : (uBody (s.data.toList.drop k)).map (fun p => (xs ++ p.1, p.2)) = uBody (s.data.toList.drop 1)) (hn : uBody (s.data.toList.drop k) = none) : uUnq s.data.toList = none := by
  rw [ru_unq s h0 h34, ← hb, hn]; rfl
theorem ru_end {s : ByteArray} {k : Nat} {xs : List UInt8} (h0 : 0 < s.size) (h34 : s[0].toNat = 34) (hb : (uBody (s.data.toList.drop k)).map (fun p => (xs ++ p.1, p.2)) = uBody (s.data.toList.drop 1)) (hk : k < s.size) (hc : s[k].toNat = 34) : uUnq s.data.toList = some (xs, k + 1) := by
  rw [ru_unq s h0 h34, ← hb, drop_at s k hk, uBody_cons, if_neg (by omega), if_pos hc]
  simp only [Option.map_some, List.append_nil, List.length_drop, Array.length_toList]
  have : s.data.size = s.size := rfl
  congr 2; omega
theorem ru_step {s : ByteArray} {w wr w' : World} {k n r : Nat} {v' : Value} {xs u : List UInt8} (hk : k < s.size) (hb : Below w.heap.size w wr) (hbody : (uBody (s.data.toList.drop k)).map (fun p => (xs ++ p.1, p.2)) = uBody (s.data.toList.drop 1)) (hlen : xs.length ≤ 4 * k)
    (h32 : ¬ s[k].toNat < 32) (h34 : ¬ s[k].toNat = 34) (hsym : uSym s[k] (s.data.toList.drop (k + 1)) = some (r, u)) (hu : s.data.toList.drop (k + n) = u) (hn : 1 ≤ n) (hkn : k + n ≤ s.size)
    (h1 : Owns w' w.heap.size v' (xs ++ uBytes r)) (h2 : Below w.heap.size wr w') : RURel s w (k + n) v' w' := by
  have hl := uBytes_len r
  refine ⟨by omega, hkn, Nat.le_trans hb.size h2.size, hb.trans h2, xs ++ uBytes r, h1, ?_, ?_⟩
  · rw [← hbody, drop_at s k hk, uBody_cons, if_neg h32, if_neg h34, hsym, hu]
    simp only
    cases uBody u with
    | none => rfl
    | some q => simp
  · rw [List.length_append]; omega
theorem cells_of {z : ByteArray} {ys : List UInt8} (h : z.data.toList = ys) : Lib.strCells z = byteVals ys := by subst h; rfl
theorem own_below {w3 w4 : World} {B : Nat} {o : Value} {xs : List UInt8} (hz3 : B ≤ w3.heap.size) (hown3 : Owns w3 B o xs) (hgrow : w3.grownBy w4 o.ownBlock) : Below B w3 w4 :=
  (Below.refl _ _).grown hgrow hz3 (fun k hk => by
    rcases hown3.2 with ⟨e0, _⟩ | ⟨g, cap, cur, e0, hg, _⟩
    · rw [e0] at hk; simp [Value.ownBlock] at hk
    · rw [e0] at hk; simp [Value.ownBlock] at hk; omega)
theorem ext_list (s : ByteArray) (k n : Nat) : (s.extract k (k + n)).data.toList = (s.data.toList.drop k).take n := by
  rw [ByteArray.data_extract, Array.toList_extract, List.extract_eq_take_drop]
  congr 1; omega

set_option maxRecDepth 100000 in
set_option maxHeartbeats 400000 in
theorem refUnquote_not (s : ByteArray) (w : World) (h : s.size = 0 ∨ ∃ h0 : 0 < s.size, s[0].toNat ≠ 34) : Calls Try.prog 18 #[.string s] w (Unq s w) := by
  rcases h with hz | ⟨h0, h34⟩
  · have H := Lib.hid (show uUnq s.data.toList = none by rw [List.eq_nil_of_length_eq_zero (l := s.data.toList) (by rw [Array.length_toList]; exact hz)]; rfl)
    have hz' : ((s.size : Int) == 0) = true := by simp [hz]
    clear hz
    go_enter Try.func18, Try.ntmps18
    go_wp2
    refine bodyPost_ret (v := .tuple #[.string ⟨#[]⟩, .int .i64 0, .int .i64 2]) (by simp [results, Try.results18, go_sem]) rfl ?_
    exact Unq.no H.out (Below.refl _ _)
  · have H := Lib.hid (show uUnq s.data.toList = none by
      have e0 := list_cons s h0
      generalize s.data.toList.drop 1 = t at e0
      rw [e0]; simp only [uUnq]; rw [if_neg h34])
    have hz' : ((s.size : Int) == 0) = false := beq_eq_false_iff_ne.2 (by omega)
    have h0' : (0 : Int) < (s.size : Int) := by omega
    have e34 : ((s[0].toNat : Int) != 34) = true := by simp; omega
    clear h34
    go_enter Try.func18, Try.ntmps18
    go_wp2
    refine bodyPost_ret (v := .tuple #[.string ⟨#[]⟩, .int .i64 0, .int .i64 2]) (by simp [results, Try.results18, go_sem]) rfl ?_
    exact Unq.no H.out (Below.refl _ _)

set_option maxRecDepth 100000 in
set_option maxHeartbeats 2000000 in
theorem refUnquote_yes (s : ByteArray) (w : World) (hs : 4 * s.size + 8 ≤ 140737488355328) (h0 : 0 < s.size) (h34 : s[0].toNat = 34) : Calls Try.prog 18 #[.string s] w (Unq s w) := by
  have hs' : s.size ≤ maxLen := by unfold maxLen; omega
  obtain ⟨i0, hi, hz0, hz1, hz2⟩ := info_parts info_u8
  have hz' : ((s.size : Int) == 0) = false := beq_eq_false_iff_ne.2 (by omega)
  have h0' : (0 : Int) < (s.size : Int) := by omega
  have e34 : ((s[0].toNat : Int) != 34) = false := by simp; omega
  have H34 := Lib.hid h34
  clear h34
  go_enter Try.func18, Try.ntmps18
  go_wp2_with fail
  go_loopw [5, 6] (fun o i wr => ∃ k : Nat, i = .int .i64 k ∧ RURel s w k o wr) (fun _ i _ => s.size - (intOf i).toNat)
  case atStart => exact ⟨1, rfl, by omega, by omega, Nat.le_refl _, Below.refl _ _, [], ⟨rfl, Or.inl ⟨rfl, rfl⟩⟩, by cases uBody (s.data.toList.drop 1) <;> rfl, by simp⟩
  case round =>
    obtain ⟨k, rfl, hk1, hk, hzz, hbel, xs, hown, hbody, hlen⟩ := hrel
    have HBD := Lib.hid hbody
    clear hbody
    by_cases hlt : k < s.size
    · have hlt' : (k : Int) < (s.size : Int) := by omega
      by_cases c34 : s[k].toNat = 34
      · have HE := Lib.hid (ru_end h0 H34.out HBD.out hlt c34)
        have e1 : ((s[k].toNat : Int) == 34) = true := by simp; omega
        have hstr := hown.toStr
        clear c34
        go_wp2
        refine bodyPost_ret (v := .tuple #[.string ⟨xs.toArray⟩, .int .i64 ((k : Int) + 1), .int .i64 0]) (by simp [results, Try.results18, go_sem]) rfl ?_
        exact Unq.yes HE.out (by omega) hbel
      · have e1 : ((s[k].toNat : Int) == 34) = false := by simp; omega
        have hdr := ext_drop' s (k + 1)
        have HDR := Lib.hid hdr
        have hlen1 : (s.data.toList.drop (k + 1)).length = s.size - (k + 1) := by rw [List.length_drop, Array.length_toList]; rfl
        by_cases c92 : s[k].toNat = 92
        · have e2 : ((s[k].toNat : Int) == 92) = true := by simp; omega
          have hk1' : (k : Int) + 1 ≤ (s.size : Int) := by omega
          cases hesc : uEsc (s.data.toList.drop (k + 1)) with
          | none =>
            have HN := Lib.hid (ru_bad h0 H34.out HBD.out (by rw [drop_at s k hlt, uBody_cons, if_neg (by omega), if_neg c34]; unfold uSym; rw [if_pos c92, hesc]))
            have HES := Lib.hid hesc
            clear c34 c92 hdr hlen1 hesc
            go_wp2_with fail
            refine (resc_none (s.extract (k + 1) s.size) _ _ (by rw [ByteArray.size_extract]; unfold maxLen at hs' ⊢; omega) HDR.out HES.out).mono ?_
            rintro e w2 ⟨rfl, rfl⟩
            go_wp2
            refine bodyPost_ret (v := .tuple #[.string ⟨#[]⟩, .int .i64 0, .int .i64 2]) (by simp [results, Try.results18, go_sem]) rfl ?_
            exact Unq.no HN.out hbel
          | some p =>
            obtain ⟨r, u⟩ := p
            obtain ⟨n, hu, hn1, hn2⟩ := uEsc_drop hesc
            obtain ⟨ys, hys⟩ : ∃ ys, uBytes r = ys := ⟨_, rfl⟩
            have hyl := uBytes_len r
            rw [hys] at hyl
            rw [hlen1] at hn1
            have HLN := Lib.hid (show (s.data.toList.drop (k + 1)).length - u.length = n by rw [hlen1, hu, List.length_drop, hlen1]; omega)
            have HU := Lib.hid (show s.data.toList.drop (k + (1 + n)) = u by rw [hu, List.drop_drop, Nat.add_assoc])
            have HSY := Lib.hid (show uSym s[k] (s.data.toList.drop (k + 1)) = some (r, u) by unfold uSym; rw [if_pos c92, hesc])
            have H32 := Lib.hid (show ¬ s[k].toNat < 32 by omega)
            have H34k := Lib.hid c34
            have HES := Lib.hid hesc
            have HYS := Lib.hid hys
            have HYL := Lib.hid hyl
            have hn0 : ((n : Int) == 0) = false := beq_eq_false_iff_ne.2 (by omega)
            clear c34 c92 hdr hlen1 hesc hu hys hyl
            go_wp2_with fail
            refine (resc_some (s.extract (k + 1) s.size) _ r n u ys _ (by rw [ByteArray.size_extract]; unfold maxLen at hs' ⊢; omega) HDR.out HES.out HLN.out HYS.out).mono ?_
            rintro e w2 ⟨rfl, rfl⟩
            go_wp2_with (first
              | (at_builtin; refine wpList_append_own _ rfl (.tmp 45) (.tmp 46) 39 rfl w.heap.size 5 i0 (.int .u8 0) 1 1 Try.underlying39 hi hz0 hz1 hz2 rfl (by decide) _ _ _ rfl (hown.alloc _) ⟨wr.heap.size, 0, none⟩ ys.length ys.length (byteVals ys) rfl (by simp [byteVals]) (news_at wr ys) (news_one ys) (by have := HYL.out; unfold maxLen; omega) (by have := HYL.out; omega) (by simp; omega) ?_))
            intro v' w' hown' hgrow hne
            have R := ru_step hlt hbel HBD.out hlen H32.out H34k.out HSY.out HU.out (by omega) (by omega) (Owns.of_append hown' rfl (show xs ++ uBytes r = _ by rw [HYS.out])) (Below.of_append hzz hown hgrow)
            clear hown' hgrow hne
            go_wp2
            go_roundw
            case rel => exact ⟨k + (1 + n), by go_num, R⟩
            case measure => simp [intOf]; omega
        · have e2 : ((s[k].toNat : Int) == 92) = false := by simp; omega
          have hk1' : (k : Int) ≤ (s.size : Int) := by omega
          have HDK := Lib.hid ((ext_drop' s k).trans (drop_at s k hlt))
          cases hp : uPoint s[k] (s.data.toList.drop (k + 1)) with
          | none =>
            have HN := Lib.hid (ru_bad h0 H34.out HBD.out (by
              rw [drop_at s k hlt, uBody_cons]
              by_cases h32 : s[k].toNat < 32
              · rw [if_pos h32]
              · rw [if_neg h32, if_neg c34]; unfold uSym; rw [if_neg c92, hp]))
            have HU := Lib.hid (uRune_none hp)
            clear c34 c92 hdr hlen1 hp
            go_wp2_with fail
            refine (rune_at (s.extract k s.size) _ 0 0 _ (by rw [ByteArray.size_extract]; unfold maxLen at hs' ⊢; omega) HDK.out HU.out).mono ?_
            rintro e w1 ⟨rfl, rfl⟩
            go_wp2
            refine bodyPost_ret (v := .tuple #[.string ⟨#[]⟩, .int .i64 0, .int .i64 2]) (by simp [results, Try.results18, go_sem]) rfl ?_
            exact Unq.no HN.out hbel
          | some p =>
            obtain ⟨r, u⟩ := p
            obtain ⟨pp, hpp, _, _, hloc, _⟩ := uPoint_loc hp
            obtain ⟨n, hn⟩ : ∃ n, n = 1 + pp.length := ⟨_, rfl⟩
            have hul : (s.data.toList.drop (k + 1)).length = pp.length + u.length := by rw [hpp, List.length_append]
            have HRU := Lib.hid (show uRune (s[k] :: s.data.toList.drop (k + 1)) = (r, n) by rw [uRune_some hp, hul, hn]; congr 1; omega)
            by_cases h32 : s[k].toNat < 32
            · have HN := Lib.hid (ru_bad h0 H34.out HBD.out (by rw [drop_at s k hlt, uBody_cons, if_pos h32]))
              have h32' : (s[k].toNat : Int) < 32 := by omega
              have hn0 : ((n : Int) == 0) = false := beq_eq_false_iff_ne.2 (by omega)
              clear c34 c92 hdr hlen1 hp hpp hloc hul hn h32
              go_wp2_with fail
              refine (rune_at (s.extract k s.size) _ r n _ (by rw [ByteArray.size_extract]; unfold maxLen at hs' ⊢; omega) HDK.out HRU.out).mono ?_
              rintro e w1 ⟨rfl, rfl⟩
              go_wp2
              refine bodyPost_ret (v := .tuple #[.string ⟨#[]⟩, .int .i64 0, .int .i64 2]) (by simp [results, Try.results18, go_sem]) rfl ?_
              exact Unq.no HN.out hbel
            · have h32' : ¬ (s[k].toNat : Int) < 32 := by omega
              have hn0 : ((n : Int) == 0) = false := beq_eq_false_iff_ne.2 (by omega)
              have hn1 : 1 ≤ n := by omega
              have hn2 : k + n ≤ s.size := by omega
              have hn3 : (k : Int) + (n : Int) ≤ (s.size : Int) := by omega
              have hby : uBytes r = s[k] :: pp := uPoint_bytes (hloc u)
              have hyl := uBytes_len r
              have HYS := Lib.hid (show (s.extract k (k + n)).data.toList = uBytes r by rw [ext_list, drop_at s k hlt, hpp, hby, hn, Nat.add_comm 1, List.take_succ_cons, List.take_left])
              have HSZ := Lib.hid (show (s.extract k (k + n)).size = (uBytes r).length by rw [← HYS.out, Array.length_toList]; rfl)
              have HNL := Lib.hid (show (uBytes r).length = n by rw [hby, hn, List.length_cons]; omega)
              have HU := Lib.hid (show s.data.toList.drop (k + n) = u by rw [hn, ← Nat.add_assoc, ← List.drop_drop, hpp]; simp)
              have HSY := Lib.hid (show uSym s[k] (s.data.toList.drop (k + 1)) = some (r, u) by unfold uSym; rw [if_neg c92, hp])
              have H32 := Lib.hid h32
              have H34k := Lib.hid c34
              have HYL := Lib.hid hyl
              clear c34 c92 hdr hlen1 hp hpp hloc hul hn h32 hby hyl
              go_wp2_with fail
              refine (rune_at (s.extract k s.size) _ r n _ (by rw [ByteArray.size_extract]; unfold maxLen at hs' ⊢; omega) HDK.out HRU.out).mono ?_
              rintro e w1 ⟨rfl, rfl⟩
              go_wp2_with (first
                | (at_builtin; refine Lib.wpList_append_own_string _ rfl (.tmp 65) (.tmp 71) 39 9 rfl w.heap.size 5 i0 Try.underlying39 Try.underlying9 hi hz0 hz1 hz2 _ _ _ rfl hown (s.extract k (k + n)) rfl (by rw [HSZ.out]; have := HYL.out; unfold maxLen; omega) (by rw [HSZ.out]; have := HYL.out; omega) hzz ?_))
              intro v' w' hown' hgrow hne
              have R := ru_step hlt hbel HBD.out hlen H32.out H34k.out HSY.out HU.out hn1 hn2 (Owns.of_append (ys := uBytes r) (by rw [← cells_of HYS.out]; exact hown') HNL.out rfl) (own_below hzz hown hgrow)
              clear hown' hgrow hne
              go_wp2
              go_roundw
              case rel => exact ⟨k + n, by go_num, R⟩
              case measure => simp [intOf]; omega
    · have HN := Lib.hid (ru_bad h0 H34.out HBD.out (by rw [List.drop_of_length_le (by rw [Array.length_toList]; show s.size ≤ k; omega)]; rfl))
      go_wp2
      refine bodyPost_ret (v := .tuple #[.string ⟨#[]⟩, .int .i64 0, .int .i64 2]) (by simp [results, Try.results18, go_sem]) rfl ?_
      exact Unq.no HN.out hbel

theorem refUnquote_any (s : ByteArray) (w : World) (hs : 4 * s.size + 8 ≤ 140737488355328) : Calls Try.prog 18 #[.string s] w (Unq s w) := by
  by_cases h0 : 0 < s.size
  · by_cases h34 : s[0].toNat = 34
    · exact refUnquote_yes s w hs h0 h34
    · exact refUnquote_not s w (Or.inr ⟨h0, h34⟩)
  · exact refUnquote_not s w (Or.inl (by omega))

end Go.Proofs.Ytomdkkmfgeajgaa
