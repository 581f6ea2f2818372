/-
  What escape of the document's own answers (package introitref1) answers at a pair of escapes, and altogether.
  Conditions: the string is no longer than the form's own bound on lengths.
-/
import Derived.Test.YtomdkkmfgeajgaaRefD
namespace Go.Proofs.Ytomdkkmfgeajgaa
open Go.RowKit

theorem uLow_short (l : List UInt8) (h : l.length < 6) : uLow l = none := by
  match l, h with
  | [], _ => rfl
  | [_], _ => rfl
  | a :: b :: t, h =>
    simp only [uLow]
    split
    · rw [uDigs_short 4 0 t (by simp at h; omega)]
    · rfl
/-- The code point of a pair, and what it says of the text. -/
def PairIs (s : ByteArray) (r q : Nat) : Prop := ∃ (cp : Nat) (v : List UInt8), uEsc s.data.toList = some (cp, v) ∧ s.data.toList.length - v.length = 11 ∧ cp ≤ 1114111 ∧ (cp : Int) = 65536 + ((r : Int) - 55296) * 1024 + ((q : Int) - 56320)
theorem drop_five (s : ByteArray) (h : 6 < s.size) : s.data.toList.drop 5 = s[5] :: s[6] :: s.data.toList.drop 7 := by
  rw [drop_at s 5 (by omega), drop_at s 6 h]
theorem num_pair {l : List UInt8} {r : Nat} {u : List UInt8} (hd : uDigs 4 0 l = some (r, u)) (h1 : 55296 ≤ r) (h2 : r < 56320) : uNum l = match uLow u with
    | some (q, v) => some (65536 + (r - 55296) * 1024 + (q - 56320), v)
    | none => none := by
  unfold uNum; rw [hd]; simp only
  rw [if_pos (by simp only [uSur, Bool.and_eq_true, decide_eq_true_eq]; omega), if_neg (by omega)]
  cases uLow u with
  | none => rfl
  | some p => rfl
theorem esc_pair (s : ByteArray) (h0 : 0 < s.size) (hx : s[0].toNat = 117) {r : Nat} {u : List UInt8} (hd : uDigs 4 0 (s.data.toList.drop 1) = some (r, u)) (h1 : 55296 ≤ r) (h2 : r < 56320) :
    u = s.data.toList.drop 5 ∧ uEsc s.data.toList = match uLow (s.data.toList.drop 5) with
    | some (q, v) => some (65536 + (r - 55296) * 1024 + (q - 56320), v)
    | none => none := by
  have hud := (uDigs_drop _ _ _ _ _ hd).1
  rw [List.drop_drop] at hud
  subst hud
  exact ⟨rfl, by rw [esc_u s h0 hx, num_pair hd h1 h2]⟩

theorem pair_is (s : ByteArray) (h0 : 0 < s.size) (hx : s[0].toNat = 117) {r : Nat} {u : List UInt8} (hd : uDigs 4 0 (s.data.toList.drop 1) = some (r, u)) (hr : 55296 ≤ r ∧ r < 56320) (hn : ¬ s.size < 11) (h5 : s[5].toNat = 92) (h6 : s[6].toNat = 117) {q : Nat} {v : List UInt8}
    (hd2 : uDigs 4 0 (s.data.toList.drop 7) = some (q, v)) (hq : 56320 ≤ q ∧ q < 57344) : PairIs s r q := by
  have hud := uDigs_drop _ _ _ _ _ hd2
  refine ⟨65536 + (r - 55296) * 1024 + (q - 56320), v, ?_, ?_, by omega, by omega⟩
  · rw [(esc_pair s h0 hx hd hr.1 hr.2).2, drop_five s (by omega)]
    simp only [uLow]
    rw [if_pos ⟨h5, h6⟩, hd2]
    simp only
    rw [if_pos hq]
  · have e1 := hud.2
    rw [hud.1]
    rw [List.length_drop] at e1
    simp only [List.length_drop]; omega

set_option maxRecDepth 100000 in
set_option maxHeartbeats 1000000 in
theorem rpair_short (s : ByteArray) (w : World) (hs : s.size ≤ maxLen) (h0 : 0 < s.size) (hx : s[0].toNat = 117) (r : Nat) (u : List UInt8) (hd : uDigs 4 0 (s.data.toList.drop 1) = some (r, u)) (hr : 55296 ≤ r ∧ r < 56320) (hn : s.size < 11) : Calls Try.prog 24 #[.string s] w (Esc s.data.toList w) := by
  have H := Lib.hid (show uEsc s.data.toList = none by
    rw [(esc_pair s h0 hx hd hr.1 hr.2).2, uLow_short _ (by rw [List.length_drop, Array.length_toList]; show s.size - 5 < 6; omega)])
  obtain ⟨x, hxx⟩ : ∃ x : Int, x = (r : Int) := ⟨_, rfl⟩
  have HXI := Lib.hid (show uHexI (s.data.toList.drop 1) = x by rw [uHexI_some hd, hxx])
  have HX := Lib.hid hxx
  have HR := Lib.hid hr
  clear hd hxx hr
  have hz' : ((s.size : Int) == 0) = false := beq_eq_false_iff_ne.2 (by omega)
  have h0' : (0 : Int) < (s.size : Int) := by omega
  have h1' : (1 : Int) ≤ (s.size : Int) := by omega
  have e34 : ((s[0].toNat : Int) == 34) = false := by simp; omega
  have e92 : ((s[0].toNat : Int) == 92) = false := by simp; omega
  have e47 : ((s[0].toNat : Int) == 47) = false := by simp; omega
  have e98 : ((s[0].toNat : Int) == 98) = false := by simp; omega
  have e116 : ((s[0].toNat : Int) == 116) = false := by simp; omega
  have e110 : ((s[0].toNat : Int) == 110) = false := by simp; omega
  have e102 : ((s[0].toNat : Int) == 102) = false := by simp; omega
  have e114 : ((s[0].toNat : Int) == 114) = false := by simp; omega
  have e117 : ((s[0].toNat : Int) == 117) = true := by simp; omega
  clear hx
  go_enter Try.func24, Try.ntmps24
  go_wp2_with fail
  refine (hex4_at (s.extract 1 s.size) _ x _ (by rw [ByteArray.size_extract]; unfold maxLen at hs ⊢; omega) (ext_drop' s 1) HXI.out).mono ?_
  rintro e w1 ⟨rfl, rfl⟩
  go_wp2_with fail
  all_goals first
    | (exfalso; have q1 := HX.out; have q2 := HR.out; omega)
    | skip
  all_goals
    go_ret2
    exact Esc.no H.out

set_option maxRecDepth 100000 in
set_option maxHeartbeats 1000000 in
theorem rpair_five (s : ByteArray) (w : World) (hs : s.size ≤ maxLen) (h0 : 0 < s.size) (hx : s[0].toNat = 117) (r : Nat) (u : List UInt8) (hd : uDigs 4 0 (s.data.toList.drop 1) = some (r, u)) (hr : 55296 ≤ r ∧ r < 56320) (hn : ¬ s.size < 11) (h5 : s[5].toNat ≠ 92) : Calls Try.prog 24 #[.string s] w (Esc s.data.toList w) := by
  have H := Lib.hid (show uEsc s.data.toList = none by
    rw [(esc_pair s h0 hx hd hr.1 hr.2).2, drop_five s (by omega)]
    simp only [uLow]
    rw [if_neg (by omega)])
  have e5 : ((s[5].toNat : Int) != 92) = true := by simp; omega
  obtain ⟨x, hxx⟩ : ∃ x : Int, x = (r : Int) := ⟨_, rfl⟩
  have HXI := Lib.hid (show uHexI (s.data.toList.drop 1) = x by rw [uHexI_some hd, hxx])
  have HX := Lib.hid hxx
  have HR := Lib.hid hr
  clear hd hxx hr h5
  have hz' : ((s.size : Int) == 0) = false := beq_eq_false_iff_ne.2 (by omega)
  have h0' : (0 : Int) < (s.size : Int) := by omega
  have h1' : (1 : Int) ≤ (s.size : Int) := by omega
  have e34 : ((s[0].toNat : Int) == 34) = false := by simp; omega
  have e92 : ((s[0].toNat : Int) == 92) = false := by simp; omega
  have e47 : ((s[0].toNat : Int) == 47) = false := by simp; omega
  have e98 : ((s[0].toNat : Int) == 98) = false := by simp; omega
  have e116 : ((s[0].toNat : Int) == 116) = false := by simp; omega
  have e110 : ((s[0].toNat : Int) == 110) = false := by simp; omega
  have e102 : ((s[0].toNat : Int) == 102) = false := by simp; omega
  have e114 : ((s[0].toNat : Int) == 114) = false := by simp; omega
  have e117 : ((s[0].toNat : Int) == 117) = true := by simp; omega
  clear hx
  go_enter Try.func24, Try.ntmps24
  go_wp2_with fail
  refine (hex4_at (s.extract 1 s.size) _ x _ (by rw [ByteArray.size_extract]; unfold maxLen at hs ⊢; omega) (ext_drop' s 1) HXI.out).mono ?_
  rintro e w1 ⟨rfl, rfl⟩
  go_wp2_with fail
  all_goals first
    | (exfalso; have q1 := HX.out; have q2 := HR.out; omega)
    | skip
  all_goals
    go_ret2
    exact Esc.no H.out

set_option maxRecDepth 100000 in
set_option maxHeartbeats 1000000 in
theorem rpair_six (s : ByteArray) (w : World) (hs : s.size ≤ maxLen) (h0 : 0 < s.size) (hx : s[0].toNat = 117) (r : Nat) (u : List UInt8) (hd : uDigs 4 0 (s.data.toList.drop 1) = some (r, u)) (hr : 55296 ≤ r ∧ r < 56320) (hn : ¬ s.size < 11) (h5 : s[5].toNat = 92) (h6 : s[6].toNat ≠ 117) : Calls Try.prog 24 #[.string s] w (Esc s.data.toList w) := by
  have H := Lib.hid (show uEsc s.data.toList = none by
    rw [(esc_pair s h0 hx hd hr.1 hr.2).2, drop_five s (by omega)]
    simp only [uLow]
    rw [if_neg (by omega)])
  have e5 : ((s[5].toNat : Int) != 92) = false := by simp; omega
  have e6 : ((s[6].toNat : Int) != 117) = true := by simp; omega
  obtain ⟨x, hxx⟩ : ∃ x : Int, x = (r : Int) := ⟨_, rfl⟩
  have HXI := Lib.hid (show uHexI (s.data.toList.drop 1) = x by rw [uHexI_some hd, hxx])
  have HX := Lib.hid hxx
  have HR := Lib.hid hr
  clear hd hxx hr h5 h6
  have hz' : ((s.size : Int) == 0) = false := beq_eq_false_iff_ne.2 (by omega)
  have h0' : (0 : Int) < (s.size : Int) := by omega
  have h1' : (1 : Int) ≤ (s.size : Int) := by omega
  have e34 : ((s[0].toNat : Int) == 34) = false := by simp; omega
  have e92 : ((s[0].toNat : Int) == 92) = false := by simp; omega
  have e47 : ((s[0].toNat : Int) == 47) = false := by simp; omega
  have e98 : ((s[0].toNat : Int) == 98) = false := by simp; omega
  have e116 : ((s[0].toNat : Int) == 116) = false := by simp; omega
  have e110 : ((s[0].toNat : Int) == 110) = false := by simp; omega
  have e102 : ((s[0].toNat : Int) == 102) = false := by simp; omega
  have e114 : ((s[0].toNat : Int) == 114) = false := by simp; omega
  have e117 : ((s[0].toNat : Int) == 117) = true := by simp; omega
  clear hx
  go_enter Try.func24, Try.ntmps24
  go_wp2_with fail
  refine (hex4_at (s.extract 1 s.size) _ x _ (by rw [ByteArray.size_extract]; unfold maxLen at hs ⊢; omega) (ext_drop' s 1) HXI.out).mono ?_
  rintro e w1 ⟨rfl, rfl⟩
  go_wp2_with fail
  all_goals first
    | (exfalso; have q1 := HX.out; have q2 := HR.out; omega)
    | skip
  all_goals
    go_ret2
    exact Esc.no H.out

set_option maxRecDepth 100000 in
set_option maxHeartbeats 1000000 in
theorem rpair_none (s : ByteArray) (w : World) (hs : s.size ≤ maxLen) (h0 : 0 < s.size) (hx : s[0].toNat = 117) (r : Nat) (u : List UInt8) (hd : uDigs 4 0 (s.data.toList.drop 1) = some (r, u)) (hr : 55296 ≤ r ∧ r < 56320) (hn : ¬ s.size < 11) (h5 : s[5].toNat = 92) (h6 : s[6].toNat = 117) (hq : ∀ q v, uDigs 4 0 (s.data.toList.drop 7) = some (q, v) → q < 56320 ∨ 57344 ≤ q) : Calls Try.prog 24 #[.string s] w (Esc s.data.toList w) := by
  have H := Lib.hid (show uEsc s.data.toList = none by
    rw [(esc_pair s h0 hx hd hr.1 hr.2).2, drop_five s (by omega)]
    simp only [uLow]
    rw [if_pos ⟨h5, h6⟩]
    cases hd2 : uDigs 4 0 (s.data.toList.drop 7) with
    | none => rfl
    | some p =>
      obtain ⟨q, v⟩ := p
      have := hq q v hd2
      simp only
      rw [if_neg (by omega)])
  obtain ⟨y, hy⟩ : ∃ y : Int, uHexI (s.data.toList.drop 7) = y := ⟨_, rfl⟩
  have HYI := Lib.hid hy
  have HY := Lib.hid (show y < 56320 ∨ 57344 ≤ y by
    rw [← hy]; unfold uHexI
    cases hd2 : uDigs 4 0 (s.data.toList.drop 7) with
    | none => simp only; omega
    | some p => obtain ⟨q, v⟩ := p; have := hq q v hd2; simp only; omega)
  have e5 : ((s[5].toNat : Int) != 92) = false := by simp; omega
  have e6 : ((s[6].toNat : Int) != 117) = false := by simp; omega
  have h7 : (7 : Int) ≤ (s.size : Int) := by omega
  obtain ⟨x, hxx⟩ : ∃ x : Int, x = (r : Int) := ⟨_, rfl⟩
  have HXI := Lib.hid (show uHexI (s.data.toList.drop 1) = x by rw [uHexI_some hd, hxx])
  have HX := Lib.hid hxx
  have HR := Lib.hid hr
  clear hd hxx hr h5 h6 hq hy
  have hz' : ((s.size : Int) == 0) = false := beq_eq_false_iff_ne.2 (by omega)
  have h0' : (0 : Int) < (s.size : Int) := by omega
  have h1' : (1 : Int) ≤ (s.size : Int) := by omega
  have e34 : ((s[0].toNat : Int) == 34) = false := by simp; omega
  have e92 : ((s[0].toNat : Int) == 92) = false := by simp; omega
  have e47 : ((s[0].toNat : Int) == 47) = false := by simp; omega
  have e98 : ((s[0].toNat : Int) == 98) = false := by simp; omega
  have e116 : ((s[0].toNat : Int) == 116) = false := by simp; omega
  have e110 : ((s[0].toNat : Int) == 110) = false := by simp; omega
  have e102 : ((s[0].toNat : Int) == 102) = false := by simp; omega
  have e114 : ((s[0].toNat : Int) == 114) = false := by simp; omega
  have e117 : ((s[0].toNat : Int) == 117) = true := by simp; omega
  clear hx
  go_enter Try.func24, Try.ntmps24
  go_wp2_with fail
  refine (hex4_at (s.extract 1 s.size) _ x _ (by rw [ByteArray.size_extract]; unfold maxLen at hs ⊢; omega) (ext_drop' s 1) HXI.out).mono ?_
  rintro e w1 ⟨rfl, rfl⟩
  go_wp2_with fail
  all_goals first
    | (exfalso; have q1 := HX.out; have q2 := HR.out; omega)
    | skip
  all_goals
    refine (hex4_at (s.extract 7 s.size) _ y _ (by rw [ByteArray.size_extract]; unfold maxLen at hs ⊢; omega) (ext_drop' s 7) HYI.out).mono ?_
    rintro e w2 ⟨rfl, rfl⟩
    go_wp2_with fail
    all_goals first
      | (exfalso; have q1 := HY.out; omega)
      | skip
    all_goals
      go_ret2
      exact Esc.no H.out

set_option maxRecDepth 100000 in
set_option maxHeartbeats 1000000 in
theorem rpair_yes (s : ByteArray) (w : World) (hs : s.size ≤ maxLen) (h0 : 0 < s.size) (hx : s[0].toNat = 117) (r : Nat) (u : List UInt8) (hd : uDigs 4 0 (s.data.toList.drop 1) = some (r, u)) (hr : 55296 ≤ r ∧ r < 56320) (hn : ¬ s.size < 11) (h5 : s[5].toNat = 92) (h6 : s[6].toNat = 117) (q : Nat) (v : List UInt8) (hd2 : uDigs 4 0 (s.data.toList.drop 7) = some (q, v)) (hq : 56320 ≤ q ∧ q < 57344) : Calls Try.prog 24 #[.string s] w (Esc s.data.toList w) := by
  have H := Lib.hid (pair_is s h0 hx hd hr hn h5 h6 hd2 hq)
  obtain ⟨y, hy⟩ : ∃ y : Int, y = (q : Int) := ⟨_, rfl⟩
  have HYI := Lib.hid (show uHexI (s.data.toList.drop 7) = y by rw [uHexI_some hd2, hy])
  have HY := Lib.hid hy
  have HQ := Lib.hid hq
  have e5 : ((s[5].toNat : Int) != 92) = false := by simp; omega
  have e6 : ((s[6].toNat : Int) != 117) = false := by simp; omega
  have h7 : (7 : Int) ≤ (s.size : Int) := by omega
  obtain ⟨x, hxx⟩ : ∃ x : Int, x = (r : Int) := ⟨_, rfl⟩
  have HXI := Lib.hid (show uHexI (s.data.toList.drop 1) = x by rw [uHexI_some hd, hxx])
  have HX := Lib.hid hxx
  have HR := Lib.hid hr
  clear hd hxx hr h5 h6 hq hy hd2
  have hz' : ((s.size : Int) == 0) = false := beq_eq_false_iff_ne.2 (by omega)
  have h0' : (0 : Int) < (s.size : Int) := by omega
  have h1' : (1 : Int) ≤ (s.size : Int) := by omega
  have e34 : ((s[0].toNat : Int) == 34) = false := by simp; omega
  have e92 : ((s[0].toNat : Int) == 92) = false := by simp; omega
  have e47 : ((s[0].toNat : Int) == 47) = false := by simp; omega
  have e98 : ((s[0].toNat : Int) == 98) = false := by simp; omega
  have e116 : ((s[0].toNat : Int) == 116) = false := by simp; omega
  have e110 : ((s[0].toNat : Int) == 110) = false := by simp; omega
  have e102 : ((s[0].toNat : Int) == 102) = false := by simp; omega
  have e114 : ((s[0].toNat : Int) == 114) = false := by simp; omega
  have e117 : ((s[0].toNat : Int) == 117) = true := by simp; omega
  clear hx
  go_enter Try.func24, Try.ntmps24
  go_wp2_with fail
  refine (hex4_at (s.extract 1 s.size) _ x _ (by rw [ByteArray.size_extract]; unfold maxLen at hs ⊢; omega) (ext_drop' s 1) HXI.out).mono ?_
  rintro e w1 ⟨rfl, rfl⟩
  go_wp2_with fail
  all_goals first
    | (exfalso; have q1 := HX.out; have q2 := HR.out; omega)
    | skip
  all_goals
    refine (hex4_at (s.extract 7 s.size) _ y _ (by rw [ByteArray.size_extract]; unfold maxLen at hs ⊢; omega) (ext_drop' s 7) HYI.out).mono ?_
    rintro e w2 ⟨rfl, rfl⟩
    go_wp2_with fail
    all_goals first
      | (exfalso; have q1 := HY.out; have q2 := HQ.out; omega)
      | skip
    all_goals
      obtain ⟨cp, v', hE, hL, hC, hcp⟩ := H.out
      have hx' : 65536 + (x - 55296) * 1024 + y - 56320 = (cp : Int) := by have q1 := HX.out; have q2 := HY.out; omega
      have HE := Lib.hid hE
      have HL := Lib.hid hL
      have HC := Lib.hid hC
      have HX2 := Lib.hid hx'
      clear hE hL hC hcp hx'
      refine (encode_any cp _ _ HC.out HX2.out).mono ?_
      rintro e w3 ⟨rfl, rfl⟩
      go_wp2
      go_ret2
      exact Esc.yes HE.out rfl rfl HL.out rfl rfl

theorem resc_any (s : ByteArray) (w : World) (hs : s.size ≤ maxLen) : Calls Try.prog 24 #[.string s] w (Esc s.data.toList w) := by
  by_cases h0 : 0 < s.size
  · by_cases h34 : s[0].toNat = 34
    · exact resc_34 s w h0 h34
    by_cases h92 : s[0].toNat = 92
    · exact resc_92 s w h0 h92
    by_cases h47 : s[0].toNat = 47
    · exact resc_47 s w h0 h47
    by_cases h98 : s[0].toNat = 98
    · exact resc_98 s w h0 h98
    by_cases h116 : s[0].toNat = 116
    · exact resc_116 s w h0 h116
    by_cases h110 : s[0].toNat = 110
    · exact resc_110 s w h0 h110
    by_cases h102 : s[0].toNat = 102
    · exact resc_102 s w h0 h102
    by_cases h114 : s[0].toNat = 114
    · exact resc_114 s w h0 h114
    by_cases h117 : s[0].toNat = 117
    · cases hd : uDigs 4 0 (s.data.toList.drop 1) with
      | none => exact resc_u_none s w hs h0 h117 hd
      | some p =>
        obtain ⟨r, u⟩ := p
        by_cases hr : 56320 ≤ r ∧ r < 57344
        · exact resc_u_bad s w hs h0 h117 r u hd hr
        by_cases hr2 : 55296 ≤ r ∧ r < 56320
        · by_cases hn : s.size < 11
          · exact rpair_short s w hs h0 h117 r u hd hr2 hn
          by_cases h5 : s[5].toNat = 92
          · by_cases h6 : s[6].toNat = 117
            · cases hd2 : uDigs 4 0 (s.data.toList.drop 7) with
              | none => exact rpair_none s w hs h0 h117 r u hd hr2 hn h5 h6 (fun q v h => by rw [hd2] at h; cases h)
              | some p =>
                obtain ⟨q, v⟩ := p
                by_cases hq : 56320 ≤ q ∧ q < 57344
                · exact rpair_yes s w hs h0 h117 r u hd hr2 hn h5 h6 q v hd2 hq
                · exact rpair_none s w hs h0 h117 r u hd hr2 hn h5 h6 (fun q' v' h => by rw [hd2] at h; cases h; omega)
            · exact rpair_six s w hs h0 h117 r u hd hr2 hn h5 h6
          · exact rpair_five s w hs h0 h117 r u hd hr2 hn h5
        · exact resc_u_one s w hs h0 h117 r u hd (by omega)
    · exact resc_other s w h0 h34 h92 h47 h98 h116 h110 h102 h114 h117
  · exact resc_nil s w (List.eq_nil_of_length_eq_zero (by rw [Array.length_toList]; show s.size = 0; omega))

end Go.Proofs.Ytomdkkmfgeajgaa
