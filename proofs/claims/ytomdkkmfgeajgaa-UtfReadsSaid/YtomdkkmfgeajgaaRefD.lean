/-
  What escape of the document's own answers (package introitref1) answers: as the reader of escapes of package utf.
  Conditions: the string is no longer than the form's own bound on lengths.
-/
import Derived.Test.YtomdkkmfgeajgaaRefC
import Derived.Test.YtomdkkmfgeajgaaUtfN
namespace Go.Proofs.Ytomdkkmfgeajgaa
open Go.RowKit

def Esc (l : List UInt8) (w : World) (e : Ending) (w' : World) : Prop := match uEsc l with
  | some (r, u) => e = .returned (.tuple #[.slice (some ⟨w.heap.size, 0, none⟩) (uBytes r).length (uBytes r).length, .int .i64 ((l.length - u.length : Nat) : Int)]) ∧ w' = w.alloc (.cells (byteVals (uBytes r)).toArray 5)
  | none => e = .returned (.tuple #[.slice none 0 0, .int .i64 0]) ∧ w' = w
theorem Esc.no {l : List UInt8} {w : World} (h : uEsc l = none) : Esc l w (.returned (.tuple #[.slice none 0 0, .int .i64 0])) w := by unfold Esc; rw [h]; exact ⟨rfl, rfl⟩
theorem Esc.yes {l : List UInt8} {w : World} {r n k : Nat} {u ys : List UInt8} {vs : Array Value} {z : Int} (h : uEsc l = some (r, u)) (hb : uBytes r = ys) (hn : ys.length = n) (hk : l.length - u.length = k) (hz : z = (k : Int)) (hv : vs = (byteVals ys).toArray) :
    Esc l w (.returned (.tuple #[.slice (some ⟨w.heap.size, 0, none⟩) n n, .int .i64 z])) (w.alloc (.cells vs 5)) := by
  subst hb hn hk hz hv; unfold Esc; rw [h]; exact ⟨rfl, rfl⟩

theorem uDigs_drop : ∀ (n r : Nat) (l : List UInt8) (q : Nat) (u : List UInt8), uDigs n r l = some (q, u) → u = l.drop n ∧ n ≤ l.length
  | 0, r, l, q, u, h => by simp only [uDigs, Option.some.injEq, Prod.mk.injEq] at h; rw [← h.2]; simp
  | n + 1, r, [], q, u, h => by simp [uDigs] at h
  | n + 1, r, c :: t, q, u, h => by
    simp only [uDigs] at h
    cases hd : uDigit c.toNat with
    | none => rw [hd] at h; simp at h
    | some d => rw [hd] at h; have := uDigs_drop n _ t q u h; simp; exact ⟨this.1, this.2⟩
theorem hex4_at (s : ByteArray) (l : List UInt8) (x : Int) (w : World) (hs : s.size ≤ maxLen) (hl : s.data.toList = l) (h : uHexI l = x) :
    Calls Try.prog 27 #[.string s] w fun e w' => e = .returned (.int .i64 x) ∧ w = w' := by
  subst hl h; exact hex4_any s w hs
theorem uHexI_some {l : List UInt8} {r : Nat} {u : List UInt8} (h : uDigs 4 0 l = some (r, u)) : uHexI l = (r : Int) := by unfold uHexI; rw [h]
theorem uHexI_none {l : List UInt8} (h : uDigs 4 0 l = none) : uHexI l = -1 := by unfold uHexI; rw [h]

set_option maxRecDepth 100000 in
set_option maxHeartbeats 1000000 in
theorem resc_nil (s : ByteArray) (w : World) (h : s.data.toList = []) : Calls Try.prog 24 #[.string s] w (Esc s.data.toList w) := by
  have H := Lib.hid (show uEsc s.data.toList = none by rw [h]; rfl)
  have hz : s.size = 0 := by have := congrArg List.length h; rw [Array.length_toList] at this; exact this
  have hz' : ((s.size : Int) == 0) = true := by simp [hz]
  clear h hz
  go_enter Try.func24, Try.ntmps24
  go_wp2
  go_ret2
  exact Esc.no H.out

set_option maxRecDepth 100000 in
set_option maxHeartbeats 1000000 in
theorem resc_34 (s : ByteArray) (w : World) (h0 : 0 < s.size) (hx : s[0].toNat = 34) : Calls Try.prog 24 #[.string s] w (Esc s.data.toList w) := by
  have H := Lib.hid (show uEsc s.data.toList = some (s[0].toNat, s.data.toList.drop 1) by
    have e0 := list_cons s h0
    generalize s.data.toList.drop 1 = t at e0
    rw [e0]; simp [uEsc, hx])
  have HLN := Lib.hid (show s.data.toList.length - (s.data.toList.drop 1).length = 1 by rw [List.length_drop, Array.length_toList]; show s.size - (s.size - 1) = 1; omega)
  have hz' : ((s.size : Int) == 0) = false := beq_eq_false_iff_ne.2 (by omega)
  have h0' : (0 : Int) < (s.size : Int) := by omega
  have e34 : ((s[0].toNat : Int) == 34) = true := by simp; omega
  have e92 : ((s[0].toNat : Int) == 92) = false := by simp; omega
  have e47 : ((s[0].toNat : Int) == 47) = false := by simp; omega
  have e98 : ((s[0].toNat : Int) == 98) = false := by simp; omega
  have e116 : ((s[0].toNat : Int) == 116) = false := by simp; omega
  have e110 : ((s[0].toNat : Int) == 110) = false := by simp; omega
  have e102 : ((s[0].toNat : Int) == 102) = false := by simp; omega
  have e114 : ((s[0].toNat : Int) == 114) = false := by simp; omega
  have e117 : ((s[0].toNat : Int) == 117) = false := by simp; omega
  have HX := Lib.hid hx
  clear hx
  go_enter Try.func24, Try.ntmps24
  go_wp2
  go_ret2
  exact Esc.yes H.out (show uBytes s[0].toNat = [s[0]] by unfold uBytes; rw [if_pos (by have := HX.out; omega), u8_eq (c := s[0]) (by have := HX.out; omega)]) rfl HLN.out rfl rfl

set_option maxRecDepth 100000 in
set_option maxHeartbeats 1000000 in
theorem resc_92 (s : ByteArray) (w : World) (h0 : 0 < s.size) (hx : s[0].toNat = 92) : Calls Try.prog 24 #[.string s] w (Esc s.data.toList w) := by
  have H := Lib.hid (show uEsc s.data.toList = some (s[0].toNat, s.data.toList.drop 1) by
    have e0 := list_cons s h0
    generalize s.data.toList.drop 1 = t at e0
    rw [e0]; simp [uEsc, hx])
  have HLN := Lib.hid (show s.data.toList.length - (s.data.toList.drop 1).length = 1 by rw [List.length_drop, Array.length_toList]; show s.size - (s.size - 1) = 1; omega)
  have hz' : ((s.size : Int) == 0) = false := beq_eq_false_iff_ne.2 (by omega)
  have h0' : (0 : Int) < (s.size : Int) := by omega
  have e34 : ((s[0].toNat : Int) == 34) = false := by simp; omega
  have e92 : ((s[0].toNat : Int) == 92) = true := by simp; omega
  have e47 : ((s[0].toNat : Int) == 47) = false := by simp; omega
  have e98 : ((s[0].toNat : Int) == 98) = false := by simp; omega
  have e116 : ((s[0].toNat : Int) == 116) = false := by simp; omega
  have e110 : ((s[0].toNat : Int) == 110) = false := by simp; omega
  have e102 : ((s[0].toNat : Int) == 102) = false := by simp; omega
  have e114 : ((s[0].toNat : Int) == 114) = false := by simp; omega
  have e117 : ((s[0].toNat : Int) == 117) = false := by simp; omega
  have HX := Lib.hid hx
  clear hx
  go_enter Try.func24, Try.ntmps24
  go_wp2
  go_ret2
  exact Esc.yes H.out (show uBytes s[0].toNat = [s[0]] by unfold uBytes; rw [if_pos (by have := HX.out; omega), u8_eq (c := s[0]) (by have := HX.out; omega)]) rfl HLN.out rfl rfl

set_option maxRecDepth 100000 in
set_option maxHeartbeats 1000000 in
theorem resc_47 (s : ByteArray) (w : World) (h0 : 0 < s.size) (hx : s[0].toNat = 47) : Calls Try.prog 24 #[.string s] w (Esc s.data.toList w) := by
  have H := Lib.hid (show uEsc s.data.toList = some (s[0].toNat, s.data.toList.drop 1) by
    have e0 := list_cons s h0
    generalize s.data.toList.drop 1 = t at e0
    rw [e0]; simp [uEsc, hx])
  have HLN := Lib.hid (show s.data.toList.length - (s.data.toList.drop 1).length = 1 by rw [List.length_drop, Array.length_toList]; show s.size - (s.size - 1) = 1; omega)
  have hz' : ((s.size : Int) == 0) = false := beq_eq_false_iff_ne.2 (by omega)
  have h0' : (0 : Int) < (s.size : Int) := by omega
  have e34 : ((s[0].toNat : Int) == 34) = false := by simp; omega
  have e92 : ((s[0].toNat : Int) == 92) = false := by simp; omega
  have e47 : ((s[0].toNat : Int) == 47) = true := by simp; omega
  have e98 : ((s[0].toNat : Int) == 98) = false := by simp; omega
  have e116 : ((s[0].toNat : Int) == 116) = false := by simp; omega
  have e110 : ((s[0].toNat : Int) == 110) = false := by simp; omega
  have e102 : ((s[0].toNat : Int) == 102) = false := by simp; omega
  have e114 : ((s[0].toNat : Int) == 114) = false := by simp; omega
  have e117 : ((s[0].toNat : Int) == 117) = false := by simp; omega
  have HX := Lib.hid hx
  clear hx
  go_enter Try.func24, Try.ntmps24
  go_wp2
  go_ret2
  exact Esc.yes H.out (show uBytes s[0].toNat = [s[0]] by unfold uBytes; rw [if_pos (by have := HX.out; omega), u8_eq (c := s[0]) (by have := HX.out; omega)]) rfl HLN.out rfl rfl

set_option maxRecDepth 100000 in
set_option maxHeartbeats 1000000 in
theorem resc_98 (s : ByteArray) (w : World) (h0 : 0 < s.size) (hx : s[0].toNat = 98) : Calls Try.prog 24 #[.string s] w (Esc s.data.toList w) := by
  have H := Lib.hid (show uEsc s.data.toList = some (8, s.data.toList.drop 1) by
    have e0 := list_cons s h0
    generalize s.data.toList.drop 1 = t at e0
    rw [e0]; simp [uEsc, hx])
  have HLN := Lib.hid (show s.data.toList.length - (s.data.toList.drop 1).length = 1 by rw [List.length_drop, Array.length_toList]; show s.size - (s.size - 1) = 1; omega)
  have hz' : ((s.size : Int) == 0) = false := beq_eq_false_iff_ne.2 (by omega)
  have h0' : (0 : Int) < (s.size : Int) := by omega
  have e34 : ((s[0].toNat : Int) == 34) = false := by simp; omega
  have e92 : ((s[0].toNat : Int) == 92) = false := by simp; omega
  have e47 : ((s[0].toNat : Int) == 47) = false := by simp; omega
  have e98 : ((s[0].toNat : Int) == 98) = true := by simp; omega
  have e116 : ((s[0].toNat : Int) == 116) = false := by simp; omega
  have e110 : ((s[0].toNat : Int) == 110) = false := by simp; omega
  have e102 : ((s[0].toNat : Int) == 102) = false := by simp; omega
  have e114 : ((s[0].toNat : Int) == 114) = false := by simp; omega
  have e117 : ((s[0].toNat : Int) == 117) = false := by simp; omega
  have HX := Lib.hid hx
  clear hx
  go_enter Try.func24, Try.ntmps24
  go_wp2
  go_ret2
  exact Esc.yes H.out (show uBytes 8 = [8] by decide) rfl HLN.out rfl rfl

set_option maxRecDepth 100000 in
set_option maxHeartbeats 1000000 in
theorem resc_116 (s : ByteArray) (w : World) (h0 : 0 < s.size) (hx : s[0].toNat = 116) : Calls Try.prog 24 #[.string s] w (Esc s.data.toList w) := by
  have H := Lib.hid (show uEsc s.data.toList = some (9, s.data.toList.drop 1) by
    have e0 := list_cons s h0
    generalize s.data.toList.drop 1 = t at e0
    rw [e0]; simp [uEsc, hx])
  have HLN := Lib.hid (show s.data.toList.length - (s.data.toList.drop 1).length = 1 by rw [List.length_drop, Array.length_toList]; show s.size - (s.size - 1) = 1; omega)
  have hz' : ((s.size : Int) == 0) = false := beq_eq_false_iff_ne.2 (by omega)
  have h0' : (0 : Int) < (s.size : Int) := by omega
  have e34 : ((s[0].toNat : Int) == 34) = false := by simp; omega
  have e92 : ((s[0].toNat : Int) == 92) = false := by simp; omega
  have e47 : ((s[0].toNat : Int) == 47) = false := by simp; omega
  have e98 : ((s[0].toNat : Int) == 98) = false := by simp; omega
  have e116 : ((s[0].toNat : Int) == 116) = true := by simp; omega
  have e110 : ((s[0].toNat : Int) == 110) = false := by simp; omega
  have e102 : ((s[0].toNat : Int) == 102) = false := by simp; omega
  have e114 : ((s[0].toNat : Int) == 114) = false := by simp; omega
  have e117 : ((s[0].toNat : Int) == 117) = false := by simp; omega
  have HX := Lib.hid hx
  clear hx
  go_enter Try.func24, Try.ntmps24
  go_wp2
  go_ret2
  exact Esc.yes H.out (show uBytes 9 = [9] by decide) rfl HLN.out rfl rfl

set_option maxRecDepth 100000 in
set_option maxHeartbeats 1000000 in
theorem resc_110 (s : ByteArray) (w : World) (h0 : 0 < s.size) (hx : s[0].toNat = 110) : Calls Try.prog 24 #[.string s] w (Esc s.data.toList w) := by
  have H := Lib.hid (show uEsc s.data.toList = some (10, s.data.toList.drop 1) by
    have e0 := list_cons s h0
    generalize s.data.toList.drop 1 = t at e0
    rw [e0]; simp [uEsc, hx])
  have HLN := Lib.hid (show s.data.toList.length - (s.data.toList.drop 1).length = 1 by rw [List.length_drop, Array.length_toList]; show s.size - (s.size - 1) = 1; omega)
  have hz' : ((s.size : Int) == 0) = false := beq_eq_false_iff_ne.2 (by omega)
  have h0' : (0 : Int) < (s.size : Int) := by omega
  have e34 : ((s[0].toNat : Int) == 34) = false := by simp; omega
  have e92 : ((s[0].toNat : Int) == 92) = false := by simp; omega
  have e47 : ((s[0].toNat : Int) == 47) = false := by simp; omega
  have e98 : ((s[0].toNat : Int) == 98) = false := by simp; omega
  have e116 : ((s[0].toNat : Int) == 116) = false := by simp; omega
  have e110 : ((s[0].toNat : Int) == 110) = true := by simp; omega
  have e102 : ((s[0].toNat : Int) == 102) = false := by simp; omega
  have e114 : ((s[0].toNat : Int) == 114) = false := by simp; omega
  have e117 : ((s[0].toNat : Int) == 117) = false := by simp; omega
  have HX := Lib.hid hx
  clear hx
  go_enter Try.func24, Try.ntmps24
  go_wp2
  go_ret2
  exact Esc.yes H.out (show uBytes 10 = [10] by decide) rfl HLN.out rfl rfl

set_option maxRecDepth 100000 in
set_option maxHeartbeats 1000000 in
theorem resc_102 (s : ByteArray) (w : World) (h0 : 0 < s.size) (hx : s[0].toNat = 102) : Calls Try.prog 24 #[.string s] w (Esc s.data.toList w) := by
  have H := Lib.hid (show uEsc s.data.toList = some (12, s.data.toList.drop 1) by
    have e0 := list_cons s h0
    generalize s.data.toList.drop 1 = t at e0
    rw [e0]; simp [uEsc, hx])
  have HLN := Lib.hid (show s.data.toList.length - (s.data.toList.drop 1).length = 1 by rw [List.length_drop, Array.length_toList]; show s.size - (s.size - 1) = 1; omega)
  have hz' : ((s.size : Int) == 0) = false := beq_eq_false_iff_ne.2 (by omega)
  have h0' : (0 : Int) < (s.size : Int) := by omega
  have e34 : ((s[0].toNat : Int) == 34) = false := by simp; omega
  have e92 : ((s[0].toNat : Int) == 92) = false := by simp; omega
  have e47 : ((s[0].toNat : Int) == 47) = false := by simp; omega
  have e98 : ((s[0].toNat : Int) == 98) = false := by simp; omega
  have e116 : ((s[0].toNat : Int) == 116) = false := by simp; omega
  have e110 : ((s[0].toNat : Int) == 110) = false := by simp; omega
  have e102 : ((s[0].toNat : Int) == 102) = true := by simp; omega
  have e114 : ((s[0].toNat : Int) == 114) = false := by simp; omega
  have e117 : ((s[0].toNat : Int) == 117) = false := by simp; omega
  have HX := Lib.hid hx
  clear hx
  go_enter Try.func24, Try.ntmps24
  go_wp2
  go_ret2
  exact Esc.yes H.out (show uBytes 12 = [12] by decide) rfl HLN.out rfl rfl

set_option maxRecDepth 100000 in
set_option maxHeartbeats 1000000 in
theorem resc_114 (s : ByteArray) (w : World) (h0 : 0 < s.size) (hx : s[0].toNat = 114) : Calls Try.prog 24 #[.string s] w (Esc s.data.toList w) := by
  have H := Lib.hid (show uEsc s.data.toList = some (13, s.data.toList.drop 1) by
    have e0 := list_cons s h0
    generalize s.data.toList.drop 1 = t at e0
    rw [e0]; simp [uEsc, hx])
  have HLN := Lib.hid (show s.data.toList.length - (s.data.toList.drop 1).length = 1 by rw [List.length_drop, Array.length_toList]; show s.size - (s.size - 1) = 1; omega)
  have hz' : ((s.size : Int) == 0) = false := beq_eq_false_iff_ne.2 (by omega)
  have h0' : (0 : Int) < (s.size : Int) := by omega
  have e34 : ((s[0].toNat : Int) == 34) = false := by simp; omega
  have e92 : ((s[0].toNat : Int) == 92) = false := by simp; omega
  have e47 : ((s[0].toNat : Int) == 47) = false := by simp; omega
  have e98 : ((s[0].toNat : Int) == 98) = false := by simp; omega
  have e116 : ((s[0].toNat : Int) == 116) = false := by simp; omega
  have e110 : ((s[0].toNat : Int) == 110) = false := by simp; omega
  have e102 : ((s[0].toNat : Int) == 102) = false := by simp; omega
  have e114 : ((s[0].toNat : Int) == 114) = true := by simp; omega
  have e117 : ((s[0].toNat : Int) == 117) = false := by simp; omega
  have HX := Lib.hid hx
  clear hx
  go_enter Try.func24, Try.ntmps24
  go_wp2
  go_ret2
  exact Esc.yes H.out (show uBytes 13 = [13] by decide) rfl HLN.out rfl rfl

set_option maxRecDepth 100000 in
set_option maxHeartbeats 1000000 in
theorem resc_other (s : ByteArray) (w : World) (h0 : 0 < s.size) (h34 : s[0].toNat ≠ 34) (h92 : s[0].toNat ≠ 92) (h47 : s[0].toNat ≠ 47) (h98 : s[0].toNat ≠ 98) (h116 : s[0].toNat ≠ 116) (h110 : s[0].toNat ≠ 110) (h102 : s[0].toNat ≠ 102) (h114 : s[0].toNat ≠ 114) (h117 : s[0].toNat ≠ 117) : Calls Try.prog 24 #[.string s] w (Esc s.data.toList w) := by
  have H := Lib.hid (show uEsc s.data.toList = none by
    have e0 := list_cons s h0
    generalize s.data.toList.drop 1 = t at e0
    rw [e0]; simp [uEsc, h34, h92, h47, h98, h116, h110, h102, h114, h117])
  have hz' : ((s.size : Int) == 0) = false := beq_eq_false_iff_ne.2 (by omega)
  have h0' : (0 : Int) < (s.size : Int) := by omega
  have e34 : ((s[0].toNat : Int) == 34) = false := by simp; omega
  have e92 : ((s[0].toNat : Int) == 92) = false := by simp; omega
  have e47 : ((s[0].toNat : Int) == 47) = false := by simp; omega
  have e98 : ((s[0].toNat : Int) == 98) = false := by simp; omega
  have e116 : ((s[0].toNat : Int) == 116) = false := by simp; omega
  have e110 : ((s[0].toNat : Int) == 110) = false := by simp; omega
  have e102 : ((s[0].toNat : Int) == 102) = false := by simp; omega
  have e114 : ((s[0].toNat : Int) == 114) = false := by simp; omega
  have e117 : ((s[0].toNat : Int) == 117) = false := by simp; omega
  clear h34 h92 h47 h98 h116 h110 h102 h114 h117
  go_enter Try.func24, Try.ntmps24
  go_wp2
  go_ret2
  exact Esc.no H.out

theorem esc_u (s : ByteArray) (h0 : 0 < s.size) (hx : s[0].toNat = 117) : uEsc s.data.toList = uNum (s.data.toList.drop 1) := by
  have e0 := list_cons s h0
  generalize s.data.toList.drop 1 = t at e0 ⊢
  rw [e0]; simp [uEsc, hx]
set_option maxRecDepth 100000 in
set_option maxHeartbeats 1000000 in
theorem resc_u_none (s : ByteArray) (w : World) (hs : s.size ≤ maxLen) (h0 : 0 < s.size) (hx : s[0].toNat = 117) (hd : uDigs 4 0 (s.data.toList.drop 1) = none) : Calls Try.prog 24 #[.string s] w (Esc s.data.toList w) := by
  have H := Lib.hid (show uEsc s.data.toList = none by rw [esc_u s h0 hx]; unfold uNum; rw [hd])
  obtain ⟨x, hxx⟩ : ∃ x : Int, x = -1 := ⟨_, rfl⟩
  have HXI := Lib.hid (show uHexI (s.data.toList.drop 1) = x by rw [uHexI_none hd, hxx])
  have HX := Lib.hid hxx
  clear hd hxx
  have hz' : ((s.size : Int) == 0) = false := beq_eq_false_iff_ne.2 (by omega)
  have h0' : (0 : Int) < (s.size : Int) := by omega
  have h1' : (1 : Int) ≤ (s.size : Int) := by omega
  have e34 : ((s[0].toNat : Int) == 34) = false := by simp; omega
  have e92 : ((s[0].toNat : Int) == 92) = false := by simp; omega
  have e47 : ((s[0].toNat : Int) == 47) = false := by simp; omega
  have e98 : ((s[0].toNat : Int) == 98) = false := by simp; omega
  have e116 : ((s[0].toNat : Int) == 116) = false := by simp; omega
  have e110 : ((s[0].toNat : Int) == 110) = false := by simp; omega
  have e102 : ((s[0].toNat : Int) == 102) = false := by simp; omega
  have e114 : ((s[0].toNat : Int) == 114) = false := by simp; omega
  have e117 : ((s[0].toNat : Int) == 117) = true := by simp; omega
  clear hx
  go_enter Try.func24, Try.ntmps24
  go_wp2_with fail
  refine (hex4_at (s.extract 1 s.size) _ x _ (by rw [ByteArray.size_extract]; unfold maxLen at hs ⊢; omega) (ext_drop' s 1) HXI.out).mono ?_
  rintro e w1 ⟨rfl, rfl⟩
  go_wp2_with fail
  all_goals first
    | (exfalso; have q1 := HX.out; omega)
    | skip
  all_goals
    go_ret2
    exact Esc.no H.out

set_option maxRecDepth 100000 in
set_option maxHeartbeats 1000000 in
theorem resc_u_bad (s : ByteArray) (w : World) (hs : s.size ≤ maxLen) (h0 : 0 < s.size) (hx : s[0].toNat = 117) (r : Nat) (u : List UInt8) (hd : uDigs 4 0 (s.data.toList.drop 1) = some (r, u)) (hr : 56320 ≤ r ∧ r < 57344) : Calls Try.prog 24 #[.string s] w (Esc s.data.toList w) := by
  have H := Lib.hid (show uEsc s.data.toList = none by
    rw [esc_u s h0 hx]; unfold uNum; rw [hd]; simp only
    rw [if_pos (by simp only [uSur, Bool.and_eq_true, decide_eq_true_eq]; omega), if_pos hr.1])
  obtain ⟨x, hxx⟩ : ∃ x : Int, x = (r : Int) := ⟨_, rfl⟩
  have HXI := Lib.hid (show uHexI (s.data.toList.drop 1) = x by rw [uHexI_some hd, hxx])
  have HX := Lib.hid hxx
  have HR := Lib.hid hr
  clear hd hxx hr
  have hz' : ((s.size : Int) == 0) = false := beq_eq_false_iff_ne.2 (by omega)
  have h0' : (0 : Int) < (s.size : Int) := by omega
  have h1' : (1 : Int) ≤ (s.size : Int) := by omega
  have e34 : ((s[0].toNat : Int) == 34) = false := by simp; omega
  have e92 : ((s[0].toNat : Int) == 92) = false := by simp; omega
  have e47 : ((s[0].toNat : Int) == 47) = false := by simp; omega
  have e98 : ((s[0].toNat : Int) == 98) = false := by simp; omega
  have e116 : ((s[0].toNat : Int) == 116) = false := by simp; omega
  have e110 : ((s[0].toNat : Int) == 110) = false := by simp; omega
  have e102 : ((s[0].toNat : Int) == 102) = false := by simp; omega
  have e114 : ((s[0].toNat : Int) == 114) = false := by simp; omega
  have e117 : ((s[0].toNat : Int) == 117) = true := by simp; omega
  clear hx
  go_enter Try.func24, Try.ntmps24
  go_wp2_with fail
  refine (hex4_at (s.extract 1 s.size) _ x _ (by rw [ByteArray.size_extract]; unfold maxLen at hs ⊢; omega) (ext_drop' s 1) HXI.out).mono ?_
  rintro e w1 ⟨rfl, rfl⟩
  go_wp2_with fail
  all_goals first
    | (exfalso; have q1 := HX.out; have q2 := HR.out; omega)
    | skip
  all_goals
    go_ret2
    exact Esc.no H.out

set_option maxRecDepth 100000 in
set_option maxHeartbeats 1000000 in
theorem resc_u_one (s : ByteArray) (w : World) (hs : s.size ≤ maxLen) (h0 : 0 < s.size) (hx : s[0].toNat = 117) (r : Nat) (u : List UInt8) (hd : uDigs 4 0 (s.data.toList.drop 1) = some (r, u)) (hr : r < 55296 ∨ 57344 ≤ r) : Calls Try.prog 24 #[.string s] w (Esc s.data.toList w) := by
  have hr16 := uDigs_lt _ _ _ _ _ hd
  have hud := uDigs_drop _ _ _ _ _ hd
  have H := Lib.hid (show uEsc s.data.toList = some (r, u) by
    rw [esc_u s h0 hx]; unfold uNum; rw [hd]; simp only
    rw [if_neg (by simp only [uSur, Bool.and_eq_true, decide_eq_true_eq]; omega)])
  have HLN := Lib.hid (show s.data.toList.length - u.length = 5 by
    have e1 := hud.2
    rw [hud.1]
    rw [List.length_drop] at e1
    simp only [List.length_drop]; omega)
  obtain ⟨x, hxx⟩ : ∃ x : Int, x = (r : Int) := ⟨_, rfl⟩
  have HXI := Lib.hid (show uHexI (s.data.toList.drop 1) = x by rw [uHexI_some hd, hxx])
  have HX := Lib.hid hxx
  have HR := Lib.hid hr
  have HR1 := Lib.hid (show r ≤ 1114111 by omega)
  clear hd hxx hr hr16 hud
  have hz' : ((s.size : Int) == 0) = false := beq_eq_false_iff_ne.2 (by omega)
  have h0' : (0 : Int) < (s.size : Int) := by omega
  have h1' : (1 : Int) ≤ (s.size : Int) := by omega
  have e34 : ((s[0].toNat : Int) == 34) = false := by simp; omega
  have e92 : ((s[0].toNat : Int) == 92) = false := by simp; omega
  have e47 : ((s[0].toNat : Int) == 47) = false := by simp; omega
  have e98 : ((s[0].toNat : Int) == 98) = false := by simp; omega
  have e116 : ((s[0].toNat : Int) == 116) = false := by simp; omega
  have e110 : ((s[0].toNat : Int) == 110) = false := by simp; omega
  have e102 : ((s[0].toNat : Int) == 102) = false := by simp; omega
  have e114 : ((s[0].toNat : Int) == 114) = false := by simp; omega
  have e117 : ((s[0].toNat : Int) == 117) = true := by simp; omega
  clear hx
  go_enter Try.func24, Try.ntmps24
  go_wp2_with fail
  refine (hex4_at (s.extract 1 s.size) _ x _ (by rw [ByteArray.size_extract]; unfold maxLen at hs ⊢; omega) (ext_drop' s 1) HXI.out).mono ?_
  rintro e w1 ⟨rfl, rfl⟩
  go_wp2_with fail
  all_goals first
    | (exfalso; have q1 := HX.out; have q2 := HR.out; omega)
    | skip
  all_goals
    refine (encode_any r _ _ HR1.out HX.out).mono ?_
    rintro e w2 ⟨rfl, rfl⟩
    go_wp2
    go_ret2
    exact Esc.yes H.out rfl rfl HLN.out rfl rfl

end Go.Proofs.Ytomdkkmfgeajgaa
