/-
  What escape and symbol of package utf answer.
  Conditions: the cursor's block is known whole; the string is no longer than the form's own bound on lengths.
-/
import Derived.Test.YtghkfbhmabnecaaUtfD
import Derived.Test.YtghkfbhmabnecaaUtfF
namespace Go.Proofs.Ytghkfbhmabnecaa
open Go.RowKit

set_option maxRecDepth 100000 in
set_option maxHeartbeats 1000000 in
theorem esc_nil (b : Nat) (s : ByteArray) (w : World) (hc : Cur w b s []) :
    Calls Try.prog 153 #[.func (.func 120) #[.pointer (some ⟨b, 0, none⟩)] #[]] w (Read b s w (uEsc [])) := by
  have HB := Lib.hid (show uEsc [] = none from rfl)
  go_enter Try.func153, Try.ntmps153
  go_wp2_with fail
  refine (next_none b s _ hc).mono ?_
  rintro e w1 ⟨rfl, hcur1, honly1⟩
  go_wp2
  go_ret2
  exact Read.no HB.out honly1

set_option maxRecDepth 100000 in
set_option maxHeartbeats 1000000 in
theorem esc_34 (b : Nat) (s : ByteArray) (x : UInt8) (t : List UInt8) (w : World) (hs : s.size ≤ maxLen) (hc : Cur w b s (x :: t)) (hx : x.toNat = 34) :
    Calls Try.prog 153 #[.func (.func 120) #[.pointer (some ⟨b, 0, none⟩)] #[]] w (Read b s w (uEsc (x :: t))) := by
  have HB := Lib.hid (show uEsc (x :: t) = some (34, t) by simp [uEsc, hx])
  have e34 : ((x.toNat : Int) == 34) = true := by simp; omega
  have e92 : ((x.toNat : Int) == 92) = false := by simp; omega
  have e47 : ((x.toNat : Int) == 47) = false := by simp; omega
  have e98 : ((x.toNat : Int) == 98) = false := by simp; omega
  have e116 : ((x.toNat : Int) == 116) = false := by simp; omega
  have e110 : ((x.toNat : Int) == 110) = false := by simp; omega
  have e102 : ((x.toNat : Int) == 102) = false := by simp; omega
  have e114 : ((x.toNat : Int) == 114) = false := by simp; omega
  have e117 : ((x.toNat : Int) == 117) = false := by simp; omega
  have HX := Lib.hid hx
  clear hx
  go_enter Try.func153, Try.ntmps153
  go_wp2_with fail
  refine (next_some b s x t _ hs hc).mono ?_
  rintro e w1 ⟨rfl, hcur1, honly1⟩
  go_wp2
  go_ret2
  exact Read.yes HB.out (by first | rfl | (have := HX.out; unfold wrap32; omega)) honly1 hcur1

set_option maxRecDepth 100000 in
set_option maxHeartbeats 1000000 in
theorem esc_92 (b : Nat) (s : ByteArray) (x : UInt8) (t : List UInt8) (w : World) (hs : s.size ≤ maxLen) (hc : Cur w b s (x :: t)) (hx : x.toNat = 92) :
    Calls Try.prog 153 #[.func (.func 120) #[.pointer (some ⟨b, 0, none⟩)] #[]] w (Read b s w (uEsc (x :: t))) := by
  have HB := Lib.hid (show uEsc (x :: t) = some (92, t) by simp [uEsc, hx])
  have e34 : ((x.toNat : Int) == 34) = false := by simp; omega
  have e92 : ((x.toNat : Int) == 92) = true := by simp; omega
  have e47 : ((x.toNat : Int) == 47) = false := by simp; omega
  have e98 : ((x.toNat : Int) == 98) = false := by simp; omega
  have e116 : ((x.toNat : Int) == 116) = false := by simp; omega
  have e110 : ((x.toNat : Int) == 110) = false := by simp; omega
  have e102 : ((x.toNat : Int) == 102) = false := by simp; omega
  have e114 : ((x.toNat : Int) == 114) = false := by simp; omega
  have e117 : ((x.toNat : Int) == 117) = false := by simp; omega
  have HX := Lib.hid hx
  clear hx
  go_enter Try.func153, Try.ntmps153
  go_wp2_with fail
  refine (next_some b s x t _ hs hc).mono ?_
  rintro e w1 ⟨rfl, hcur1, honly1⟩
  go_wp2
  go_ret2
  exact Read.yes HB.out (by first | rfl | (have := HX.out; unfold wrap32; omega)) honly1 hcur1

set_option maxRecDepth 100000 in
set_option maxHeartbeats 1000000 in
theorem esc_47 (b : Nat) (s : ByteArray) (x : UInt8) (t : List UInt8) (w : World) (hs : s.size ≤ maxLen) (hc : Cur w b s (x :: t)) (hx : x.toNat = 47) :
    Calls Try.prog 153 #[.func (.func 120) #[.pointer (some ⟨b, 0, none⟩)] #[]] w (Read b s w (uEsc (x :: t))) := by
  have HB := Lib.hid (show uEsc (x :: t) = some (47, t) by simp [uEsc, hx])
  have e34 : ((x.toNat : Int) == 34) = false := by simp; omega
  have e92 : ((x.toNat : Int) == 92) = false := by simp; omega
  have e47 : ((x.toNat : Int) == 47) = true := by simp; omega
  have e98 : ((x.toNat : Int) == 98) = false := by simp; omega
  have e116 : ((x.toNat : Int) == 116) = false := by simp; omega
  have e110 : ((x.toNat : Int) == 110) = false := by simp; omega
  have e102 : ((x.toNat : Int) == 102) = false := by simp; omega
  have e114 : ((x.toNat : Int) == 114) = false := by simp; omega
  have e117 : ((x.toNat : Int) == 117) = false := by simp; omega
  have HX := Lib.hid hx
  clear hx
  go_enter Try.func153, Try.ntmps153
  go_wp2_with fail
  refine (next_some b s x t _ hs hc).mono ?_
  rintro e w1 ⟨rfl, hcur1, honly1⟩
  go_wp2
  go_ret2
  exact Read.yes HB.out (by first | rfl | (have := HX.out; unfold wrap32; omega)) honly1 hcur1

set_option maxRecDepth 100000 in
set_option maxHeartbeats 1000000 in
theorem esc_98 (b : Nat) (s : ByteArray) (x : UInt8) (t : List UInt8) (w : World) (hs : s.size ≤ maxLen) (hc : Cur w b s (x :: t)) (hx : x.toNat = 98) :
    Calls Try.prog 153 #[.func (.func 120) #[.pointer (some ⟨b, 0, none⟩)] #[]] w (Read b s w (uEsc (x :: t))) := by
  have HB := Lib.hid (show uEsc (x :: t) = some (8, t) by simp [uEsc, hx])
  have e34 : ((x.toNat : Int) == 34) = false := by simp; omega
  have e92 : ((x.toNat : Int) == 92) = false := by simp; omega
  have e47 : ((x.toNat : Int) == 47) = false := by simp; omega
  have e98 : ((x.toNat : Int) == 98) = true := by simp; omega
  have e116 : ((x.toNat : Int) == 116) = false := by simp; omega
  have e110 : ((x.toNat : Int) == 110) = false := by simp; omega
  have e102 : ((x.toNat : Int) == 102) = false := by simp; omega
  have e114 : ((x.toNat : Int) == 114) = false := by simp; omega
  have e117 : ((x.toNat : Int) == 117) = false := by simp; omega
  have HX := Lib.hid hx
  clear hx
  go_enter Try.func153, Try.ntmps153
  go_wp2_with fail
  refine (next_some b s x t _ hs hc).mono ?_
  rintro e w1 ⟨rfl, hcur1, honly1⟩
  go_wp2
  go_ret2
  exact Read.yes HB.out (by first | rfl | (have := HX.out; unfold wrap32; omega)) honly1 hcur1

set_option maxRecDepth 100000 in
set_option maxHeartbeats 1000000 in
theorem esc_116 (b : Nat) (s : ByteArray) (x : UInt8) (t : List UInt8) (w : World) (hs : s.size ≤ maxLen) (hc : Cur w b s (x :: t)) (hx : x.toNat = 116) :
    Calls Try.prog 153 #[.func (.func 120) #[.pointer (some ⟨b, 0, none⟩)] #[]] w (Read b s w (uEsc (x :: t))) := by
  have HB := Lib.hid (show uEsc (x :: t) = some (9, t) by simp [uEsc, hx])
  have e34 : ((x.toNat : Int) == 34) = false := by simp; omega
  have e92 : ((x.toNat : Int) == 92) = false := by simp; omega
  have e47 : ((x.toNat : Int) == 47) = false := by simp; omega
  have e98 : ((x.toNat : Int) == 98) = false := by simp; omega
  have e116 : ((x.toNat : Int) == 116) = true := by simp; omega
  have e110 : ((x.toNat : Int) == 110) = false := by simp; omega
  have e102 : ((x.toNat : Int) == 102) = false := by simp; omega
  have e114 : ((x.toNat : Int) == 114) = false := by simp; omega
  have e117 : ((x.toNat : Int) == 117) = false := by simp; omega
  have HX := Lib.hid hx
  clear hx
  go_enter Try.func153, Try.ntmps153
  go_wp2_with fail
  refine (next_some b s x t _ hs hc).mono ?_
  rintro e w1 ⟨rfl, hcur1, honly1⟩
  go_wp2
  go_ret2
  exact Read.yes HB.out (by first | rfl | (have := HX.out; unfold wrap32; omega)) honly1 hcur1

set_option maxRecDepth 100000 in
set_option maxHeartbeats 1000000 in
theorem esc_110 (b : Nat) (s : ByteArray) (x : UInt8) (t : List UInt8) (w : World) (hs : s.size ≤ maxLen) (hc : Cur w b s (x :: t)) (hx : x.toNat = 110) :
    Calls Try.prog 153 #[.func (.func 120) #[.pointer (some ⟨b, 0, none⟩)] #[]] w (Read b s w (uEsc (x :: t))) := by
  have HB := Lib.hid (show uEsc (x :: t) = some (10, t) by simp [uEsc, hx])
  have e34 : ((x.toNat : Int) == 34) = false := by simp; omega
  have e92 : ((x.toNat : Int) == 92) = false := by simp; omega
  have e47 : ((x.toNat : Int) == 47) = false := by simp; omega
  have e98 : ((x.toNat : Int) == 98) = false := by simp; omega
  have e116 : ((x.toNat : Int) == 116) = false := by simp; omega
  have e110 : ((x.toNat : Int) == 110) = true := by simp; omega
  have e102 : ((x.toNat : Int) == 102) = false := by simp; omega
  have e114 : ((x.toNat : Int) == 114) = false := by simp; omega
  have e117 : ((x.toNat : Int) == 117) = false := by simp; omega
  have HX := Lib.hid hx
  clear hx
  go_enter Try.func153, Try.ntmps153
  go_wp2_with fail
  refine (next_some b s x t _ hs hc).mono ?_
  rintro e w1 ⟨rfl, hcur1, honly1⟩
  go_wp2
  go_ret2
  exact Read.yes HB.out (by first | rfl | (have := HX.out; unfold wrap32; omega)) honly1 hcur1

set_option maxRecDepth 100000 in
set_option maxHeartbeats 1000000 in
theorem esc_102 (b : Nat) (s : ByteArray) (x : UInt8) (t : List UInt8) (w : World) (hs : s.size ≤ maxLen) (hc : Cur w b s (x :: t)) (hx : x.toNat = 102) :
    Calls Try.prog 153 #[.func (.func 120) #[.pointer (some ⟨b, 0, none⟩)] #[]] w (Read b s w (uEsc (x :: t))) := by
  have HB := Lib.hid (show uEsc (x :: t) = some (12, t) by simp [uEsc, hx])
  have e34 : ((x.toNat : Int) == 34) = false := by simp; omega
  have e92 : ((x.toNat : Int) == 92) = false := by simp; omega
  have e47 : ((x.toNat : Int) == 47) = false := by simp; omega
  have e98 : ((x.toNat : Int) == 98) = false := by simp; omega
  have e116 : ((x.toNat : Int) == 116) = false := by simp; omega
  have e110 : ((x.toNat : Int) == 110) = false := by simp; omega
  have e102 : ((x.toNat : Int) == 102) = true := by simp; omega
  have e114 : ((x.toNat : Int) == 114) = false := by simp; omega
  have e117 : ((x.toNat : Int) == 117) = false := by simp; omega
  have HX := Lib.hid hx
  clear hx
  go_enter Try.func153, Try.ntmps153
  go_wp2_with fail
  refine (next_some b s x t _ hs hc).mono ?_
  rintro e w1 ⟨rfl, hcur1, honly1⟩
  go_wp2
  go_ret2
  exact Read.yes HB.out (by first | rfl | (have := HX.out; unfold wrap32; omega)) honly1 hcur1

set_option maxRecDepth 100000 in
set_option maxHeartbeats 1000000 in
theorem esc_114 (b : Nat) (s : ByteArray) (x : UInt8) (t : List UInt8) (w : World) (hs : s.size ≤ maxLen) (hc : Cur w b s (x :: t)) (hx : x.toNat = 114) :
    Calls Try.prog 153 #[.func (.func 120) #[.pointer (some ⟨b, 0, none⟩)] #[]] w (Read b s w (uEsc (x :: t))) := by
  have HB := Lib.hid (show uEsc (x :: t) = some (13, t) by simp [uEsc, hx])
  have e34 : ((x.toNat : Int) == 34) = false := by simp; omega
  have e92 : ((x.toNat : Int) == 92) = false := by simp; omega
  have e47 : ((x.toNat : Int) == 47) = false := by simp; omega
  have e98 : ((x.toNat : Int) == 98) = false := by simp; omega
  have e116 : ((x.toNat : Int) == 116) = false := by simp; omega
  have e110 : ((x.toNat : Int) == 110) = false := by simp; omega
  have e102 : ((x.toNat : Int) == 102) = false := by simp; omega
  have e114 : ((x.toNat : Int) == 114) = true := by simp; omega
  have e117 : ((x.toNat : Int) == 117) = false := by simp; omega
  have HX := Lib.hid hx
  clear hx
  go_enter Try.func153, Try.ntmps153
  go_wp2_with fail
  refine (next_some b s x t _ hs hc).mono ?_
  rintro e w1 ⟨rfl, hcur1, honly1⟩
  go_wp2
  go_ret2
  exact Read.yes HB.out (by first | rfl | (have := HX.out; unfold wrap32; omega)) honly1 hcur1

set_option maxRecDepth 100000 in
set_option maxHeartbeats 1000000 in
theorem esc_117 (b : Nat) (s : ByteArray) (x : UInt8) (t : List UInt8) (w : World) (hs : s.size ≤ maxLen) (hc : Cur w b s (x :: t)) (hx : x.toNat = 117) :
    Calls Try.prog 153 #[.func (.func 120) #[.pointer (some ⟨b, 0, none⟩)] #[]] w (Read b s w (uEsc (x :: t))) := by
  have HB := Lib.hid (show uNum t = uEsc (x :: t) by simp [uEsc, hx])
  have e34 : ((x.toNat : Int) == 34) = false := by simp; omega
  have e92 : ((x.toNat : Int) == 92) = false := by simp; omega
  have e47 : ((x.toNat : Int) == 47) = false := by simp; omega
  have e98 : ((x.toNat : Int) == 98) = false := by simp; omega
  have e116 : ((x.toNat : Int) == 116) = false := by simp; omega
  have e110 : ((x.toNat : Int) == 110) = false := by simp; omega
  have e102 : ((x.toNat : Int) == 102) = false := by simp; omega
  have e114 : ((x.toNat : Int) == 114) = false := by simp; omega
  have e117 : ((x.toNat : Int) == 117) = true := by simp; omega
  clear hx
  go_enter Try.func153, Try.ntmps153
  go_wp2_with fail
  refine (next_some b s x t _ hs hc).mono ?_
  rintro e w1 ⟨rfl, hcur1, honly1⟩
  go_wp2_with fail
  refine (num_at b s t _ _ hs hcur1 HB.out).mono ?_
  intro e w2 hrd
  obtain ⟨z, v, rfl, hrd1⟩ := hrd.pair
  clear hrd
  go_wp2
  go_ret2
  exact Read.after honly1 hrd1

set_option maxRecDepth 100000 in
set_option maxHeartbeats 1000000 in
theorem esc_other (b : Nat) (s : ByteArray) (x : UInt8) (t : List UInt8) (w : World) (hs : s.size ≤ maxLen) (hc : Cur w b s (x :: t)) (h34 : x.toNat ≠ 34) (h92 : x.toNat ≠ 92) (h47 : x.toNat ≠ 47) (h98 : x.toNat ≠ 98) (h116 : x.toNat ≠ 116) (h110 : x.toNat ≠ 110) (h102 : x.toNat ≠ 102) (h114 : x.toNat ≠ 114) (h117 : x.toNat ≠ 117) :
    Calls Try.prog 153 #[.func (.func 120) #[.pointer (some ⟨b, 0, none⟩)] #[]] w (Read b s w (uEsc (x :: t))) := by
  have HB := Lib.hid (show uEsc (x :: t) = none by simp [uEsc, h34, h92, h47, h98, h116, h110, h102, h114, h117])
  have e34 : ((x.toNat : Int) == 34) = false := by simp; omega
  have e92 : ((x.toNat : Int) == 92) = false := by simp; omega
  have e47 : ((x.toNat : Int) == 47) = false := by simp; omega
  have e98 : ((x.toNat : Int) == 98) = false := by simp; omega
  have e116 : ((x.toNat : Int) == 116) = false := by simp; omega
  have e110 : ((x.toNat : Int) == 110) = false := by simp; omega
  have e102 : ((x.toNat : Int) == 102) = false := by simp; omega
  have e114 : ((x.toNat : Int) == 114) = false := by simp; omega
  have e117 : ((x.toNat : Int) == 117) = false := by simp; omega
  clear h34 h92 h47 h98 h116 h110 h102 h114 h117
  go_enter Try.func153, Try.ntmps153
  go_wp2_with fail
  refine (next_some b s x t _ hs hc).mono ?_
  rintro e w1 ⟨rfl, hcur1, honly1⟩
  go_wp2
  go_ret2
  exact Read.no HB.out honly1

theorem esc_any (b : Nat) (s : ByteArray) (l : List UInt8) (w : World) (hs : s.size ≤ maxLen) (hc : Cur w b s l) :
    Calls Try.prog 153 #[.func (.func 120) #[.pointer (some ⟨b, 0, none⟩)] #[]] w (Read b s w (uEsc l)) := by
  cases l with
  | nil => exact esc_nil b s w hc
  | cons x t =>
    by_cases h34 : x.toNat = 34
    · exact esc_34 b s x t w hs hc h34
    by_cases h92 : x.toNat = 92
    · exact esc_92 b s x t w hs hc h92
    by_cases h47 : x.toNat = 47
    · exact esc_47 b s x t w hs hc h47
    by_cases h98 : x.toNat = 98
    · exact esc_98 b s x t w hs hc h98
    by_cases h116 : x.toNat = 116
    · exact esc_116 b s x t w hs hc h116
    by_cases h110 : x.toNat = 110
    · exact esc_110 b s x t w hs hc h110
    by_cases h102 : x.toNat = 102
    · exact esc_102 b s x t w hs hc h102
    by_cases h114 : x.toNat = 114
    · exact esc_114 b s x t w hs hc h114
    by_cases h117 : x.toNat = 117
    · exact esc_117 b s x t w hs hc h117
    exact esc_other b s x t w hs hc h34 h92 h47 h98 h116 h110 h102 h114 h117

set_option maxRecDepth 100000 in
set_option maxHeartbeats 1000000 in
theorem sym_any (b : Nat) (s : ByteArray) (c : UInt8) (l : List UInt8) (w : World) (hs : s.size ≤ maxLen) (hc : Cur w b s l) :
    Calls Try.prog 148 #[.int .u8 c.toNat, .func (.func 120) #[.pointer (some ⟨b, 0, none⟩)] #[]] w (Read b s w (uSym c l)) := by
  by_cases hx : c.toNat = 92
  · have e1 : ((c.toNat : Int) == 92) = true := by simp; omega
    have HB := Lib.hid (show uSym c l = uEsc l by simp [uSym, hx])
    clear hx
    go_enter Try.func148, Try.ntmps148
    go_wp2_with fail
    refine (esc_any b s l _ hs hc).mono ?_
    intro e w1 hrd
    rw [← HB.out] at hrd
    obtain ⟨z, v, rfl, hrd1⟩ := hrd.pair
    clear hrd
    go_wp2
    go_ret2
    exact hrd1
  · have e1 : ((c.toNat : Int) == 92) = false := by simp; omega
    have HB := Lib.hid (show uPoint c l = uSym c l by simp [uSym, hx])
    clear hx
    go_enter Try.func148, Try.ntmps148
    go_wp2_with fail
    refine (point_at b s c l _ _ hs hc HB.out).mono ?_
    intro e w1 hrd
    obtain ⟨z, v, rfl, hrd1⟩ := hrd.pair
    clear hrd
    go_wp2
    go_ret2
    exact hrd1

theorem sym_at (b : Nat) (s : ByteArray) (c : UInt8) (l : List UInt8) (o : Option (Nat × List UInt8)) (w : World) (hs : s.size ≤ maxLen) (hc : Cur w b s l) (h : uSym c l = o) :
    Calls Try.prog 148 #[.int .u8 c.toNat, .func (.func 120) #[.pointer (some ⟨b, 0, none⟩)] #[]] w (Read b s w o) := by
  subst h; exact sym_any b s c l w hs hc

end Go.Proofs.Ytghkfbhmabnecaa
