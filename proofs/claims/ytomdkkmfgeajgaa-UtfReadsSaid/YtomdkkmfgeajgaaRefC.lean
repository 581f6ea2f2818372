/-
  What hex4 and encode of the document's own answers (package introitref1) answer.
  Conditions: the string is no longer than the form's own bound on lengths; the code point is one.
-/
import Derived.Test.YtomdkkmfgeajgaaRefA
namespace Go.Proofs.Ytomdkkmfgeajgaa
open Go.RowKit

def uHexI (l : List UInt8) : Int := match uDigs 4 0 l with
  | some (r, _) => (r : Int)
  | none => -1
theorem uDigs_short : ∀ (n r : Nat) (l : List UInt8), l.length < n → uDigs n r l = none
  | 0, _, _, h => by omega
  | n + 1, r, [], _ => rfl
  | n + 1, r, c :: t, h => by
    simp only [uDigs]
    cases uDigit c.toNat with
    | none => rfl
    | some d => exact uDigs_short n _ t (by simp at h; omega)

def HRel (s : ByteArray) (i q : Nat) : Prop := i ≤ 4 ∧ q < 16 ^ i ∧ uDigs (4 - i) q (s.data.toList.drop i) = uDigs 4 0 s.data.toList
theorem h_step {s : ByteArray} {i q d : Nat} (hi : i < 4) (hs : i < s.size) (h : HRel s i q) (hd : uDigit s[i].toNat = some d) : HRel s (i + 1) (q * 16 + d) := by
  obtain ⟨a1, a2, a3⟩ := h
  have h16 := uDigit_lt hd
  refine ⟨hi, by rw [Nat.pow_succ]; omega, ?_⟩
  obtain ⟨m, hm⟩ : ∃ m, 4 - i = m + 1 := ⟨4 - i - 1, by omega⟩
  rw [← a3, drop_at s i hs, hm, show 4 - (i + 1) = m by omega]
  simp only [uDigs, hd]
theorem h_bad {s : ByteArray} {i q : Nat} (hi : i < 4) (hs : i < s.size) (h : HRel s i q) (hd : uDigit s[i].toNat = none) : uHexI s.data.toList = -1 := by
  obtain ⟨a1, a2, a3⟩ := h
  obtain ⟨m, hm⟩ : ∃ m, 4 - i = m + 1 := ⟨4 - i - 1, by omega⟩
  unfold uHexI
  rw [← a3, drop_at s i hs, hm]
  simp only [uDigs, hd]
theorem h_end {s : ByteArray} {i q : Nat} (hi : ¬ i < 4) (h : HRel s i q) : uHexI s.data.toList = (q : Int) := by
  obtain ⟨a1, a2, a3⟩ := h
  have e : i = 4 := by omega
  subst e
  unfold uHexI
  rw [← a3]; rfl

set_option maxRecDepth 100000 in
set_option maxHeartbeats 1000000 in
theorem hex4_any (s : ByteArray) (w : World) (hs : s.size ≤ maxLen) :
    Calls Try.prog 27 #[.string s] w fun e w' => e = .returned (.int .i64 (uHexI s.data.toList)) ∧ w = w' := by
  have hs' : s.size ≤ 9223372036854775807 := hs
  by_cases h4 : s.size < 4
  · have H := Lib.hid (show uHexI s.data.toList = -1 by unfold uHexI; rw [uDigs_short 4 0 _ (by rw [Array.length_toList]; exact h4)])
    go_enter Try.func27, Try.ntmps27
    go_wp2
    go_ret
    exact ⟨ret_i H.out.symm, rfl⟩
  · go_enter Try.func27, Try.ntmps27
    go_wp2_with fail
    go_loop [3, 4] (fun v j => ∃ i q : Nat, v = .int .i64 q ∧ j = .int .i64 i ∧ HRel s i q) (fun _ j => 4 - (intOf j).toNat)
    case atStart => exact ⟨0, 0, rfl, rfl, by omega, by omega, by rw [List.drop_zero]⟩
    case round =>
      obtain ⟨i, q, rfl, rfl, hrel⟩ := hrel
      have HR := Lib.hid hrel
      obtain ⟨a1, a2, _⟩ := hrel
      by_cases hlt : i < 4
      · have hq' : q < 65536 := by
          have : 16 ^ i ≤ 16 ^ 4 := Nat.pow_le_pow_right (by omega) (by omega)
          omega
        have hsi : i < s.size := by omega
        have hlt' : (i : Int) < 4 := by omega
        have hc256 : (s[i].toNat : Int) < 256 := by have := s[i].toNat_lt; omega
        clear a1 a2
        by_cases c1 : 48 ≤ s[i].toNat ∧ s[i].toNat ≤ 57
        · obtain ⟨c1, c2⟩ := c1
          have hd := (show uDigit s[i].toNat = some (s[i].toNat - 48) by unfold uDigit; rw [if_pos ⟨c1, c2⟩])
          have R := Lib.hid (h_step hlt hsi HR.out hd)
          have g1 : (48 : Int) ≤ (s[i].toNat : Int) := by omega
          have g2 : (s[i].toNat : Int) ≤ 57 := by omega
          clear hd
          go_wp2
          go_round
          case rel => exact ⟨i + 1, q * 16 + (s[i].toNat - 48), by go_num, by go_num, R.out⟩
          case measure => simp [intOf]; omega
        by_cases c2 : 97 ≤ s[i].toNat ∧ s[i].toNat ≤ 102
        · obtain ⟨c3, c4⟩ := c2
          have hd := (show uDigit s[i].toNat = some (s[i].toNat - 87) by unfold uDigit; rw [if_neg (by omega), if_pos ⟨c3, c4⟩])
          have R := Lib.hid (h_step hlt hsi HR.out hd)
          have g1 : (97 : Int) ≤ (s[i].toNat : Int) := by omega
          have g2 : (s[i].toNat : Int) ≤ 102 := by omega
          clear hd
          go_wp2
          go_round
          case rel => exact ⟨i + 1, q * 16 + (s[i].toNat - 87), by go_num, by go_num, R.out⟩
          case measure => simp [intOf]; omega
        by_cases c3 : 65 ≤ s[i].toNat ∧ s[i].toNat ≤ 70
        · obtain ⟨c4, c5⟩ := c3
          have hd := (show uDigit s[i].toNat = some (s[i].toNat - 55) by unfold uDigit; rw [if_neg (by omega), if_neg (by omega), if_pos ⟨c4, c5⟩])
          have R := Lib.hid (h_step hlt hsi HR.out hd)
          have g1 : (65 : Int) ≤ (s[i].toNat : Int) := by omega
          have g2 : (s[i].toNat : Int) ≤ 70 := by omega
          clear hd
          go_wp2
          go_round
          case rel => exact ⟨i + 1, q * 16 + (s[i].toNat - 55), by go_num, by go_num, R.out⟩
          case measure => simp [intOf]; omega
        · have hd : uDigit s[i].toNat = none := by unfold uDigit; rw [if_neg c1, if_neg c2, if_neg c3]
          have R := Lib.hid (h_bad hlt hsi HR.out hd)
          rcases (show s[i].toNat < 48 ∨ (57 < s[i].toNat ∧ s[i].toNat < 65) ∨ (70 < s[i].toNat ∧ s[i].toNat < 97) ∨ 102 < s[i].toNat by omega) with g | ⟨g, g'⟩ | ⟨g, g'⟩ | g
          all_goals
            clear c1 c2 c3 hd
            go_wp2
            go_ret
            exact ⟨ret_i R.out.symm, rfl⟩
      · have R := Lib.hid (h_end hlt HR.out)
        clear a2
        go_wp2
        go_ret
        exact ⟨ret_i R.out.symm, rfl⟩

theorem or_at (k : Nat) (b x : Nat) (i : Nat) (hb : b % 2 ^ i = 0) (hx : x < 2 ^ i) (hb2 : b < 256) (hs : b + x < 256) (hk : k = b + x) : bits .or .i64 (b : Int) (x : Int) = (k : Int) := by
  have hx2 : x < 256 := by omega
  have e := bits_join .i64 63 (by decide) (fun n h0 h1 => wrap_small n h0 (by simpa using h1)) i (b : Int) (x : Int) (by omega) (by exact_mod_cast hb) (by omega) (by omega) (by exact_mod_cast hx) (by omega)
  rw [e]; omega
theorem mask63 (m : Nat) (h : m < 2097152) : bits .and .i64 (m : Int) 63 = ((m % 64 : Nat) : Int) := by
  have e := bits_mask .i64 63 (by decide) (fun n h0 h1 => wrap_small n h0 (by simpa using h1)) 6 (by decide) (m : Int) (by omega) (by omega)
  have e2 : bits .and .i64 (m : Int) 63 = (m : Int) % 64 := e
  rw [e2]; omega
theorem byte_at (n : Nat) (h : n < 256) : ((UInt8.ofNat n).toNat : Int) = (n : Int) := by rw [UInt8.toNat_ofNat']; omega

def Enc (c : Nat) (w : World) (e : Ending) (w' : World) : Prop :=
  e = .returned (.slice (some ⟨w.heap.size, 0, none⟩) (uBytes c).length (uBytes c).length) ∧ w' = w.alloc (.cells (byteVals (uBytes c)).toArray 5)

theorem Enc.mk {c n : Nat} {w : World} {ys : List UInt8} {vs : Array Value} (hb : uBytes c = ys) (hn : ys.length = n) (hv : vs = (byteVals ys).toArray) : Enc c w (.returned (.slice (some ⟨w.heap.size, 0, none⟩) n n)) (w.alloc (.cells vs 5)) := by
  subst hn hv hb; exact ⟨rfl, rfl⟩
theorem arr1 {a : Int} {x : UInt8} (h : a = (x.toNat : Int)) : #[Value.int .u8 a] = (byteVals [x]).toArray := by subst h; rfl
theorem arr2 {a b : Int} {x y : UInt8} (h : a = (x.toNat : Int)) (h2 : b = (y.toNat : Int)) : #[Value.int .u8 a, Value.int .u8 b] = (byteVals [x, y]).toArray := by subst h h2; rfl
theorem arr3 {a b c : Int} {x y z : UInt8} (h : a = (x.toNat : Int)) (h2 : b = (y.toNat : Int)) (h3 : c = (z.toNat : Int)) : #[Value.int .u8 a, Value.int .u8 b, Value.int .u8 c] = (byteVals [x, y, z]).toArray := by subst h h2 h3; rfl
theorem arr4 {a b c d : Int} {x y z t : UInt8} (h : a = (x.toNat : Int)) (h2 : b = (y.toNat : Int)) (h3 : c = (z.toNat : Int)) (h4 : d = (t.toNat : Int)) : #[Value.int .u8 a, Value.int .u8 b, Value.int .u8 c, Value.int .u8 d] = (byteVals [x, y, z, t]).toArray := by subst h h2 h3 h4; rfl

theorem b1 (c : Nat) (h : c < 128) : (c : Int) % 256 = ((UInt8.ofNat c).toNat : Int) := by rw [byte_at c (by omega)]; omega
theorem b_or (b : Nat) (i : Nat) (x : Nat) (hb : b % 2 ^ i = 0) (hx : x < 2 ^ i) (hb2 : b < 256) (hs : b + x < 256) : bits .or .i64 (b : Int) (x : Int) % 256 = ((UInt8.ofNat (b + x)).toNat : Int) := by
  rw [or_at (b + x) b x i hb hx hb2 hs rfl, byte_at _ hs]; omega

theorem lo6 (m : Nat) (y : Int) (h : m < 2097152) (hy : y = (m : Int)) : bits .or .i64 128 (bits .and .i64 y 63) % 256 = ((UInt8.ofNat (128 + m % 64)).toNat : Int) := by
  subst hy
  rw [mask63 m h]
  exact b_or 128 6 (m % 64) (by decide) (by omega) (by decide) (by omega)
theorem hi5 (m : Nat) (y : Int) (h : m < 32) (hy : y = (m : Int)) : bits .or .i64 192 y % 256 = ((UInt8.ofNat (192 + m)).toNat : Int) := by
  subst hy; exact b_or 192 5 m (by decide) (by omega) (by decide) (by omega)
theorem hi4 (m : Nat) (y : Int) (h : m < 16) (hy : y = (m : Int)) : bits .or .i64 224 y % 256 = ((UInt8.ofNat (224 + m)).toNat : Int) := by
  subst hy; exact b_or 224 4 m (by decide) (by omega) (by decide) (by omega)
theorem hi3 (m : Nat) (y : Int) (h : m < 8) (hy : y = (m : Int)) : bits .or .i64 240 y % 256 = ((UInt8.ofNat (240 + m)).toNat : Int) := by
  subst hy; exact b_or 240 3 m (by decide) (by omega) (by decide) (by omega)

set_option maxRecDepth 100000 in
set_option maxHeartbeats 1000000 in
theorem encode_any (c : Nat) (x : Int) (w : World) (hc : c ≤ 1114111) (hx : x = (c : Int)) : Calls Try.prog 28 #[.int .i64 x] w (Enc c w) := by
  have HC := Lib.hid hc
  have HX := Lib.hid hx
  clear hc hx
  go_enter Try.func28, Try.ntmps28
  go_wp2
  · have h1 : x < 128 := by assumption
    have h2 := HX.out
    go_ret
    exact Enc.mk (ys := [UInt8.ofNat c]) (by unfold uBytes; rw [if_pos (by omega)]) rfl (arr1 (by rw [h2]; exact b1 c (by omega)))
  · have h1 : (128 : Int) ≤ x := by assumption
    have h2 : x < 2048 := by assumption
    have h3 := HX.out
    go_ret
    exact Enc.mk (ys := [UInt8.ofNat (192 + c / 64), UInt8.ofNat (128 + c % 64)]) (by unfold uBytes; rw [if_neg (by omega), if_pos (by omega)]) rfl (arr2 (hi5 (c / 64) _ (by omega) (by omega)) (lo6 c _ (by omega) (by omega)))
  · have h1 : (2048 : Int) ≤ x := by assumption
    have h2 : x < 65536 := by assumption
    have h3 := HX.out
    go_ret
    exact Enc.mk (ys := [UInt8.ofNat (224 + c / 4096), UInt8.ofNat (128 + c / 64 % 64), UInt8.ofNat (128 + c % 64)]) (by unfold uBytes; rw [if_neg (by omega), if_neg (by omega), if_pos (by omega)]) rfl (arr3 (hi4 (c / 4096) _ (by omega) (by omega)) (lo6 (c / 64) _ (by omega) (by omega)) (lo6 c _ (by omega) (by omega)))
  · have h1 : (65536 : Int) ≤ x := by assumption
    have h2 := HC.out
    have h3 := HX.out
    go_ret
    exact Enc.mk (ys := [UInt8.ofNat (240 + c / 262144), UInt8.ofNat (128 + c / 4096 % 64), UInt8.ofNat (128 + c / 64 % 64), UInt8.ofNat (128 + c % 64)]) (by unfold uBytes; rw [if_neg (by omega), if_neg (by omega), if_neg (by omega)]) rfl (arr4 (hi3 (c / 262144) _ (by omega) (by omega)) (lo6 (c / 4096) _ (by omega) (by omega)) (lo6 (c / 64) _ (by omega) (by omega)) (lo6 c _ (by omega) (by omega)))

end Go.Proofs.Ytomdkkmfgeajgaa
