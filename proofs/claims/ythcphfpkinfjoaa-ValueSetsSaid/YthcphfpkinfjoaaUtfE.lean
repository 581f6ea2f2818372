/-
  What fourDigits, lowHalf, numbered, escape and symbol of package utf answer.
  What escape and symbol of package utf answer.
  Conditions: none.
-/
import Derived.Test.YthcphfpkinfjoaaUtfC
import Derived.Test.YthcphfpkinfjoaaUtfF
namespace Go.Proofs.Ythcphfpkinfjoaa
open Go.RowKit

theorem digit_yes (c d : Nat) (x : Int) (w : World) (hx : x = (c : Int)) (hc : c < 256) (h : uDigit c = some d) :
    Calls Try.prog 156 #[.int .u8 x] w fun e w' => e = .returned (.tuple #[.int .i32 (d : Int), .bool true]) ∧ w = w' := by
  subst hx
  refine (digit_any c w hc).mono ?_
  rintro e w' ⟨rfl, rfl⟩
  rw [h]; exact ⟨rfl, rfl⟩
theorem digit_no (c : Nat) (x : Int) (w : World) (hx : x = (c : Int)) (hc : c < 256) (h : uDigit c = none) :
    Calls Try.prog 156 #[.int .u8 x] w fun e w' => e = .returned (.tuple #[.int .i32 0, .bool false]) ∧ w = w' := by
  subst hx
  refine (digit_any c w hc).mono ?_
  rintro e w' ⟨rfl, rfl⟩
  rw [h]; exact ⟨rfl, rfl⟩
theorem uDigit_lt {c d : Nat} (h : uDigit c = some d) : d < 16 := by
  unfold uDigit at h
  split at h
  · cases h; omega
  split at h
  · cases h; omega
  split at h
  · cases h; omega
  · cases h
theorem or_four (q d : Nat) (hq : q < 65536) (hd : d < 16) : bits .or .i32 ((q : Int) * 16) (d : Int) = ((q * 16 + d : Nat) : Int) := by
  rw [bits_join .i32 31 (by decide) wraps_i32 4 (q * 16 : Int) (d : Int) (by omega) (by omega) (by omega) (by omega) (by omega) (by omega)]
  omega

def DigRel (b : Nat) (s : ByteArray) (w : World) (l : List UInt8) (k q : Nat) (wr : World) : Prop :=
  k ≤ 4 ∧ q < 16 ^ k ∧ ∃ t, uDigs (4 - k) q t = uDigs 4 0 l ∧ Cur wr b s t ∧ Only b w wr

theorem dig_step {b : Nat} {s : ByteArray} {w wr w1 : World} {l : List UInt8} {k q d : Nat} {c : UInt8} {t : List UInt8} (hk : k < 4) (hq : q < 16 ^ k)
    (ht : uDigs (4 - k) q (c :: t) = uDigs 4 0 l) (hc : uDigit c.toNat = some d) (ho : Only b w wr) (hcur : Cur w1 b s t) (ho1 : Only b wr w1) : DigRel b s w l (k + 1) (q * 16 + d) w1 := by
  have hd := uDigit_lt hc
  refine ⟨hk, ?_, t, ?_, hcur, ho.trans ho1⟩
  · rw [Nat.pow_succ]; omega
  · obtain ⟨n, hn⟩ : ∃ n, 4 - k = n + 1 := ⟨4 - k - 1, by omega⟩
    rw [show 4 - (k + 1) = n by omega, ← ht, hn]
    simp only [uDigs, hc]
theorem dig_bad {l : List UInt8} {k q : Nat} {t : List UInt8} (hk : k < 4)
    (ht : uDigs (4 - k) q t = uDigs 4 0 l) (hc : ∀ c u, t = c :: u → uDigit c.toNat = none) : uDigs 4 0 l = none := by
  obtain ⟨n, hn⟩ : ∃ n, 4 - k = n + 1 := ⟨4 - k - 1, by omega⟩
  rw [← ht, hn]
  cases t with
  | nil => rfl
  | cons c u => simp only [uDigs, hc c u rfl]

set_option maxRecDepth 100000 in
set_option maxHeartbeats 1000000 in
theorem four_any (b : Nat) (s : ByteArray) (l : List UInt8) (w : World) (hs : s.size ≤ maxLen) (hc : Cur w b s l) :
    Calls Try.prog 154 #[.func (.func 118) #[.pointer (some ⟨b, 0, none⟩)] #[]] w (Read b s w (uDigs 4 0 l)) := by
  go_enter Try.func154, Try.ntmps154
  go_wp2
  go_loopw [4, 9] (fun v i wr => ∃ k q : Nat, v = .int .i32 q ∧ i = .int .i64 k ∧ DigRel b s w l k q wr) (fun _ i _ => 4 - (intOf i).toNat)
  case atStart => exact ⟨0, 0, rfl, rfl, by omega, by omega, l, rfl, hc, Only.refl _ _⟩
  case round =>
    obtain ⟨k, q, rfl, rfl, hk, hq, t, ht, hcur, honly⟩ := hrel
    have HT := Lib.hid ht
    have HQ := Lib.hid hq
    by_cases hlt : k < 4
    · have hq' : q < 65536 := by
        have : 16 ^ k ≤ 16 ^ 4 := Nat.pow_le_pow_right (by omega) (by omega)
        omega
      have hlt' : (k : Int) < 4 := by omega
      clear ht hq
      cases t with
      | nil =>
        have HB := Lib.hid (dig_bad hlt HT.out (fun c u h => by cases h))
        go_wp2_with fail
        refine (next_none b s _ hcur).mono ?_
        rintro e w1 ⟨rfl, hcur1, honly1⟩
        go_wp2_with fail
        refine (digit_no 0 _ _ (by rfl) (by omega) (by rfl)).mono ?_
        rintro e w2 ⟨rfl, rfl⟩
        go_wp2
        go_ret2
        exact Read.no HB.out (honly.trans honly1)
      | cons c t =>
        have hc256 : c.toNat < 256 := c.toNat_lt
        cases hcb : uDigit c.toNat with
        | none =>
          have HB := Lib.hid (dig_bad hlt HT.out (fun c' u h => by cases h; exact hcb))
          have HC := Lib.hid hcb
          clear hcb
          go_wp2_with fail
          refine (next_some b s c t _ hs hcur).mono ?_
          rintro e w1 ⟨rfl, hcur1, honly1⟩
          go_wp2_with fail
          refine (digit_no c.toNat _ _ (by rfl) hc256 HC.out).mono ?_
          rintro e w2 ⟨rfl, rfl⟩
          go_wp2
          go_ret2
          exact Read.no HB.out (honly.trans honly1)
        | some d =>
          have hd16 : d < 16 := uDigit_lt hcb
          have HC := Lib.hid hcb
          clear hcb
          go_wp2_with fail
          refine (next_some b s c t _ hs hcur).mono ?_
          rintro e w1 ⟨rfl, hcur1, honly1⟩
          go_wp2_with fail
          refine (digit_yes c.toNat d _ _ (by rfl) hc256 HC.out).mono ?_
          rintro e w2 ⟨rfl, rfl⟩
          have R := Lib.hid (dig_step hlt HQ.out HT.out HC.out honly hcur1 honly1)
          go_wp2
          go_roundw
          case rel => exact ⟨k + 1, q * 16 + d, by rw [or_four q d hq' hd16], by go_num, R.out⟩
          case measure => simp [intOf]; omega
    · have hk4 : k = 4 := by omega
      subst hk4
      have HD := Lib.hid (show uDigs 4 0 l = some (q, t) by rw [← ht]; rfl)
      clear ht hq HT HQ
      go_wp2
      go_ret2
      exact Read.yes HD.out rfl honly hcur

theorem four_at (b : Nat) (s : ByteArray) (l : List UInt8) (o : Option (Nat × List UInt8)) (w : World) (hs : s.size ≤ maxLen) (hc : Cur w b s l) (h : uDigs 4 0 l = o) :
    Calls Try.prog 154 #[.func (.func 118) #[.pointer (some ⟨b, 0, none⟩)] #[]] w (Read b s w o) := by
  subst h; exact four_any b s l w hs hc

set_option maxRecDepth 100000 in
set_option maxHeartbeats 1000000 in
theorem low_any (b : Nat) (s : ByteArray) (l : List UInt8) (w : World) (hs : s.size ≤ maxLen) (hc : Cur w b s l) :
    Calls Try.prog 155 #[.func (.func 118) #[.pointer (some ⟨b, 0, none⟩)] #[]] w (Read b s w (uLow l)) := by
  cases l with
  | nil =>
    have HB := Lib.hid (show uLow [] = none from rfl)
    go_enter Try.func155, Try.ntmps155
    go_wp2_with fail
    refine (next_none b s _ hc).mono ?_
    rintro e w1 ⟨rfl, hcur1, honly1⟩
    go_wp2
    go_ret2
    exact Read.no HB.out honly1
  | cons x t =>
    by_cases hx : x.toNat = 92
    · have hx1 : ((x.toNat : Int) != 92) = false := by simp; omega
      cases t with
      | nil =>
        have HB := Lib.hid (show uLow [x] = none from rfl)
        clear hx
        go_enter Try.func155, Try.ntmps155
        go_wp2_with fail
        refine (next_some b s x [] _ hs hc).mono ?_
        rintro e w1 ⟨rfl, hcur1, honly1⟩
        go_wp2_with fail
        refine (next_none b s _ hcur1).mono ?_
        rintro e w2 ⟨rfl, hcur2, honly2⟩
        go_wp2
        go_ret2
        exact Read.no HB.out (honly1.trans honly2)
      | cons y u =>
        by_cases hy : y.toNat = 117
        · have hy1 : ((y.toNat : Int) != 117) = false := by simp; omega
          cases hd : uDigs 4 0 u with
          | none =>
            have HB := Lib.hid (show uLow (x :: y :: u) = none by simp [uLow, hd])
            have HD := Lib.hid hd
            clear hx hy hd
            go_enter Try.func155, Try.ntmps155
            go_wp2_with fail
            refine (next_some b s x _ _ hs hc).mono ?_
            rintro e w1 ⟨rfl, hcur1, honly1⟩
            go_wp2_with fail
            refine (next_some b s y _ _ hs hcur1).mono ?_
            rintro e w2 ⟨rfl, hcur2, honly2⟩
            go_wp2_with fail
            refine (four_at b s u none _ hs hcur2 HD.out).mono ?_
            intro e w3 hrd
            obtain ⟨rfl, honly3⟩ := hrd.of_no
            clear hrd
            go_wp2
            go_ret2
            exact Read.no HB.out ((honly1.trans honly2).trans honly3)
          | some p =>
            obtain ⟨r, v⟩ := p
            by_cases hr : 56320 ≤ r ∧ r < 57344
            · have HB := Lib.hid (show uLow (x :: y :: u) = some (r, v) by simp [uLow, hd, hx, hy, hr])
              have HD := Lib.hid hd
              obtain ⟨hr1, hr2⟩ := hr
              clear hx hy hd
              go_enter Try.func155, Try.ntmps155
              go_wp2_with fail
              refine (next_some b s x _ _ hs hc).mono ?_
              rintro e w1 ⟨rfl, hcur1, honly1⟩
              go_wp2_with fail
              refine (next_some b s y _ _ hs hcur1).mono ?_
              rintro e w2 ⟨rfl, hcur2, honly2⟩
              go_wp2_with fail
              refine (four_at b s u _ _ hs hcur2 HD.out).mono ?_
              intro e w3 hrd
              obtain ⟨rfl, hcur3, honly3⟩ := hrd.of_yes
              clear hrd
              go_wp2
              go_ret2
              exact Read.yes HB.out rfl ((honly1.trans honly2).trans honly3) hcur3
            · have HB := Lib.hid (show uLow (x :: y :: u) = none by simp [uLow, hd]; intro _ _ h1; omega)
              have HD := Lib.hid hd
              clear hx hy hd
              by_cases hr1 : 56320 ≤ r
              · have hr2 : 57344 ≤ r := by omega
                clear hr
                go_enter Try.func155, Try.ntmps155
                go_wp2_with fail
                refine (next_some b s x _ _ hs hc).mono ?_
                rintro e w1 ⟨rfl, hcur1, honly1⟩
                go_wp2_with fail
                refine (next_some b s y _ _ hs hcur1).mono ?_
                rintro e w2 ⟨rfl, hcur2, honly2⟩
                go_wp2_with fail
                refine (four_at b s u _ _ hs hcur2 HD.out).mono ?_
                intro e w3 hrd
                obtain ⟨rfl, hcur3, honly3⟩ := hrd.of_yes
                clear hrd
                go_wp2
                go_ret2
                exact Read.no HB.out ((honly1.trans honly2).trans honly3)
              · clear hr
                go_enter Try.func155, Try.ntmps155
                go_wp2_with fail
                refine (next_some b s x _ _ hs hc).mono ?_
                rintro e w1 ⟨rfl, hcur1, honly1⟩
                go_wp2_with fail
                refine (next_some b s y _ _ hs hcur1).mono ?_
                rintro e w2 ⟨rfl, hcur2, honly2⟩
                go_wp2_with fail
                refine (four_at b s u _ _ hs hcur2 HD.out).mono ?_
                intro e w3 hrd
                obtain ⟨rfl, hcur3, honly3⟩ := hrd.of_yes
                clear hrd
                go_wp2
                go_ret2
                exact Read.no HB.out ((honly1.trans honly2).trans honly3)
        · have hy1 : ((y.toNat : Int) != 117) = true := by simp; omega
          have HB := Lib.hid (show uLow (x :: y :: u) = none by simp [uLow, hy])
          clear hx
          go_enter Try.func155, Try.ntmps155
          go_wp2_with fail
          refine (next_some b s x _ _ hs hc).mono ?_
          rintro e w1 ⟨rfl, hcur1, honly1⟩
          go_wp2_with fail
          refine (next_some b s y _ _ hs hcur1).mono ?_
          rintro e w2 ⟨rfl, hcur2, honly2⟩
          go_wp2
          go_ret2
          exact Read.no HB.out (honly1.trans honly2)
    · have hx1 : ((x.toNat : Int) != 92) = true := by simp; omega
      have HB := Lib.hid (show uLow (x :: t) = none by cases t <;> simp [uLow, hx])
      go_enter Try.func155, Try.ntmps155
      go_wp2_with fail
      refine (next_some b s x _ _ hs hc).mono ?_
      rintro e w1 ⟨rfl, hcur1, honly1⟩
      go_wp2
      go_ret2
      exact Read.no HB.out honly1

theorem low_at (b : Nat) (s : ByteArray) (l : List UInt8) (o : Option (Nat × List UInt8)) (w : World) (hs : s.size ≤ maxLen) (hc : Cur w b s l) (h : uLow l = o) :
    Calls Try.prog 155 #[.func (.func 118) #[.pointer (some ⟨b, 0, none⟩)] #[]] w (Read b s w o) := by
  subst h; exact low_any b s l w hs hc

theorem uDigs_lt : ∀ (n r : Nat) (l : List UInt8) (q : Nat) (u : List UInt8), uDigs n r l = some (q, u) → q < (r + 1) * 16 ^ n
  | 0, r, l, q, u, h => by simp only [uDigs, Option.some.injEq, Prod.mk.injEq] at h; omega
  | n + 1, r, [], q, u, h => by simp [uDigs] at h
  | n + 1, r, c :: t, q, u, h => by
    simp only [uDigs] at h
    cases hd : uDigit c.toNat with
    | none => rw [hd] at h; simp at h
    | some d =>
      rw [hd] at h
      have h1 := uDigs_lt n _ t q u h
      have h2 := uDigit_lt hd
      have h3 : (r * 16 + d + 1) * 16 ^ n ≤ ((r + 1) * 16) * 16 ^ n := Nat.mul_le_mul_right _ (by omega)
      rw [Nat.pow_succ, Nat.mul_comm (16 ^ n) 16, ← Nat.mul_assoc]
      omega
theorem uLow_bd {l : List UInt8} {q : Nat} {u : List UInt8} (h : uLow l = some (q, u)) : 56320 ≤ q ∧ q < 57344 := by
  match l, h with
  | [], h => simp [uLow] at h
  | [_], h => simp [uLow] at h
  | a :: c :: t, h =>
    simp only [uLow] at h
    split at h
    · split at h
      · split at h
        · simp at h; omega
        · simp at h
      · simp at h
    · simp at h

set_option maxRecDepth 100000 in
set_option maxHeartbeats 1000000 in
theorem num_any (b : Nat) (s : ByteArray) (l : List UInt8) (w : World) (hs : s.size ≤ maxLen) (hc : Cur w b s l) :
    Calls Try.prog 153 #[.func (.func 118) #[.pointer (some ⟨b, 0, none⟩)] #[]] w (Read b s w (uNum l)) := by
  cases hd : uDigs 4 0 l with
  | none =>
    have HB := Lib.hid (show uNum l = none by simp [uNum, hd])
    have HD := Lib.hid hd
    clear hd
    go_enter Try.func153, Try.ntmps153
    go_wp2_with fail
    refine (four_at b s l none _ hs hc HD.out).mono ?_
    intro e w1 hrd
    obtain ⟨rfl, honly1⟩ := hrd.of_no
    clear hrd
    go_wp2
    go_ret2
    exact Read.no HB.out honly1
  | some p =>
    obtain ⟨r, u⟩ := p
    have hr16 := uDigs_lt _ _ _ _ _ hd
    have hr65 : r < 65536 := by omega
    clear hr16
    have HD := Lib.hid hd
    cases hsu : uSur r with
    | false =>
      have HB := Lib.hid (show uNum l = some (r, u) by simp [uNum, hd, hsu])
      have HS := Lib.hid hsu
      clear hd hsu
      go_enter Try.func153, Try.ntmps153
      go_wp2_with fail
      refine (four_at b s l _ _ hs hc HD.out).mono ?_
      intro e w1 hrd
      obtain ⟨rfl, hcur1, honly1⟩ := hrd.of_yes
      clear hrd
      go_wp2_with fail
      refine (isSurrogate_is r false _ HS.out).mono ?_
      rintro e w2 ⟨rfl, rfl⟩
      go_wp2
      go_ret2
      exact Read.yes HB.out rfl honly1 hcur1
    | true =>
      have hb2 : 55296 ≤ r ∧ r < 57344 := by simpa [uSur] using hsu
      obtain ⟨hb2, hb3⟩ := hb2
      have gb2 : (55296 : Int) ≤ (r : Int) := by omega
      have gb3 : (r : Int) < 57344 := by omega
      clear hb2 hb3 hr65
      have HS := Lib.hid hsu
      by_cases hlo : 56320 ≤ r
      · have HB := Lib.hid (show uNum l = none by simp [uNum, hd, hsu, hlo])
        have glo : (56320 : Int) ≤ (r : Int) := by omega
        clear hd hsu hlo
        go_enter Try.func153, Try.ntmps153
        go_wp2_with fail
        refine (four_at b s l _ _ hs hc HD.out).mono ?_
        intro e w1 hrd
        obtain ⟨rfl, hcur1, honly1⟩ := hrd.of_yes
        clear hrd
        go_wp2_with fail
        refine (isSurrogate_is r true _ HS.out).mono ?_
        rintro e w2 ⟨rfl, rfl⟩
        go_wp2
        go_ret2
        exact Read.no HB.out honly1
      · cases hlow : uLow u with
        | none =>
          have HB := Lib.hid (show uNum l = none by simp [uNum, hd, hsu, hlow])
          have HL := Lib.hid hlow
          have glo : decide ((56320 : Int) ≤ (r : Int)) = false := by simp; omega
          have GB := Lib.hid (show (55296 : Int) ≤ (r : Int) ∧ (r : Int) < 56320 by omega)
          clear hd hsu hlow hlo gb2 gb3
          go_enter Try.func153, Try.ntmps153
          go_wp2_with fail
          refine (four_at b s l _ _ hs hc HD.out).mono ?_
          intro e w1 hrd
          obtain ⟨rfl, hcur1, honly1⟩ := hrd.of_yes
          clear hrd
          go_wp2_with fail
          refine (isSurrogate_is r true _ HS.out).mono ?_
          rintro e w2 ⟨rfl, rfl⟩
          go_wp2_with fail
          refine (low_at b s u none _ hs hcur1 HL.out).mono ?_
          intro e w3 hrd
          obtain ⟨rfl, honly3⟩ := hrd.of_no
          clear hrd
          go_wp2
          go_ret2
          exact Read.no HB.out (honly1.trans honly3)
        | some p =>
          obtain ⟨q, v⟩ := p
          obtain ⟨hq1, hq2⟩ := uLow_bd hlow
          have HB := Lib.hid (show uNum l = some (65536 + (r - 55296) * 1024 + (q - 56320), v) by simp [uNum, hd, hsu, hlow, hlo])
          have HL := Lib.hid hlow
          have glo : decide ((56320 : Int) ≤ (r : Int)) = false := by simp; omega
          have GB := Lib.hid (show (55296 : Int) ≤ (r : Int) ∧ (r : Int) < 56320 by omega)
          clear hd hsu hlow hlo gb2 gb3
          go_enter Try.func153, Try.ntmps153
          go_wp2_with fail
          refine (four_at b s l _ _ hs hc HD.out).mono ?_
          intro e w1 hrd
          obtain ⟨rfl, hcur1, honly1⟩ := hrd.of_yes
          clear hrd
          go_wp2_with fail
          refine (isSurrogate_is r true _ HS.out).mono ?_
          rintro e w2 ⟨rfl, rfl⟩
          go_wp2_with fail
          refine (low_at b s u _ _ hs hcur1 HL.out).mono ?_
          intro e w3 hrd
          obtain ⟨rfl, hcur3, honly3⟩ := hrd.of_yes
          clear hrd glo
          obtain ⟨gb2, gb3⟩ := GB.out
          go_wp2
          go_ret2
          exact Read.yes HB.out (by omega) (honly1.trans honly3) hcur3

theorem num_at (b : Nat) (s : ByteArray) (l : List UInt8) (o : Option (Nat × List UInt8)) (w : World) (hs : s.size ≤ maxLen) (hc : Cur w b s l) (h : uNum l = o) :
    Calls Try.prog 153 #[.func (.func 118) #[.pointer (some ⟨b, 0, none⟩)] #[]] w (Read b s w o) := by
  subst h; exact num_any b s l w hs hc

end Go.Proofs.Ythcphfpkinfjoaa

namespace Go.Proofs.Ythcphfpkinfjoaa
open Go.RowKit

set_option maxRecDepth 100000 in
set_option maxHeartbeats 1000000 in
theorem esc_nil (b : Nat) (s : ByteArray) (w : World) (hc : Cur w b s []) :
    Calls Try.prog 151 #[.func (.func 118) #[.pointer (some ⟨b, 0, none⟩)] #[]] w (Read b s w (uEsc [])) := by
  have HB := Lib.hid (show uEsc [] = none from rfl)
  go_enter Try.func151, Try.ntmps151
  go_wp2_with fail
  refine (next_none b s _ hc).mono ?_
  rintro e w1 ⟨rfl, hcur1, honly1⟩
  go_wp2
  go_ret2
  exact Read.no HB.out honly1

set_option maxRecDepth 100000 in
set_option maxHeartbeats 1000000 in
theorem esc_34 (b : Nat) (s : ByteArray) (x : UInt8) (t : List UInt8) (w : World) (hs : s.size ≤ maxLen) (hc : Cur w b s (x :: t)) (hx : x.toNat = 34) :
    Calls Try.prog 151 #[.func (.func 118) #[.pointer (some ⟨b, 0, none⟩)] #[]] w (Read b s w (uEsc (x :: t))) := by
  have HB := Lib.hid (show uEsc (x :: t) = some (34, t) by simp [uEsc, hx])
  have e34 : ((x.toNat : Int) == 34) = true := by simp; omega
  have e92 : ((x.toNat : Int) == 92) = false := by simp; omega
  have e47 : ((x.toNat : Int) == 47) = false := by simp; omega
  have e98 : ((x.toNat : Int) == 98) = false := by simp; omega
  have e116 : ((x.toNat : Int) == 116) = false := by simp; omega
  have e110 : ((x.toNat : Int) == 110) = false := by simp; omega
  have e102 : ((x.toNat : Int) == 102) = false := by simp; omega
  have e114 : ((x.toNat : Int) == 114) = false := by simp; omega
  have e117 : ((x.toNat : Int) == 117) = false := by simp; omega
  have HX := Lib.hid hx
  clear hx
  go_enter Try.func151, Try.ntmps151
  go_wp2_with fail
  refine (next_some b s x t _ hs hc).mono ?_
  rintro e w1 ⟨rfl, hcur1, honly1⟩
  go_wp2
  go_ret2
  exact Read.yes HB.out (by first | rfl | (have := HX.out; unfold wrap32; omega)) honly1 hcur1

set_option maxRecDepth 100000 in
set_option maxHeartbeats 1000000 in
theorem esc_92 (b : Nat) (s : ByteArray) (x : UInt8) (t : List UInt8) (w : World) (hs : s.size ≤ maxLen) (hc : Cur w b s (x :: t)) (hx : x.toNat = 92) :
    Calls Try.prog 151 #[.func (.func 118) #[.pointer (some ⟨b, 0, none⟩)] #[]] w (Read b s w (uEsc (x :: t))) := by
  have HB := Lib.hid (show uEsc (x :: t) = some (92, t) by simp [uEsc, hx])
  have e34 : ((x.toNat : Int) == 34) = false := by simp; omega
  have e92 : ((x.toNat : Int) == 92) = true := by simp; omega
  have e47 : ((x.toNat : Int) == 47) = false := by simp; omega
  have e98 : ((x.toNat : Int) == 98) = false := by simp; omega
  have e116 : ((x.toNat : Int) == 116) = false := by simp; omega
  have e110 : ((x.toNat : Int) == 110) = false := by simp; omega
  have e102 : ((x.toNat : Int) == 102) = false := by simp; omega
  have e114 : ((x.toNat : Int) == 114) = false := by simp; omega
  have e117 : ((x.toNat : Int) == 117) = false := by simp; omega
  have HX := Lib.hid hx
  clear hx
  go_enter Try.func151, Try.ntmps151
  go_wp2_with fail
  refine (next_some b s x t _ hs hc).mono ?_
  rintro e w1 ⟨rfl, hcur1, honly1⟩
  go_wp2
  go_ret2
  exact Read.yes HB.out (by first | rfl | (have := HX.out; unfold wrap32; omega)) honly1 hcur1

set_option maxRecDepth 100000 in
set_option maxHeartbeats 1000000 in
theorem esc_47 (b : Nat) (s : ByteArray) (x : UInt8) (t : List UInt8) (w : World) (hs : s.size ≤ maxLen) (hc : Cur w b s (x :: t)) (hx : x.toNat = 47) :
    Calls Try.prog 151 #[.func (.func 118) #[.pointer (some ⟨b, 0, none⟩)] #[]] w (Read b s w (uEsc (x :: t))) := by
  have HB := Lib.hid (show uEsc (x :: t) = some (47, t) by simp [uEsc, hx])
  have e34 : ((x.toNat : Int) == 34) = false := by simp; omega
  have e92 : ((x.toNat : Int) == 92) = false := by simp; omega
  have e47 : ((x.toNat : Int) == 47) = true := by simp; omega
  have e98 : ((x.toNat : Int) == 98) = false := by simp; omega
  have e116 : ((x.toNat : Int) == 116) = false := by simp; omega
  have e110 : ((x.toNat : Int) == 110) = false := by simp; omega
  have e102 : ((x.toNat : Int) == 102) = false := by simp; omega
  have e114 : ((x.toNat : Int) == 114) = false := by simp; omega
  have e117 : ((x.toNat : Int) == 117) = false := by simp; omega
  have HX := Lib.hid hx
  clear hx
  go_enter Try.func151, Try.ntmps151
  go_wp2_with fail
  refine (next_some b s x t _ hs hc).mono ?_
  rintro e w1 ⟨rfl, hcur1, honly1⟩
  go_wp2
  go_ret2
  exact Read.yes HB.out (by first | rfl | (have := HX.out; unfold wrap32; omega)) honly1 hcur1

set_option maxRecDepth 100000 in
set_option maxHeartbeats 1000000 in
theorem esc_98 (b : Nat) (s : ByteArray) (x : UInt8) (t : List UInt8) (w : World) (hs : s.size ≤ maxLen) (hc : Cur w b s (x :: t)) (hx : x.toNat = 98) :
    Calls Try.prog 151 #[.func (.func 118) #[.pointer (some ⟨b, 0, none⟩)] #[]] w (Read b s w (uEsc (x :: t))) := by
  have HB := Lib.hid (show uEsc (x :: t) = some (8, t) by simp [uEsc, hx])
  have e34 : ((x.toNat : Int) == 34) = false := by simp; omega
  have e92 : ((x.toNat : Int) == 92) = false := by simp; omega
  have e47 : ((x.toNat : Int) == 47) = false := by simp; omega
  have e98 : ((x.toNat : Int) == 98) = true := by simp; omega
  have e116 : ((x.toNat : Int) == 116) = false := by simp; omega
  have e110 : ((x.toNat : Int) == 110) = false := by simp; omega
  have e102 : ((x.toNat : Int) == 102) = false := by simp; omega
  have e114 : ((x.toNat : Int) == 114) = false := by simp; omega
  have e117 : ((x.toNat : Int) == 117) = false := by simp; omega
  have HX := Lib.hid hx
  clear hx
  go_enter Try.func151, Try.ntmps151
  go_wp2_with fail
  refine (next_some b s x t _ hs hc).mono ?_
  rintro e w1 ⟨rfl, hcur1, honly1⟩
  go_wp2
  go_ret2
  exact Read.yes HB.out (by first | rfl | (have := HX.out; unfold wrap32; omega)) honly1 hcur1

set_option maxRecDepth 100000 in
set_option maxHeartbeats 1000000 in
theorem esc_116 (b : Nat) (s : ByteArray) (x : UInt8) (t : List UInt8) (w : World) (hs : s.size ≤ maxLen) (hc : Cur w b s (x :: t)) (hx : x.toNat = 116) :
    Calls Try.prog 151 #[.func (.func 118) #[.pointer (some ⟨b, 0, none⟩)] #[]] w (Read b s w (uEsc (x :: t))) := by
  have HB := Lib.hid (show uEsc (x :: t) = some (9, t) by simp [uEsc, hx])
  have e34 : ((x.toNat : Int) == 34) = false := by simp; omega
  have e92 : ((x.toNat : Int) == 92) = false := by simp; omega
  have e47 : ((x.toNat : Int) == 47) = false := by simp; omega
  have e98 : ((x.toNat : Int) == 98) = false := by simp; omega
  have e116 : ((x.toNat : Int) == 116) = true := by simp; omega
  have e110 : ((x.toNat : Int) == 110) = false := by simp; omega
  have e102 : ((x.toNat : Int) == 102) = false := by simp; omega
  have e114 : ((x.toNat : Int) == 114) = false := by simp; omega
  have e117 : ((x.toNat : Int) == 117) = false := by simp; omega
  have HX := Lib.hid hx
  clear hx
  go_enter Try.func151, Try.ntmps151
  go_wp2_with fail
  refine (next_some b s x t _ hs hc).mono ?_
  rintro e w1 ⟨rfl, hcur1, honly1⟩
  go_wp2
  go_ret2
  exact Read.yes HB.out (by first | rfl | (have := HX.out; unfold wrap32; omega)) honly1 hcur1

set_option maxRecDepth 100000 in
set_option maxHeartbeats 1000000 in
theorem esc_110 (b : Nat) (s : ByteArray) (x : UInt8) (t : List UInt8) (w : World) (hs : s.size ≤ maxLen) (hc : Cur w b s (x :: t)) (hx : x.toNat = 110) :
    Calls Try.prog 151 #[.func (.func 118) #[.pointer (some ⟨b, 0, none⟩)] #[]] w (Read b s w (uEsc (x :: t))) := by
  have HB := Lib.hid (show uEsc (x :: t) = some (10, t) by simp [uEsc, hx])
  have e34 : ((x.toNat : Int) == 34) = false := by simp; omega
  have e92 : ((x.toNat : Int) == 92) = false := by simp; omega
  have e47 : ((x.toNat : Int) == 47) = false := by simp; omega
  have e98 : ((x.toNat : Int) == 98) = false := by simp; omega
  have e116 : ((x.toNat : Int) == 116) = false := by simp; omega
  have e110 : ((x.toNat : Int) == 110) = true := by simp; omega
  have e102 : ((x.toNat : Int) == 102) = false := by simp; omega
  have e114 : ((x.toNat : Int) == 114) = false := by simp; omega
  have e117 : ((x.toNat : Int) == 117) = false := by simp; omega
  have HX := Lib.hid hx
  clear hx
  go_enter Try.func151, Try.ntmps151
  go_wp2_with fail
  refine (next_some b s x t _ hs hc).mono ?_
  rintro e w1 ⟨rfl, hcur1, honly1⟩
  go_wp2
  go_ret2
  exact Read.yes HB.out (by first | rfl | (have := HX.out; unfold wrap32; omega)) honly1 hcur1

set_option maxRecDepth 100000 in
set_option maxHeartbeats 1000000 in
theorem esc_102 (b : Nat) (s : ByteArray) (x : UInt8) (t : List UInt8) (w : World) (hs : s.size ≤ maxLen) (hc : Cur w b s (x :: t)) (hx : x.toNat = 102) :
    Calls Try.prog 151 #[.func (.func 118) #[.pointer (some ⟨b, 0, none⟩)] #[]] w (Read b s w (uEsc (x :: t))) := by
  have HB := Lib.hid (show uEsc (x :: t) = some (12, t) by simp [uEsc, hx])
  have e34 : ((x.toNat : Int) == 34) = false := by simp; omega
  have e92 : ((x.toNat : Int) == 92) = false := by simp; omega
  have e47 : ((x.toNat : Int) == 47) = false := by simp; omega
  have e98 : ((x.toNat : Int) == 98) = false := by simp; omega
  have e116 : ((x.toNat : Int) == 116) = false := by simp; omega
  have e110 : ((x.toNat : Int) == 110) = false := by simp; omega
  have e102 : ((x.toNat : Int) == 102) = true := by simp; omega
  have e114 : ((x.toNat : Int) == 114) = false := by simp; omega
  have e117 : ((x.toNat : Int) == 117) = false := by simp; omega
  have HX := Lib.hid hx
  clear hx
  go_enter Try.func151, Try.ntmps151
  go_wp2_with fail
  refine (next_some b s x t _ hs hc).mono ?_
  rintro e w1 ⟨rfl, hcur1, honly1⟩
  go_wp2
  go_ret2
  exact Read.yes HB.out (by first | rfl | (have := HX.out; unfold wrap32; omega)) honly1 hcur1

set_option maxRecDepth 100000 in
set_option maxHeartbeats 1000000 in
theorem esc_114 (b : Nat) (s : ByteArray) (x : UInt8) (t : List UInt8) (w : World) (hs : s.size ≤ maxLen) (hc : Cur w b s (x :: t)) (hx : x.toNat = 114) :
    Calls Try.prog 151 #[.func (.func 118) #[.pointer (some ⟨b, 0, none⟩)] #[]] w (Read b s w (uEsc (x :: t))) := by
  have HB := Lib.hid (show uEsc (x :: t) = some (13, t) by simp [uEsc, hx])
  have e34 : ((x.toNat : Int) == 34) = false := by simp; omega
  have e92 : ((x.toNat : Int) == 92) = false := by simp; omega
  have e47 : ((x.toNat : Int) == 47) = false := by simp; omega
  have e98 : ((x.toNat : Int) == 98) = false := by simp; omega
  have e116 : ((x.toNat : Int) == 116) = false := by simp; omega
  have e110 : ((x.toNat : Int) == 110) = false := by simp; omega
  have e102 : ((x.toNat : Int) == 102) = false := by simp; omega
  have e114 : ((x.toNat : Int) == 114) = true := by simp; omega
  have e117 : ((x.toNat : Int) == 117) = false := by simp; omega
  have HX := Lib.hid hx
  clear hx
  go_enter Try.func151, Try.ntmps151
  go_wp2_with fail
  refine (next_some b s x t _ hs hc).mono ?_
  rintro e w1 ⟨rfl, hcur1, honly1⟩
  go_wp2
  go_ret2
  exact Read.yes HB.out (by first | rfl | (have := HX.out; unfold wrap32; omega)) honly1 hcur1

set_option maxRecDepth 100000 in
set_option maxHeartbeats 1000000 in
theorem esc_117 (b : Nat) (s : ByteArray) (x : UInt8) (t : List UInt8) (w : World) (hs : s.size ≤ maxLen) (hc : Cur w b s (x :: t)) (hx : x.toNat = 117) :
    Calls Try.prog 151 #[.func (.func 118) #[.pointer (some ⟨b, 0, none⟩)] #[]] w (Read b s w (uEsc (x :: t))) := by
  have HB := Lib.hid (show uNum t = uEsc (x :: t) by simp [uEsc, hx])
  have e34 : ((x.toNat : Int) == 34) = false := by simp; omega
  have e92 : ((x.toNat : Int) == 92) = false := by simp; omega
  have e47 : ((x.toNat : Int) == 47) = false := by simp; omega
  have e98 : ((x.toNat : Int) == 98) = false := by simp; omega
  have e116 : ((x.toNat : Int) == 116) = false := by simp; omega
  have e110 : ((x.toNat : Int) == 110) = false := by simp; omega
  have e102 : ((x.toNat : Int) == 102) = false := by simp; omega
  have e114 : ((x.toNat : Int) == 114) = false := by simp; omega
  have e117 : ((x.toNat : Int) == 117) = true := by simp; omega
  clear hx
  go_enter Try.func151, Try.ntmps151
  go_wp2_with fail
  refine (next_some b s x t _ hs hc).mono ?_
  rintro e w1 ⟨rfl, hcur1, honly1⟩
  go_wp2_with fail
  refine (num_at b s t _ _ hs hcur1 HB.out).mono ?_
  intro e w2 hrd
  obtain ⟨z, v, rfl, hrd1⟩ := hrd.pair
  clear hrd
  go_wp2
  go_ret2
  exact Read.after honly1 hrd1

set_option maxRecDepth 100000 in
set_option maxHeartbeats 1000000 in
theorem esc_other (b : Nat) (s : ByteArray) (x : UInt8) (t : List UInt8) (w : World) (hs : s.size ≤ maxLen) (hc : Cur w b s (x :: t)) (h34 : x.toNat ≠ 34) (h92 : x.toNat ≠ 92) (h47 : x.toNat ≠ 47) (h98 : x.toNat ≠ 98) (h116 : x.toNat ≠ 116) (h110 : x.toNat ≠ 110) (h102 : x.toNat ≠ 102) (h114 : x.toNat ≠ 114) (h117 : x.toNat ≠ 117) :
    Calls Try.prog 151 #[.func (.func 118) #[.pointer (some ⟨b, 0, none⟩)] #[]] w (Read b s w (uEsc (x :: t))) := by
  have HB := Lib.hid (show uEsc (x :: t) = none by simp [uEsc, h34, h92, h47, h98, h116, h110, h102, h114, h117])
  have e34 : ((x.toNat : Int) == 34) = false := by simp; omega
  have e92 : ((x.toNat : Int) == 92) = false := by simp; omega
  have e47 : ((x.toNat : Int) == 47) = false := by simp; omega
  have e98 : ((x.toNat : Int) == 98) = false := by simp; omega
  have e116 : ((x.toNat : Int) == 116) = false := by simp; omega
  have e110 : ((x.toNat : Int) == 110) = false := by simp; omega
  have e102 : ((x.toNat : Int) == 102) = false := by simp; omega
  have e114 : ((x.toNat : Int) == 114) = false := by simp; omega
  have e117 : ((x.toNat : Int) == 117) = false := by simp; omega
  clear h34 h92 h47 h98 h116 h110 h102 h114 h117
  go_enter Try.func151, Try.ntmps151
  go_wp2_with fail
  refine (next_some b s x t _ hs hc).mono ?_
  rintro e w1 ⟨rfl, hcur1, honly1⟩
  go_wp2
  go_ret2
  exact Read.no HB.out honly1

theorem esc_any (b : Nat) (s : ByteArray) (l : List UInt8) (w : World) (hs : s.size ≤ maxLen) (hc : Cur w b s l) :
    Calls Try.prog 151 #[.func (.func 118) #[.pointer (some ⟨b, 0, none⟩)] #[]] w (Read b s w (uEsc l)) := by
  cases l with
  | nil => exact esc_nil b s w hc
  | cons x t =>
    by_cases h34 : x.toNat = 34
    · exact esc_34 b s x t w hs hc h34
    by_cases h92 : x.toNat = 92
    · exact esc_92 b s x t w hs hc h92
    by_cases h47 : x.toNat = 47
    · exact esc_47 b s x t w hs hc h47
    by_cases h98 : x.toNat = 98
    · exact esc_98 b s x t w hs hc h98
    by_cases h116 : x.toNat = 116
    · exact esc_116 b s x t w hs hc h116
    by_cases h110 : x.toNat = 110
    · exact esc_110 b s x t w hs hc h110
    by_cases h102 : x.toNat = 102
    · exact esc_102 b s x t w hs hc h102
    by_cases h114 : x.toNat = 114
    · exact esc_114 b s x t w hs hc h114
    by_cases h117 : x.toNat = 117
    · exact esc_117 b s x t w hs hc h117
    exact esc_other b s x t w hs hc h34 h92 h47 h98 h116 h110 h102 h114 h117

set_option maxRecDepth 100000 in
set_option maxHeartbeats 1000000 in
theorem sym_any (b : Nat) (s : ByteArray) (c : UInt8) (l : List UInt8) (w : World) (hs : s.size ≤ maxLen) (hc : Cur w b s l) :
    Calls Try.prog 146 #[.int .u8 c.toNat, .func (.func 118) #[.pointer (some ⟨b, 0, none⟩)] #[]] w (Read b s w (uSym c l)) := by
  by_cases hx : c.toNat = 92
  · have e1 : ((c.toNat : Int) == 92) = true := by simp; omega
    have HB := Lib.hid (show uSym c l = uEsc l by simp [uSym, hx])
    clear hx
    go_enter Try.func146, Try.ntmps146
    go_wp2_with fail
    refine (esc_any b s l _ hs hc).mono ?_
    intro e w1 hrd
    rw [← HB.out] at hrd
    obtain ⟨z, v, rfl, hrd1⟩ := hrd.pair
    clear hrd
    go_wp2
    go_ret2
    exact hrd1
  · have e1 : ((c.toNat : Int) == 92) = false := by simp; omega
    have HB := Lib.hid (show uPoint c l = uSym c l by simp [uSym, hx])
    clear hx
    go_enter Try.func146, Try.ntmps146
    go_wp2_with fail
    refine (point_at b s c l _ _ hs hc HB.out).mono ?_
    intro e w1 hrd
    obtain ⟨z, v, rfl, hrd1⟩ := hrd.pair
    clear hrd
    go_wp2
    go_ret2
    exact hrd1

theorem sym_at (b : Nat) (s : ByteArray) (c : UInt8) (l : List UInt8) (o : Option (Nat × List UInt8)) (w : World) (hs : s.size ≤ maxLen) (hc : Cur w b s l) (h : uSym c l = o) :
    Calls Try.prog 146 #[.int .u8 c.toNat, .func (.func 118) #[.pointer (some ⟨b, 0, none⟩)] #[]] w (Read b s w o) := by
  subst h; exact sym_any b s c l w hs hc

end Go.Proofs.Ythcphfpkinfjoaa
