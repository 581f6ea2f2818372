/-
  What isSurrogate, digit, tail and point of package utf answer.
  Conditions: the cursor's block is known whole; the string is no longer than the form's own bound on lengths.
-/
import Derived.Test.YthcphfpkinfjoaaUtfA
import Derived.Test.YthcphfpkinfjoaaUtfP
namespace Go.Proofs.Ythcphfpkinfjoaa
open Go.RowKit

theorem ret_ib {k : IntKind} {a b : Int} {c d : Bool} (h : a = b) (h' : c = d) : Ending.returned (.tuple #[.int k a, .bool c]) = .returned (.tuple #[.int k b, .bool d]) := by rw [h, h']
theorem ret_b {c d : Bool} (h' : c = d) : Ending.returned (.bool c) = .returned (.bool d) := by rw [h']

set_option maxHeartbeats 400000 in
theorem isSurrogate_any (r : Nat) (w : World) :
    Calls Try.prog 149 #[.int .i32 r] w fun e w' => e = .returned (.bool (uSur r)) ∧ w = w' := by
  go_enter Try.func149, Try.ntmps149
  go_wp2
  all_goals
    go_ret
    refine ⟨ret_b ?_, rfl⟩
  · simp only [uSur]; rw [Bool.eq_iff_iff]; simp; omega
  · simp only [uSur]; rw [Bool.eq_iff_iff]; simp; omega

set_option maxHeartbeats 400000 in
theorem digit_any (c : Nat) (w : World) (hc : c < 256) :
    Calls Try.prog 156 #[.int .u8 c] w fun e w' => e = .returned (.tuple #[.int .i32 ((uDigit c).getD 0 : Nat), .bool (uDigit c).isSome]) ∧ w = w' := by
  go_enter Try.func156, Try.ntmps156
  go_wp2
  all_goals
    go_ret2
    refine ⟨ret_ib ?_ ?_, rfl⟩
    all_goals
      simp only [uDigit]
      repeat' split
  all_goals first | rfl | omega | (simp only [Option.getD_some]; omega)

/-- What a reader leaves: the answer, and the cursor behind what was read. -/
def Read (b : Nat) (s : ByteArray) (w : World) (o : Option (Nat × List UInt8)) (e : Ending) (w' : World) : Prop :=
  Only b w w' ∧ match o with
    | some (r, t) => e = .returned (.tuple #[.int .i32 (r : Nat), .bool true]) ∧ Cur w' b s t
    | none => e = .returned (.tuple #[.int .i32 0, .bool false])

theorem Read.yes {b : Nat} {s : ByteArray} {w w' : World} {o : Option (Nat × List UInt8)} {r : Nat} {t : List UInt8} {z : Int} (h : o = some (r, t)) (hz : z = (r : Int)) (h1 : Only b w w') (h2 : Cur w' b s t) :
    Read b s w o (.returned (.tuple #[.int .i32 z, .bool true])) w' := by subst h hz; exact ⟨h1, rfl, h2⟩
theorem Read.no {b : Nat} {s : ByteArray} {w w' : World} {o : Option (Nat × List UInt8)} (h : o = none) (h1 : Only b w w') :
    Read b s w o (.returned (.tuple #[.int .i32 0, .bool false])) w' := by subst h; exact ⟨h1, rfl⟩
theorem Read.of_yes {b : Nat} {s : ByteArray} {w w' : World} {r : Nat} {t : List UInt8} {e : Ending} (h : Read b s w (some (r, t)) e w') : e = .returned (.tuple #[.int .i32 (r : Int), .bool true]) ∧ Cur w' b s t ∧ Only b w w' := ⟨h.2.1, h.2.2, h.1⟩
theorem Read.of_no {b : Nat} {s : ByteArray} {w w' : World} {e : Ending} (h : Read b s w none e w') : e = .returned (.tuple #[.int .i32 0, .bool false]) ∧ Only b w w' := ⟨h.2, h.1⟩
theorem Read.after {b : Nat} {s : ByteArray} {u w w' : World} {o : Option (Nat × List UInt8)} {e : Ending} (h0 : Only b u w) (h : Read b s w o e w') : Read b s u o e w' := ⟨h0.trans h.1, h.2⟩

theorem isSurrogate_is (r : Nat) (v : Bool) (w : World) (h : uSur r = v) :
    Calls Try.prog 149 #[.int .i32 r] w fun e w' => e = .returned (.bool v) ∧ w = w' := by
  subst h; exact isSurrogate_any r w

set_option maxRecDepth 10000 in
theorem and192 : ∀ n : Fin 256, (n.val &&& 192 = 128) ↔ n.val / 64 = 2 := by decide
theorem cont_bit (c : UInt8) (v : Bool) (h : decide (c.toNat / 64 = 2) = v) : (bits .and .u8 (c.toNat : Int) 192 != 128) = !v := by
  subst h
  have hc : c.toNat < 256 := c.toNat_lt
  have e : bits .and .u8 (c.toNat : Int) 192 = ((c.toNat &&& 192 : Nat) : Int) := u8_and_nat c.toNat 192 hc (by decide)
  rw [e, Bool.eq_iff_iff]
  have := and192 ⟨c.toNat, hc⟩
  simp only [bne_iff_ne, ne_eq, Bool.not_eq_true', decide_eq_false_iff_not]
  rw [← this]
  simp only; omega
theorem or_six (q : Nat) (c : UInt8) (hq : q < 8388608) : bits .or .i32 ((q : Int) * 64) (wrap32 (bits .and .u8 (c.toNat : Int) 63)) = ((q * 64 + c.toNat % 64 : Nat) : Int) := by
  have hc : c.toNat < 256 := c.toNat_lt
  rw [u8_and63 _ (by omega) (by omega)]
  have e : wrap32 ((c.toNat : Int) % 64) = (c.toNat : Int) % 64 := by unfold wrap32; omega
  rw [e, i32_or6 _ _ (by omega) (by omega) (by omega) (by omega) (by omega)]
  omega

def TailRel (b : Nat) (s : ByteArray) (w : World) (more r : Nat) (l : List UInt8) (k q : Nat) (wr : World) : Prop :=
  k ≤ more ∧ q < 32 * 64 ^ k ∧ ∃ t, uCont (more - k) q t = uCont more r l ∧ Cur wr b s t ∧ Only b w wr

theorem tail_step {b : Nat} {s : ByteArray} {w wr w1 : World} {more r : Nat} {l : List UInt8} {k q : Nat} {c : UInt8} {t : List UInt8} (hk : k < more) (hq : q < 32 * 64 ^ k)
    (ht : uCont (more - k) q (c :: t) = uCont more r l) (hc : decide (c.toNat / 64 = 2) = true) (ho : Only b w wr) (hcur : Cur w1 b s t) (ho1 : Only b wr w1) : TailRel b s w more r l (k + 1) (q * 64 + c.toNat % 64) w1 := by
  refine ⟨hk, ?_, t, ?_, hcur, ho.trans ho1⟩
  · rw [Nat.pow_succ]; omega
  · obtain ⟨n, hn⟩ : ∃ n, more - k = n + 1 := ⟨more - k - 1, by omega⟩
    rw [show more - (k + 1) = n by omega, ← ht, hn]
    simp only [uCont]
    rw [if_pos (of_decide_eq_true hc)]
theorem tail_bad {more r : Nat} {l : List UInt8} {least k q : Nat} {t : List UInt8} (hk : k < more)
    (ht : uCont (more - k) q t = uCont more r l) (hc : ∀ c u, t = c :: u → decide (c.toNat / 64 = 2) = false) : uTail more r least l = none := by
  unfold uTail
  obtain ⟨n, hn⟩ : ∃ n, more - k = n + 1 := ⟨more - k - 1, by omega⟩
  rw [← ht, hn]
  cases t with
  | nil => rfl
  | cons c u => simp only [uCont]; rw [if_neg (of_decide_eq_false (hc c u rfl))]
theorem tail_done {more r : Nat} {l : List UInt8} {least k q : Nat} {t : List UInt8} (hk : k ≤ more) (hk' : ¬ k < more)
    (ht : uCont (more - k) q t = uCont more r l) : uTail more r least l = if uFit least q then some (q, t) else none := by
  unfold uTail
  rw [← ht, show more - k = 0 by omega]
  rfl

set_option maxHeartbeats 1000000 in
theorem tail_any (b : Nat) (s : ByteArray) (r more least : Nat) (l : List UInt8) (w : World) (hs : s.size ≤ maxLen) (hm : more ≤ 3) (hr : r < 32) (hc : Cur w b s l) :
    Calls Try.prog 140 #[.int .i32 r, .int .i64 more, .int .i32 least, .func (.func 118) #[.pointer (some ⟨b, 0, none⟩)] #[]] w (Read b s w (uTail more r least l)) := by
  go_enter Try.func140, Try.ntmps140
  go_wp2
  go_loopw [0, 13] (fun v i wr => ∃ k q : Nat, v = .int .i32 q ∧ i = .int .i64 k ∧ TailRel b s w more r l k q wr) (fun _ i _ => more - (intOf i).toNat)
  case atStart => exact ⟨0, r, rfl, rfl, by omega, by omega, l, rfl, hc, Only.refl _ _⟩
  case round =>
    obtain ⟨k, q, rfl, rfl, hk, hq, t, ht, hcur, honly⟩ := hrel
    have hq' : q < 8388608 := by
      have : 64 ^ k ≤ 64 ^ 3 := Nat.pow_le_pow_right (by omega) (by omega)
      omega
    have HT := Lib.hid ht
    have HQ := Lib.hid hq
    clear ht hq
    by_cases hlt : k < more
    · have hlt' : (k : Int) < (more : Int) := by omega
      cases t with
      | nil =>
        have HB := Lib.hid (tail_bad (least := least) hlt HT.out (fun c u h => by cases h))
        go_wp2_with fail
        refine (next_none b s _ hcur).mono ?_
        rintro e w1 ⟨rfl, hcur1, honly1⟩
        go_wp2
        go_ret2
        exact Read.no HB.out (honly.trans honly1)
      | cons c t =>
        cases hcb : decide (c.toNat / 64 = 2) with
        | false =>
          have HB := Lib.hid (tail_bad (least := least) hlt HT.out (fun c' u h => by cases h; exact hcb))
          have hbit := cont_bit c false hcb
          clear hcb
          go_wp2_with fail
          refine (next_some b s c t _ hs hcur).mono ?_
          rintro e w1 ⟨rfl, hcur1, honly1⟩
          go_wp2
          go_ret2
          exact Read.no HB.out (honly.trans honly1)
        | true =>
          have hbit := cont_bit c true hcb
          have HC := Lib.hid hcb
          clear hcb
          go_wp2_with fail
          refine (next_some b s c t _ hs hcur).mono ?_
          rintro e w1 ⟨rfl, hcur1, honly1⟩
          have R := Lib.hid (tail_step hlt HQ.out HT.out HC.out honly hcur1 honly1)
          go_wp2
          go_roundw
          case rel => exact ⟨k + 1, q * 64 + c.toNat % 64, by rw [or_six q c hq'], by go_num, R.out⟩
          case measure => simp [intOf]; omega
    · have HD := Lib.hid (tail_done (least := least) hk hlt HT.out)
      cases hf : uFit least q with
      | true =>
        have hf2 := hf
        simp only [uFit, Bool.and_eq_true, decide_eq_true_eq, Bool.not_eq_true'] at hf2
        obtain ⟨⟨f1, f2⟩, f3⟩ := hf2
        have HF := Lib.hid hf
        have HS := Lib.hid f3
        clear hf f3
        go_wp2_with fail
        refine (isSurrogate_is q false _ HS.out).mono ?_
        rintro e w1 ⟨rfl, rfl⟩
        go_wp2
        go_ret2
        exact Read.yes (by rw [HD.out, HF.out]; rfl) rfl honly hcur
      | false =>
        have HF := Lib.hid (show uTail more r least l = none by rw [HD.out, hf]; rfl)
        by_cases f1 : least ≤ q
        · by_cases f2 : q ≤ 1114111
          · have f3 : uSur q = true := by
              simp only [uFit, f1, f2, decide_true, Bool.true_and] at hf
              simpa using hf
            have HS := Lib.hid f3
            clear hf f3
            go_wp2_with fail
            refine (isSurrogate_is q true _ HS.out).mono ?_
            rintro e w1 ⟨rfl, rfl⟩
            go_wp2
            go_ret2
            exact Read.no HF.out honly
          · clear hf
            go_wp2
            go_ret2
            exact Read.no HF.out honly
        · clear hf
          go_wp2
          go_ret2
          exact Read.no HF.out honly

end Go.Proofs.Ythcphfpkinfjoaa
