/-
  What Runes, Good and Less of package utf answer.
  Conditions: the string is no longer than the form's own bound on lengths.
-/
import Derived.Test.YthcphfpkinfjoaaUtfC
namespace Go.Proofs.Ythcphfpkinfjoaa
open Go.RowKit

/-- How many code points; none: what is not well formed. The first number: more rounds than there are bytes. -/
def uRunesF : Nat → List UInt8 → Option Nat
  | _, [] => some 0
  | 0, _ :: _ => none
  | n + 1, c :: t => match uPoint c t with
    | some (_, u) => (uRunesF n u).map (· + 1)
    | none => none
def uRunes (l : List UInt8) : Option Nat := uRunesF l.length l
def uRunesI (l : List UInt8) : Int := match uRunes l with
  | some n => (n : Int)
  | none => -1

theorem uCont_len : ∀ (n r : Nat) (l : List UInt8) (q : Nat) (u : List UInt8), uCont n r l = some (q, u) → u.length + n = l.length
  | 0, r, l, q, u, h => by simp only [uCont, Option.some.injEq, Prod.mk.injEq] at h; rw [h.2]; rfl
  | n + 1, r, [], q, u, h => by simp [uCont] at h
  | n + 1, r, c :: t, q, u, h => by
    simp only [uCont] at h
    split at h
    · have := uCont_len n _ t q u h; simp; omega
    · simp at h
theorem uTail_len {n r least : Nat} {l : List UInt8} {q : Nat} {u : List UInt8} (h : uTail n r least l = some (q, u)) : u.length ≤ l.length := by
  unfold uTail at h
  split at h
  · rename_i heq
    split at h
    · simp only [Option.some.injEq, Prod.mk.injEq] at h
      have := uCont_len _ _ _ _ _ heq
      rw [← h.2]; omega
    · simp at h
  · simp at h
theorem uPoint_len {c : UInt8} {l : List UInt8} {q : Nat} {u : List UInt8} (h : uPoint c l = some (q, u)) : u.length ≤ l.length := by
  unfold uPoint at h
  split at h
  · simp at h; rw [h.2]; exact Nat.le_refl _
  split at h
  · simp at h
  split at h
  · exact uTail_len h
  split at h
  · exact uTail_len h
  split at h
  · exact uTail_len h
  · simp at h
theorem uRunesF_more : ∀ (n m : Nat) (l : List UInt8), l.length ≤ n → l.length ≤ m → uRunesF n l = uRunesF m l
  | _, _, [], _, _ => by simp [uRunesF]
  | 0, _, _ :: _, h, _ => by simp at h
  | _, 0, _ :: _, _, h => by simp at h
  | n + 1, m + 1, c :: t, h1, h2 => by
    simp only [uRunesF]
    cases hp : uPoint c t with
    | none => rfl
    | some p =>
      obtain ⟨r, u⟩ := p
      have hl := uPoint_len hp
      simp only [List.length_cons] at h1 h2
      simp only
      rw [uRunesF_more n m u (by omega) (by omega)]
theorem uRunes_nil : uRunes [] = some 0 := rfl
theorem uRunes_cons (c : UInt8) (t : List UInt8) : uRunes (c :: t) = match uPoint c t with
    | some (_, u) => (uRunes u).map (· + 1)
    | none => none := by
  show uRunesF (t.length + 1) (c :: t) = _
  simp only [uRunesF]
  cases hp : uPoint c t with
  | none => rfl
  | some p =>
    obtain ⟨r, u⟩ := p
    have hl := uPoint_len hp
    simp only [uRunes]
    rw [uRunesF_more t.length u.length u hl (Nat.le_refl _)]
theorem uRunesF_le : ∀ (n : Nat) (l : List UInt8) (k : Nat), uRunesF n l = some k → k ≤ l.length
  | _, [], k, h => by simp [uRunesF] at h; omega
  | 0, _ :: _, k, h => by simp [uRunesF] at h
  | n + 1, c :: t, k, h => by
    simp only [uRunesF] at h
    cases hp : uPoint c t with
    | none => rw [hp] at h; simp at h
    | some p =>
      obtain ⟨r, u⟩ := p
      rw [hp] at h
      simp only [Option.map_eq_some_iff] at h
      obtain ⟨j, hj, rfl⟩ := h
      have := uRunesF_le n u j hj
      have := uPoint_len hp
      simp; omega
theorem uRunes_le {l : List UInt8} {k : Nat} (h : uRunes l = some k) : k ≤ l.length := uRunesF_le _ _ _ h

theorem point_at (b : Nat) (s : ByteArray) (c : UInt8) (l : List UInt8) (o : Option (Nat × List UInt8)) (w : World) (hs : s.size ≤ maxLen) (hc : Cur w b s l) (h : uPoint c l = o) :
    Calls Try.prog 119 #[.int .u8 c.toNat, .func (.func 118) #[.pointer (some ⟨b, 0, none⟩)] #[]] w (Read b s w o) := by
  subst h; exact point_any b s c l w hs hc

/-- A new block that is a cursor at the string's beginning. -/
theorem Cur.new {w : World} {s : ByteArray} : Cur (w.alloc (.cells #[.string s, .int .i64 0] 140)) w.heap.size s s.data.toList := by
  have e : s.data.toList.length = s.size := Array.length_toList
  have e0 : s.size - s.data.toList.length = 0 := by omega
  refine ⟨by omega, by rw [e0]; rfl, ?_⟩
  rw [e0]
  show (w.heap.push _)[w.heap.size]? = _
  simp

/-- What a call of next hands out: nothing at the end; else the first byte, and the cursor behind it. -/
def Head (b : Nat) (s : ByteArray) (l : List UInt8) (c : Int) (ok : Bool) (w : World) : Prop :=
  (l = [] ∧ c = 0 ∧ ok = false) ∨ ∃ x t, l = x :: t ∧ c = (x.toNat : Int) ∧ ok = true ∧ Cur w b s t
def Got (b : Nat) (s : ByteArray) (l : List UInt8) (w : World) (e : Ending) (w' : World) : Prop :=
  ∃ c ok, e = .returned (.tuple #[.int .u8 c, .bool ok]) ∧ Head b s l c ok w' ∧ Only b w w'
theorem next_got (b : Nat) (s : ByteArray) (l : List UInt8) (w : World) (hs : s.size ≤ maxLen) (hc : Cur w b s l) :
    Calls Try.prog 118 #[.pointer (some ⟨b, 0, none⟩)] w (Got b s l w) := by
  cases l with
  | nil =>
    refine (next_none b s w hc).mono ?_
    rintro e w' ⟨rfl, h1, h2⟩
    exact ⟨0, false, rfl, Or.inl ⟨rfl, rfl, rfl⟩, h2⟩
  | cons x t =>
    refine (next_some b s x t w hs hc).mono ?_
    rintro e w' ⟨rfl, h1, h2⟩
    exact ⟨x.toNat, true, rfl, Or.inr ⟨x, t, rfl, rfl, rfl, h1⟩, h2⟩

def RunRel (s : ByteArray) (w : World) (B : Nat) (k : Nat) (c : Int) (ok : Bool) (wr : World) : Prop :=
  Below B w wr ∧ ∃ l, k + l.length ≤ s.size ∧ (uRunes l).map (· + k) = uRunes s.data.toList ∧ Head B s l c ok wr

theorem run_none {s : ByteArray} {k : Nat} {x : UInt8} {t : List UInt8} (h : (uRunes (x :: t)).map (· + k) = uRunes s.data.toList) (hp : uPoint x t = none) : uRunesI s.data.toList = -1 := by
  rw [uRunes_cons, hp] at h
  simp only [uRunesI, ← h]; rfl
theorem run_some {s : ByteArray} {k : Nat} {x : UInt8} {t : List UInt8} {r : Nat} {u : List UInt8} (h : (uRunes (x :: t)).map (· + k) = uRunes s.data.toList) (hp : uPoint x t = some (r, u)) : (uRunes u).map (· + (k + 1)) = uRunes s.data.toList := by
  rw [uRunes_cons, hp] at h
  rw [← h]
  simp only
  cases uRunes u with
  | none => rfl
  | some n => simp only [Option.map_some, Option.some.injEq]; omega
theorem run_end {s : ByteArray} {k : Nat} (h : (uRunes []).map (· + k) = uRunes s.data.toList) : uRunesI s.data.toList = (k : Int) := by
  rw [uRunes_nil] at h
  simp only [uRunesI, ← h, Option.map_some]; omega
theorem ret_i {k : IntKind} {a b : Int} (h : a = b) : Ending.returned (.int k a) = .returned (.int k b) := by rw [h]

set_option maxRecDepth 100000 in
set_option maxHeartbeats 1000000 in
theorem runes_any (s : ByteArray) (w : World) (hs : s.size ≤ maxLen) :
    Calls Try.prog 104 #[.string s] w fun e w' => e = .returned (.int .i64 (uRunesI s.data.toList)) ∧ Below w.heap.size w w' := by
  have hs' : s.size ≤ 9223372036854775807 := hs
  have hcN := Cur.new (w := w) (s := s)
  have hbN := (Below.refl w.heap.size w).alloc (Nat.le_refl _) (.cells #[.string s, .int .i64 0] 140)
  generalize hB : w.heap.size = B at hcN hbN
  have HB := Lib.hid hB
  clear hB
  go_enter Try.func104, Try.ntmps104
  go_wp2_with fail
  rw [HB.out]
  refine (next_got B s _ _ hs hcN).mono ?_
  rintro e w1 ⟨c, ok, rfl, hh, honly⟩
  have R : RunRel s w B 0 c ok w1 := ⟨hbN.trans (honly.below (Nat.le_refl _)), _, by rw [Array.length_toList]; show 0 + s.size ≤ s.size; omega, by cases uRunes s.data.toList <;> rfl, hh⟩
  clear hh honly hcN hbN
  go_wp2_with fail
  go_loopw [5, 6, 7] (fun n c ok wr => ∃ (k : Nat) (cv : Int) (okv : Bool), n = .int .i64 k ∧ c = .int .u8 cv ∧ ok = .bool okv ∧ RunRel s w B k cv okv wr) (fun n _ _ _ => s.size + 1 - (intOf n).toNat)
  case atStart => exact ⟨0, c, ok, rfl, rfl, rfl, R⟩
  case round =>
    clear R
    obtain ⟨k, cv, okv, rfl, rfl, rfl, hbel, l, hkl, hrun, hhead⟩ := hrel
    rcases hhead with ⟨rfl, rfl, rfl⟩ | ⟨x, t, rfl, rfl, rfl, hcur⟩
    · have HR := Lib.hid (run_end hrun)
      clear hrun
      go_wp2
      go_ret
      exact ⟨ret_i HR.out.symm, hbel⟩
    · simp only [List.length_cons] at hkl
      cases hp : uPoint x t with
      | none =>
        have HR := Lib.hid (run_none hrun hp)
        have HP := Lib.hid hp
        clear hrun hp
        go_wp2_with fail
        refine (point_at B s x t none _ hs hcur HP.out).mono ?_
        intro e w2 hrd
        obtain ⟨rfl, honly2⟩ := hrd.of_no
        clear hrd
        go_wp2
        go_ret
        exact ⟨ret_i HR.out.symm, hbel.trans (honly2.below (Nat.le_refl _))⟩
      | some p =>
        obtain ⟨r, u⟩ := p
        have hlen := uPoint_len hp
        have HR := Lib.hid (run_some hrun hp)
        have HP := Lib.hid hp
        clear hrun hp
        go_wp2_with fail
        refine (point_at B s x t _ _ hs hcur HP.out).mono ?_
        intro e w2 hrd
        obtain ⟨rfl, hcur2, honly2⟩ := hrd.of_yes
        clear hrd
        go_wp2_with fail
        refine (next_got B s u _ hs hcur2).mono ?_
        rintro e w3 ⟨c3, ok3, rfl, hh3, honly3⟩
        have R3 : RunRel s w B (k + 1) c3 ok3 w3 := ⟨(hbel.trans (honly2.below (Nat.le_refl _))).trans (honly3.below (Nat.le_refl _)), u, by omega, HR.out, hh3⟩
        clear hh3 honly3 hcur2 honly2
        go_wp2
        go_roundw
        case rel => exact ⟨k + 1, c3, ok3, by go_num, rfl, rfl, R3⟩
        case measure => simp [intOf]; omega

end Go.Proofs.Ythcphfpkinfjoaa
