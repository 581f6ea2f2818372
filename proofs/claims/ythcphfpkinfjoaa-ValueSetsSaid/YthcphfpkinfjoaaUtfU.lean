/-
  What Unquote of package utf answers.
  Conditions: the string is short enough that what it says fits Go's own bound on a slice of bytes.
-/
import Derived.Test.YthcphfpkinfjoaaUtfE
import Derived.Test.YthcphfpkinfjoaaUtfQ
namespace Go.Proofs.Ythcphfpkinfjoaa
open Go.RowKit

theorem uDigs_len : ∀ (n r : Nat) (l : List UInt8) (q : Nat) (u : List UInt8), uDigs n r l = some (q, u) → u.length ≤ l.length
  | 0, r, l, q, u, h => by simp only [uDigs, Option.some.injEq, Prod.mk.injEq] at h; rw [h.2]; exact Nat.le_refl _
  | n + 1, r, [], q, u, h => by simp [uDigs] at h
  | n + 1, r, c :: t, q, u, h => by
    simp only [uDigs] at h
    cases hd : uDigit c.toNat with
    | none => rw [hd] at h; simp at h
    | some d => rw [hd] at h; have := uDigs_len n _ t q u h; simp; omega
theorem uLow_len {l : List UInt8} {q : Nat} {u : List UInt8} (h : uLow l = some (q, u)) : u.length ≤ l.length := by
  match l, h with
  | [], h => simp [uLow] at h
  | [_], h => simp [uLow] at h
  | a :: c :: t, h =>
    simp only [uLow] at h
    split at h
    · split at h
      · rename_i heq
        have := uDigs_len _ _ _ _ _ heq
        split at h
        · simp at h; simp; rw [← h.2]; omega
        · simp at h
      · simp at h
    · simp at h
theorem uNum_len {l : List UInt8} {q : Nat} {u : List UInt8} (h : uNum l = some (q, u)) : u.length ≤ l.length := by
  unfold uNum at h
  split at h
  · rename_i heq
    have := uDigs_len _ _ _ _ _ heq
    split at h
    · split at h
      · simp at h
      · split at h
        · rename_i hl
          have := uLow_len hl
          simp at h; rw [← h.2]; omega
        · simp at h
    · simp at h; rw [← h.2]; omega
  · simp at h
theorem uEsc_len {l : List UInt8} {q : Nat} {u : List UInt8} (h : uEsc l = some (q, u)) : u.length ≤ l.length := by
  match l, h with
  | [], h => simp [uEsc] at h
  | c :: t, h =>
    simp only [uEsc] at h
    repeat' split at h
    all_goals first
      | (simp only [Option.some.injEq, Prod.mk.injEq] at h; rw [← h.2]; simp; done)
      | (have := uNum_len h; simp; omega)
      | (simp at h)
theorem uSym_len {c : UInt8} {l : List UInt8} {q : Nat} {u : List UInt8} (h : uSym c l = some (q, u)) : u.length ≤ l.length := by
  unfold uSym at h
  split at h
  · exact uEsc_len h
  · exact uPoint_len h

/-- A code point's bytes. -/
def uBytes (r : Nat) : List UInt8 :=
  if r < 128 then [UInt8.ofNat r]
  else if r < 2048 then [UInt8.ofNat (192 + r / 64), UInt8.ofNat (128 + r % 64)]
  else if r < 65536 then [UInt8.ofNat (224 + r / 4096), UInt8.ofNat (128 + r / 64 % 64), UInt8.ofNat (128 + r % 64)]
  else [UInt8.ofNat (240 + r / 262144), UInt8.ofNat (128 + r / 4096 % 64), UInt8.ofNat (128 + r / 64 % 64), UInt8.ofNat (128 + r % 64)]
theorem uBytes_len (r : Nat) : 1 ≤ (uBytes r).length ∧ (uBytes r).length ≤ 4 := by
  unfold uBytes; repeat' split
  all_goals simp
theorem uBytes_is (r : Nat) (h1 : r ≤ 1114111) (h2 : uSur r = false) : Utf8.encode (r : Int) = ⟨(uBytes r).toArray⟩ := by
  have hv : Utf8.valid (r : Int) = true := by
    rw [validRune_eq]
    simp only [uSur, Bool.and_eq_false_iff, decide_eq_false_iff_not] at h2
    unfold validRune
    rw [decide_eq_true_eq]
    omega
  unfold Utf8.encode uBytes
  simp only [hv, if_true, Int.toNat_natCast]
  repeat' split
  all_goals rfl
theorem uTail_valid {n r least : Nat} {l : List UInt8} {q : Nat} {u : List UInt8} (h : uTail n r least l = some (q, u)) : q ≤ 1114111 ∧ uSur q = false := by
  unfold uTail at h
  split at h
  · split at h
    · rename_i hf
      simp only [Option.some.injEq, Prod.mk.injEq] at h
      rw [← h.1]
      simp only [uFit, Bool.and_eq_true, decide_eq_true_eq, Bool.not_eq_true'] at hf
      exact ⟨hf.1.2, hf.2⟩
    · simp at h
  · simp at h
theorem uPoint_valid {c : UInt8} {l : List UInt8} {q : Nat} {u : List UInt8} (h : uPoint c l = some (q, u)) : q ≤ 1114111 ∧ uSur q = false := by
  unfold uPoint at h
  split at h
  · simp only [Option.some.injEq, Prod.mk.injEq] at h
    rw [← h.1]
    refine ⟨by omega, ?_⟩
    simp only [uSur, Bool.and_eq_false_iff, decide_eq_false_iff_not]; omega
  split at h
  · simp at h
  split at h
  · exact uTail_valid h
  split at h
  · exact uTail_valid h
  split at h
  · exact uTail_valid h
  · simp at h
theorem uNum_valid {l : List UInt8} {q : Nat} {u : List UInt8} (h : uNum l = some (q, u)) : q ≤ 1114111 ∧ uSur q = false := by
  unfold uNum at h
  split at h
  · rename_i heq
    have h16 := uDigs_lt _ _ _ _ _ heq
    split at h
    · rename_i hsur
      simp only [uSur, Bool.and_eq_true, decide_eq_true_eq] at hsur
      split at h
      · simp at h
      · split at h
        · rename_i hl
          have hb := uLow_bd hl
          simp only [Option.some.injEq, Prod.mk.injEq] at h
          rw [← h.1]
          refine ⟨by omega, ?_⟩
          simp only [uSur, Bool.and_eq_false_iff, decide_eq_false_iff_not]; omega
        · simp at h
    · rename_i hsur
      simp only [Option.some.injEq, Prod.mk.injEq] at h
      rw [← h.1]
      exact ⟨by omega, by simpa using hsur⟩
  · simp at h
theorem uEsc_valid {l : List UInt8} {q : Nat} {u : List UInt8} (h : uEsc l = some (q, u)) : q ≤ 1114111 ∧ uSur q = false := by
  match l, h with
  | [], h => simp [uEsc] at h
  | c :: t, h =>
    have hc : c.toNat < 256 := c.toNat_lt
    simp only [uEsc] at h
    repeat' split at h
    all_goals first
      | (simp only [Option.some.injEq, Prod.mk.injEq] at h; rw [← h.1]; refine ⟨by omega, ?_⟩; simp only [uSur, Bool.and_eq_false_iff, decide_eq_false_iff_not]; omega)
      | (exact uNum_valid h)
      | (simp at h)
theorem uSym_valid {c : UInt8} {l : List UInt8} {q : Nat} {u : List UInt8} (h : uSym c l = some (q, u)) : q ≤ 1114111 ∧ uSur q = false := by
  unfold uSym at h
  split at h
  · exact uEsc_valid h
  · exact uPoint_valid h

/-- What stands behind a quote's beginning: what it says, and what is left behind its end. -/
def uBodyF : Nat → List UInt8 → Option (List UInt8 × List UInt8)
  | _, [] => none
  | 0, _ :: _ => none
  | n + 1, c :: t => if c.toNat < 32 then none else if c.toNat = 34 then some ([], t)
    else match uSym c t with
      | some (r, u) => (uBodyF n u).map fun p => (uBytes r ++ p.1, p.2)
      | none => none
def uBody (l : List UInt8) : Option (List UInt8 × List UInt8) := uBodyF l.length l
theorem uBodyF_more : ∀ (n m : Nat) (l : List UInt8), l.length ≤ n → l.length ≤ m → uBodyF n l = uBodyF m l
  | _, _, [], _, _ => by simp [uBodyF]
  | 0, _, _ :: _, h, _ => by simp at h
  | _, 0, _ :: _, _, h => by simp at h
  | n + 1, m + 1, c :: t, h1, h2 => by
    simp only [uBodyF]
    cases hp : uSym c t with
    | none => rfl
    | some p =>
      obtain ⟨r, u⟩ := p
      have hl := uSym_len hp
      simp only [List.length_cons] at h1 h2
      simp only
      rw [uBodyF_more n m u (by omega) (by omega)]
theorem uBody_nil : uBody [] = none := rfl
theorem uBody_cons (c : UInt8) (t : List UInt8) : uBody (c :: t) = if c.toNat < 32 then none else if c.toNat = 34 then some ([], t)
    else match uSym c t with
      | some (r, u) => (uBody u).map fun p => (uBytes r ++ p.1, p.2)
      | none => none := by
  show uBodyF (t.length + 1) (c :: t) = _
  simp only [uBodyF]
  cases hp : uSym c t with
  | none => rfl
  | some p =>
    obtain ⟨r, u⟩ := p
    have hl := uSym_len hp
    simp only [uBody]
    rw [uBodyF_more t.length u.length u hl (Nat.le_refl _)]
/-- What a text that begins with a quote says, and how many bytes the quote has. -/
def uUnq : List UInt8 → Option (List UInt8 × Nat)
  | [] => none
  | c :: t => if c.toNat = 34 then (uBody t).map fun p => (p.1, t.length + 1 - p.2.length) else none

def Unq (s : ByteArray) (w : World) (e : Ending) (w' : World) : Prop :=
  Below w.heap.size w w' ∧ match uUnq s.data.toList with
    | some (o, n) => e = .returned (.tuple #[.string ⟨o.toArray⟩, .int .i64 (n : Nat), .int .i64 0])
    | none => e = .returned (.tuple #[.string ⟨#[]⟩, .int .i64 0, .int .i64 2])
theorem Unq.no {s : ByteArray} {w w' : World} (h : uUnq s.data.toList = none) (hb : Below w.heap.size w w') : Unq s w (.returned (.tuple #[.string ⟨#[]⟩, .int .i64 0, .int .i64 2])) w' := by
  refine ⟨hb, ?_⟩; rw [h]
theorem Unq.yes {s : ByteArray} {w w' : World} {o : List UInt8} {n : Nat} {z : Int} (h : uUnq s.data.toList = some (o, n)) (hz : z = (n : Int)) (hb : Below w.heap.size w w') : Unq s w (.returned (.tuple #[.string ⟨o.toArray⟩, .int .i64 z, .int .i64 0])) w' := by
  refine ⟨hb, ?_⟩; rw [h, hz]

def curAt (w : World) (M : Nat) : Nat := match w.cell? ⟨M, 1, none⟩ with
  | some (.int _ n) => n.toNat
  | _ => 0
theorem Cur.at {w : World} {b : Nat} {s : ByteArray} {l : List UInt8} (h : Cur w b s l) : curAt w b = s.size - l.length := by
  unfold curAt; rw [h.cells.2.1]; simp

def URel (s : ByteArray) (w : World) (M : Nat) (t0 : List UInt8) (o : Value) (wr : World) : Prop :=
  M + 1 ≤ wr.heap.size ∧ Below w.heap.size w wr ∧ ∃ xs l, Owns wr (M + 1) o xs ∧ Cur wr M s l ∧ (uBody l).map (fun p => (xs ++ p.1, p.2)) = uBody t0 ∧ xs.length + 4 * l.length ≤ 4 * s.size

theorem u_size {c : UInt8} {t : List UInt8} {r : Nat} {u : List UInt8} (h : uSym c t = some (r, u)) : (Utf8.encode (r : Int)).size = (uBytes r).length := by
  obtain ⟨h1, h2⟩ := uSym_valid h
  rw [uBytes_is r h1 h2]; rfl
theorem u_fits1 {s : ByteArray} {c : UInt8} {t : List UInt8} {r : Nat} {u xs : List UInt8} (h : uSym c t = some (r, u)) (h4 : xs.length + 4 * (c :: t).length ≤ 4 * s.size) (hs : 4 * s.size + 8 ≤ 140737488355328) : xs.length + (Utf8.encode (r : Int)).size ≤ maxLen := by
  rw [u_size h]
  have := uBytes_len r
  simp only [List.length_cons] at h4
  unfold maxLen; omega
theorem u_fits2 {s : ByteArray} {c : UInt8} {t : List UInt8} {r : Nat} {u xs : List UInt8} (h : uSym c t = some (r, u)) (h4 : xs.length + 4 * (c :: t).length ≤ 4 * s.size) (hs : 4 * s.size + 8 ≤ 140737488355328) : xs.length + (Utf8.encode (r : Int)).size ≤ 140737488355328 := by
  rw [u_size h]
  have := uBytes_len r
  simp only [List.length_cons] at h4
  omega
theorem u_below {w3 w4 : World} {M : Nat} {o : Value} {xs : List UInt8} (hz3 : M + 1 ≤ w3.heap.size) (hown3 : Owns w3 (M + 1) o xs) (hgrow : w3.grownBy w4 o.ownBlock) : Below (M + 1) w3 w4 :=
  (Below.refl _ _).grown hgrow hz3 (fun k hk => by
    rcases hown3.2 with ⟨e0, _⟩ | ⟨g, cap, cur, e0, hg, _⟩
    · rw [e0] at hk; simp [Value.ownBlock] at hk
    · rw [e0] at hk; simp [Value.ownBlock] at hk; omega)
theorem u_meas {s : ByteArray} {w3 w4 : World} {M : Nat} {o : Value} {xs u : List UInt8} (hz3 : M + 1 ≤ w3.heap.size) (hown3 : Owns w3 (M + 1) o xs) (hgrow : w3.grownBy w4 o.ownBlock) (hcur3 : Cur w3 M s u) : curAt w4 M = s.size - u.length :=
  (hcur3.below (u_below hz3 hown3 hgrow) (Nat.lt_succ_self _)).at
theorem u_step {s : ByteArray} {w w3 w4 : World} {M : Nat} {o v' : Value} {xs t0 : List UInt8} {c : UInt8} {t : List UInt8} {r : Nat} {u : List UInt8} (hM : w.heap.size = M) (hz3 : M + 1 ≤ w3.heap.size) (hb3 : Below w.heap.size w w3)
    (hown3 : Owns w3 (M + 1) o xs) (hown' : w4.ownsRow (M + 1) 5 1 v' (xs.length + (Utf8.encode (r : Int)).size) (byteVals xs ++ Lib.strCells (Utf8.encode (r : Int)))) (hgrow : w3.grownBy w4 o.ownBlock)
    (hcur3 : Cur w3 M s u) (h32 : ¬ c.toNat < 32) (h34 : ¬ c.toNat = 34) (h : uSym c t = some (r, u)) (hbody : (uBody (c :: t)).map (fun p => (xs ++ p.1, p.2)) = uBody t0) (h4 : xs.length + 4 * (c :: t).length ≤ 4 * s.size) : URel s w M t0 v' w4 := by
  obtain ⟨g1, g2⟩ := uSym_valid h
  rw [u_size h, uBytes_is r g1 g2] at hown'
  have h1 : Owns w4 (M + 1) v' (xs ++ uBytes r) := Owns.of_append (ys := uBytes r) hown' rfl rfl
  have h2 := u_below hz3 hown3 hgrow
  have hbl := uBytes_len r
  have hul := uSym_len h
  refine ⟨Nat.le_trans hz3 h2.size, hb3.trans (h2.mono (by rw [hM]; exact Nat.le_succ _)), xs ++ uBytes r, u, h1, hcur3.below h2 (Nat.lt_succ_self _), ?_, ?_⟩
  · rw [← hbody, uBody_cons, if_neg h32, if_neg h34, h]
    simp only
    cases uBody u with
    | none => rfl
    | some q => simp
  · simp only [List.length_append, List.length_cons] at h4 ⊢; omega

set_option maxRecDepth 100000 in
set_option maxHeartbeats 1000000 in
theorem unquote_any (s : ByteArray) (w : World) (hs : 4 * s.size + 8 ≤ 140737488355328) :
    Calls Try.prog 134 #[.string s] w (Unq s w) := by
  have hs' : s.size ≤ maxLen := by unfold maxLen; omega
  obtain ⟨i0, hi, hz0, hz1, hz2⟩ := info_parts info_u8
  have hcN := Cur.new (w := w) (s := s)
  have hbN := (Below.refl w.heap.size w).alloc (Nat.le_refl _) (.cells #[.string s, .int .i64 0] 140)
  have hzN : w.heap.size + 1 ≤ (w.alloc (.cells #[.string s, .int .i64 0] 140)).heap.size := by simp
  obtain ⟨M, hM⟩ : ∃ M, w.heap.size = M := ⟨_, rfl⟩
  obtain ⟨l0, hl0⟩ : ∃ l0, s.data.toList = l0 := ⟨_, rfl⟩
  rw [hl0] at hcN
  have HL := Lib.hid hl0
  have HM := Lib.hid hM
  rw [hM] at hcN hbN hzN
  clear hl0 hM
  cases l0 with
  | nil =>
    have HU := Lib.hid (show uUnq s.data.toList = none by rw [HL.out]; rfl)
    go_enter Try.func134, Try.ntmps134
    go_wp2_with fail
    rw [HM.out]
    refine (next_none M s _ hcN).mono ?_
    rintro e w1 ⟨rfl, hcur1, honly1⟩
    go_wp2
    refine bodyPost_ret (v := .tuple #[.string ⟨#[]⟩, .int .i64 0, .int .i64 2]) (by simp [results, Try.results134, go_sem]) rfl ?_
    exact Unq.no HU.out (by rw [HM.out]; exact hbN.trans (honly1.below (Nat.le_refl _)))
  | cons x t0 =>
    by_cases hx : x.toNat = 34
    · have e34 : ((x.toNat : Int) != 34) = false := by simp; omega
      have HU := Lib.hid (show uUnq s.data.toList = (uBody t0).map fun p => (p.1, t0.length + 1 - p.2.length) by rw [HL.out]; simp only [uUnq]; rw [if_pos hx])
      clear hx
      go_enter Try.func134, Try.ntmps134
      go_wp2_with fail
      rw [HM.out]
      refine (next_some M s x t0 _ hs' hcN).mono ?_
      rintro e w1 ⟨rfl, hcur1, honly1⟩
      have hlt0 : t0.length + 1 = s.size := by
        have h1 : s.data.toList.length = s.size := Array.length_toList
        rw [HL.out] at h1; simpa using h1
      have R : URel s w M t0 (.slice none 0 0) w1 := ⟨by rw [honly1.size]; exact hzN, by rw [HM.out]; exact hbN.trans (honly1.below (Nat.le_refl _)), [], t0, ⟨rfl, Or.inl ⟨rfl, rfl⟩⟩, hcur1, by cases uBody t0 <;> rfl, by simp; omega⟩
      clear hcur1 honly1 hcN hbN hzN
      go_wp2_with fail
      go_loopw [9] (fun o wr => URel s w M t0 o wr) (fun _ wr => s.size + 1 - curAt wr M)
      case atStart => exact R
      case round =>
        clear R
        obtain ⟨hz, hbel, xs, l, hown, hcur, hbody, hlen⟩ := hrel
        have HA := Lib.hid hcur.at
        cases l with
        | nil =>
          have HN := Lib.hid (show uUnq s.data.toList = none by rw [HU.out, ← hbody]; rfl)
          clear hbody hlen
          go_wp2_with fail
          refine (next_none M s _ hcur).mono ?_
          rintro e w2 ⟨rfl, hcur2, honly2⟩
          go_wp2
          refine bodyPost_ret (v := .tuple #[.string ⟨#[]⟩, .int .i64 0, .int .i64 2]) (by simp [results, Try.results134, go_sem]) rfl ?_
          exact Unq.no HN.out (hbel.trans (honly2.below (by rw [HM.out]; exact Nat.le_refl _)))
        | cons c t =>
          by_cases h32 : c.toNat < 32
          · have HN := Lib.hid (show uUnq s.data.toList = none by rw [HU.out, ← hbody, uBody_cons, if_pos h32]; rfl)
            have h32' : (c.toNat : Int) < 32 := by omega
            clear hbody hlen
            go_wp2_with fail
            refine (next_some M s c t _ hs' hcur).mono ?_
            rintro e w2 ⟨rfl, hcur2, honly2⟩
            go_wp2
            refine bodyPost_ret (v := .tuple #[.string ⟨#[]⟩, .int .i64 0, .int .i64 2]) (by simp [results, Try.results134, go_sem]) rfl ?_
            exact Unq.no HN.out (hbel.trans (honly2.below (by rw [HM.out]; exact Nat.le_refl _)))
          · have h32' : ¬ (c.toNat : Int) < 32 := by omega
            by_cases h34 : c.toNat = 34
            · have HN := Lib.hid (show uUnq s.data.toList = some (xs, s.size - t.length) by rw [HU.out, ← hbody, uBody_cons, if_neg h32, if_pos h34]; simp [hlt0])
              have e34' : ((c.toNat : Int) == 34) = true := by simp; omega
              clear hbody h34
              go_wp2_with fail
              refine (next_some M s c t _ hs' hcur).mono ?_
              rintro e w2 ⟨rfl, hcur2, honly2⟩
              have hown2 := hown.only honly2 (Nat.lt_succ_self _)
              have hstr := (show Owns w2.drew (M + 1) _ xs from hown2).toStr
              obtain ⟨hc0, hc1, hc2⟩ := hcur2.cells
              go_wp2
              go_region
              all_goals
                try go_wp2
                refine bodyPost_ret (v := .tuple #[.string ⟨xs.toArray⟩, .int .i64 ((s.size - t.length : Nat) : Int), .int .i64 0]) (by simp [results, Try.results134, go_sem]) rfl ?_
                exact Unq.yes HN.out rfl (hbel.trans (honly2.below (by rw [HM.out]; exact Nat.le_refl _))).drew
            · have e34' : ((c.toNat : Int) == 34) = false := by simp; omega
              cases hsym : uSym c t with
              | none =>
                have HN := Lib.hid (show uUnq s.data.toList = none by rw [HU.out, ← hbody, uBody_cons, if_neg h32, if_neg h34, hsym]; rfl)
                have HS := Lib.hid hsym
                clear hbody h34 hsym
                go_wp2_with fail
                refine (next_some M s c t _ hs' hcur).mono ?_
                rintro e w2 ⟨rfl, hcur2, honly2⟩
                go_wp2_with fail
                refine (sym_at M s c t none _ hs' hcur2 HS.out).mono ?_
                intro e w3 hrd
                obtain ⟨rfl, honly3⟩ := hrd.of_no
                clear hrd
                go_wp2
                refine bodyPost_ret (v := .tuple #[.string ⟨#[]⟩, .int .i64 0, .int .i64 2]) (by simp [results, Try.results134, go_sem]) rfl ?_
                exact Unq.no HN.out (hbel.trans ((honly2.trans honly3).below (by rw [HM.out]; exact Nat.le_refl _)))
              | some p =>
                obtain ⟨r, u⟩ := p
                have HS := Lib.hid hsym
                have HBD := Lib.hid hbody
                have HLEN := Lib.hid hlen
                have HSS := Lib.hid hs
                have H34 := Lib.hid h34
                clear hbody h34 hsym hlen hs
                go_wp2_with fail
                refine (next_some M s c t _ hs' hcur).mono ?_
                rintro e w2 ⟨rfl, hcur2, honly2⟩
                go_wp2_with fail
                refine (sym_at M s c t _ _ hs' hcur2 HS.out).mono ?_
                intro e w3 hrd
                obtain ⟨rfl, hcur3, honly3⟩ := hrd.of_yes
                clear hrd
                have hown3 := hown.only (honly2.trans honly3) (Nat.lt_succ_self _)
                have hz3 : M + 1 ≤ w3.heap.size := by rw [honly3.size, honly2.size]; exact hz
                have hb3 : Below w.heap.size w w3 := hbel.trans ((honly2.trans honly3).below (by rw [HM.out]; exact Nat.le_refl _))
                have HUL := Lib.hid hcur.1
                clear hown hz hbel honly2 honly3 hcur2 hcur
                go_wp2_with (first
                  | (at_builtin; refine Lib.wpList_append_own_string _ rfl _ _ 89 9 rfl (M + 1) 5 i0 Try.underlying89 Try.underlying9 hi hz0 hz1 hz2 _ _ _ rfl hown3 (Utf8.encode (r : Int)) rfl (u_fits1 HS.out HLEN.out HSS.out) (u_fits2 HS.out HLEN.out HSS.out) hz3 ?_))
                intro v' w4 hown' hgrow hne
                have R4 := u_step HM.out hz3 hb3 hown3 hown' hgrow hcur3 h32 H34.out HS.out HBD.out HLEN.out
                have HA4 := Lib.hid (u_meas hz3 hown3 hgrow hcur3)
                clear hown' hgrow hne hown3 hcur3
                go_wp2
                go_roundw
                case rel => exact R4
                case measure =>
                  have e1 := HA.out
                  have e2 := HA4.out
                  have e3 := HUL.out
                  have e4 := uSym_len HS.out
                  simp only [List.length_cons] at e1 e3
                  simp only [e1, e2]
                  omega
    · have e34 : ((x.toNat : Int) != 34) = true := by simp; omega
      have HU := Lib.hid (show uUnq s.data.toList = none by rw [HL.out]; simp only [uUnq]; rw [if_neg hx])
      clear hx
      go_enter Try.func134, Try.ntmps134
      go_wp2_with fail
      rw [HM.out]
      refine (next_some M s x t0 _ hs' hcN).mono ?_
      rintro e w1 ⟨rfl, hcur1, honly1⟩
      go_wp2
      refine bodyPost_ret (v := .tuple #[.string ⟨#[]⟩, .int .i64 0, .int .i64 2]) (by simp [results, Try.results134, go_sem]) rfl ?_
      exact Unq.no HU.out (by rw [HM.out]; exact hbN.trans (honly1.below (Nat.le_refl _)))

end Go.Proofs.Ythcphfpkinfjoaa
