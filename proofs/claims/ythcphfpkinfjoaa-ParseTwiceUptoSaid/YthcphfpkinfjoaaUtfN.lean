/-
  Plain facts on the functions of lists of bytes: what is quoted is read back.
  Conditions: none.
-/
import Derived.Test.YthcphfpkinfjoaaUtfM
namespace Go.Proofs.Ythcphfpkinfjoaa

theorem u8_eq {c : UInt8} {n : Nat} (h : c.toNat = n % 256) : UInt8.ofNat n = c := by
  apply UInt8.toNat_inj.1
  rw [UInt8.toNat_ofNat', h]

/-- The bytes of a code point that was read are the bytes that were read. -/
theorem uCont_one {r : Nat} {l : List UInt8} {q : Nat} {u : List UInt8} (h : uCont 1 r l = some (q, u)) : ∃ x, l = x :: u ∧ x.toNat / 64 = 2 ∧ q = r * 64 + x.toNat % 64 := by
  match l, h with
  | [], h => simp [uCont] at h
  | x :: t, h =>
    simp only [uCont] at h
    split at h
    · rename_i hx
      simp only [Option.some.injEq, Prod.mk.injEq] at h
      exact ⟨x, by rw [h.2], hx, h.1.symm⟩
    · simp at h
theorem uCont_succ {n r : Nat} {l : List UInt8} {q : Nat} {u : List UInt8} (h : uCont (n + 1) r l = some (q, u)) : ∃ x t, l = x :: t ∧ x.toNat / 64 = 2 ∧ uCont n (r * 64 + x.toNat % 64) t = some (q, u) := by
  match l, h with
  | [], h => simp [uCont] at h
  | x :: t, h =>
    simp only [uCont] at h
    split at h
    · rename_i hx; exact ⟨x, t, rfl, hx, h⟩
    · simp at h

theorem uPoint_bytes {c : UInt8} {p u : List UInt8} {r : Nat} (h : uPoint c (p ++ u) = some (r, u)) : uBytes r = c :: p := by
  have hc : c.toNat < 256 := c.toNat_lt
  have hnil : ∀ {v : List UInt8}, p ++ u = v ++ u → p = v := fun e => List.append_cancel_right e
  unfold uPoint at h
  split at h
  · rename_i h1
    simp only [Option.some.injEq, Prod.mk.injEq] at h
    have hp : p = [] := by
      have := congrArg List.length h.2; simp at this; exact this
    rw [← h.1, hp]
    unfold uBytes
    rw [if_pos h1, u8_eq (c := c) (by omega)]
  rename_i h1
  split at h
  · simp at h
  rename_i h2
  split at h
  · rename_i h3
    obtain ⟨_, _, _, _, _, hcont, hleast⟩ := uTail_loc h
    obtain ⟨x, e1, hx, hq⟩ := uCont_one hcont
    have hp : p = [x] := hnil e1
    have hx2 : x.toNat < 256 := x.toNat_lt
    rw [hp]
    unfold uBytes
    rw [if_neg (by omega), if_pos (by omega), u8_eq (c := c) (by omega), u8_eq (c := x) (by omega)]
  rename_i h3
  split at h
  · rename_i h4
    have hv := uTail_valid h
    obtain ⟨_, _, _, _, _, hcont, hleast⟩ := uTail_loc h
    obtain ⟨x, t1, e1, hx, hc1⟩ := uCont_succ hcont
    obtain ⟨y, e2, hy, hq⟩ := uCont_one hc1
    have hp : p = [x, y] := hnil (by rw [e1, e2]; rfl)
    have hx2 : x.toNat < 256 := x.toNat_lt
    have hy2 : y.toNat < 256 := y.toNat_lt
    rw [hp]
    unfold uBytes
    rw [if_neg (by omega), if_neg (by omega), if_pos (by omega), u8_eq (c := c) (by omega), u8_eq (c := x) (by omega), u8_eq (c := y) (by omega)]
  rename_i h4
  split at h
  · rename_i h5
    have hv := uTail_valid h
    obtain ⟨_, _, _, _, _, hcont, hleast⟩ := uTail_loc h
    obtain ⟨x, t1, e1, hx, hc1⟩ := uCont_succ hcont
    obtain ⟨y, t2, e2, hy, hc2⟩ := uCont_succ hc1
    obtain ⟨z, e3, hz, hq⟩ := uCont_one hc2
    have hp : p = [x, y, z] := hnil (by rw [e1, e2, e3]; rfl)
    have hx2 : x.toNat < 256 := x.toNat_lt
    have hy2 : y.toNat < 256 := y.toNat_lt
    have hz2 : z.toNat < 256 := z.toNat_lt
    rw [hp]
    unfold uBytes
    rw [if_neg (by omega), if_neg (by omega), if_neg (by omega), u8_eq (c := c) (by omega), u8_eq (c := x) (by omega), u8_eq (c := y) (by omega), u8_eq (c := z) (by omega)]
  · simp at h

theorem uHex_toNat : ∀ n : Fin 16, (uHex n.val).toNat = (if n.val < 10 then 48 + n.val else 87 + n.val) := by decide
theorem uDigit_hex (n : Nat) (h : n < 16) : uDigit (uHex n).toNat = some n := by
  rw [uHex_toNat ⟨n, h⟩]
  unfold uDigit
  simp only
  by_cases h10 : n < 10
  · rw [if_pos h10, if_pos (by omega)]; congr 1; omega
  · rw [if_neg h10, if_neg (by omega), if_pos (by omega)]; congr 1; omega

/-- A byte below 128, as it stands in a quote, is read as it was. -/
theorem uBody_enc (c : UInt8) (u : List UInt8) (h : c.toNat < 128) : uBody (uEnc c ++ u) = (uBody u).map fun p => (c :: p.1, p.2) := by
  have hb : uBytes c.toNat = [c] := by unfold uBytes; rw [if_pos h, u8_eq (c := c) (by omega)]
  have key : ∀ (e : List UInt8), uEsc (e ++ u) = some (c.toNat, u) → uBody (92 :: e ++ u) = (uBody u).map fun p => (c :: p.1, p.2) := by
    intro e he
    rw [List.cons_append, uBody_cons, if_neg (by decide), if_neg (by decide)]
    have hs : uSym 92 (e ++ u) = some (c.toNat, u) := by unfold uSym; rw [if_pos (by decide)]; exact he
    rw [hs]
    simp only [hb]; rfl
  unfold uEnc
  split
  · rename_i h1
    refine key [c] ?_
    simp only [List.cons_append, List.nil_append, uEsc]
    rw [if_pos (by omega)]
  rename_i h1
  split
  · rename_i h2; refine key [98] ?_; simp only [List.cons_append, List.nil_append, uEsc]; rw [h2]; rfl
  rename_i h2
  split
  · rename_i h3; refine key [116] ?_; simp only [List.cons_append, List.nil_append, uEsc]; rw [h3]; rfl
  rename_i h3
  split
  · rename_i h4; refine key [110] ?_; simp only [List.cons_append, List.nil_append, uEsc]; rw [h4]; rfl
  rename_i h4
  split
  · rename_i h5; refine key [102] ?_; simp only [List.cons_append, List.nil_append, uEsc]; rw [h5]; rfl
  rename_i h5
  split
  · rename_i h6; refine key [114] ?_; simp only [List.cons_append, List.nil_append, uEsc]; rw [h6]; rfl
  rename_i h6
  split
  · rename_i h7
    refine key [117, 48, 48, uHex (c.toNat / 16), uHex (c.toNat % 16)] ?_
    have hd : uDigs 4 0 (48 :: 48 :: uHex (c.toNat / 16) :: uHex (c.toNat % 16) :: u) = some (c.toNat, u) := by
      have h48 : uDigit (48 : UInt8).toNat = some 0 := by decide
      simp only [uDigs, h48, uDigit_hex _ (show c.toNat / 16 < 16 by omega), uDigit_hex _ (show c.toNat % 16 < 16 by omega)]
      congr 2; omega
    have hn : uNum (48 :: 48 :: uHex (c.toNat / 16) :: uHex (c.toNat % 16) :: u) = some (c.toNat, u) := by
      unfold uNum; rw [hd]
      simp only
      rw [if_neg (by simp only [uSur, Bool.and_eq_true, decide_eq_true_eq]; omega)]
    simp only [List.cons_append, List.nil_append, uEsc]
    exact hn
  · rename_i h7
    rw [List.cons_append, List.nil_append, uBody_cons, if_neg h7, if_neg (by omega)]
    have hs : uSym c u = some (c.toNat, u) := by unfold uSym; rw [if_neg (by omega)]; unfold uPoint; rw [if_pos h]
    rw [hs]
    simp only [hb]; rfl

theorem uEnc_high {c : UInt8} (h : 128 ≤ c.toNat) : uEnc c = [c] := by
  unfold uEnc
  rw [if_neg (by omega), if_neg (by omega), if_neg (by omega), if_neg (by omega), if_neg (by omega), if_neg (by omega), if_neg (by omega)]
theorem flat_high : ∀ (p : List UInt8), (∀ x ∈ p, x.toNat / 64 = 2) → p.flatMap uEnc = p
  | [], _ => rfl
  | x :: p, h => by
    rw [List.flatMap_cons, uEnc_high (by have := h x (by simp); omega), flat_high p (fun y hy => h y (by simp [hy]))]; rfl
theorem uPoint_one {c : UInt8} {p u : List UInt8} {r : Nat} (h : uPoint c (p ++ u) = some (r, u)) (hc : c.toNat < 128) : p = [] := by
  unfold uPoint at h
  rw [if_pos hc] at h
  simp only [Option.some.injEq, Prod.mk.injEq] at h
  have := congrArg List.length h.2; simp at this; exact this

theorem uBody_quote {s : List UInt8} {n : Nat} (hs : uRunes s = some n) (rest : List UInt8) : uBody (s.flatMap uEnc ++ 34 :: rest) = some (s, rest) := by
  refine uGood_ind (fun l _ => uBody (l.flatMap uEnc ++ 34 :: rest) = some (l, rest)) ?_ ?_ s.length s n (Nat.le_refl _) hs
  · rw [List.flatMap_nil, List.nil_append, uBody_cons, if_neg (by decide), if_pos (by decide)]
  · intro c p u r m hx hc hl _ _ ih
    have hpu := hl u
    by_cases h128 : c.toNat < 128
    · have hp := uPoint_one hpu h128
      subst hp
      rw [List.nil_append, List.flatMap_cons, List.append_assoc, uBody_enc c _ h128, ih]; rfl
    · rw [List.flatMap_cons, uEnc_high (by omega), List.flatMap_append, flat_high p hx, List.append_assoc, List.append_assoc, List.cons_append, List.nil_append, uBody_cons, if_neg (by omega), if_neg (by omega)]
      have hs' : uSym c (p ++ (u.flatMap uEnc ++ 34 :: rest)) = some (r, u.flatMap uEnc ++ 34 :: rest) := by
        unfold uSym; rw [if_neg (by omega)]; exact hl _
      rw [hs']
      simp only
      rw [ih, uPoint_bytes hpu]; simp

theorem uRunes_ascii : ∀ (e : List UInt8) (u : List UInt8), (∀ x ∈ e, x.toNat < 128) → uRunes (e ++ u) = (uRunes u).map (· + e.length)
  | [], u, _ => by cases h : uRunes u <;> simp [h]
  | x :: e, u, h => by
    have hx := h x (by simp)
    rw [List.cons_append, uRunes_point (show uPoint x (e ++ u) = some (x.toNat, e ++ u) by unfold uPoint; rw [if_pos hx]), uRunes_ascii e u (fun y hy => h y (by simp [hy]))]
    cases uRunes u <;> simp; omega
theorem uHex_lt (n : Nat) (h : n < 16) : (uHex n).toNat < 128 ∧ 32 ≤ (uHex n).toNat := by
  rw [uHex_toNat ⟨n, h⟩]; simp only; split <;> omega
theorem uEnc_ascii {c : UInt8} (h : c.toNat < 128) : ∀ x ∈ uEnc c, x.toNat < 128 := by
  unfold uEnc
  repeat' split
  all_goals (intro x hx; simp only [List.mem_cons, List.not_mem_nil, or_false] at hx)
  all_goals (rcases hx with rfl | rfl | rfl | rfl | rfl | rfl) <;> first | (subst hx; exact h) | exact h | decide | exact (uHex_lt _ (by omega)).1 | skip
theorem uEnc_ge (c : UInt8) : ∀ x ∈ uEnc c, 32 ≤ x.toNat := by
  unfold uEnc
  repeat' split
  all_goals (intro x hx; simp only [List.mem_cons, List.not_mem_nil, or_false] at hx)
  all_goals (rcases hx with rfl | rfl | rfl | rfl | rfl | rfl) <;> first | omega | decide | exact (uHex_lt _ (by omega)).2 | skip
theorem uQuote_ge (l : List UInt8) : ∀ x ∈ uQuote l, 32 ≤ x.toNat := by
  intro x hx
  simp only [uQuote, List.mem_append, List.mem_cons, List.mem_flatMap, List.not_mem_nil, or_false] at hx
  rcases hx with (rfl | ⟨c, _, hc⟩) | rfl
  · decide
  · exact uEnc_ge c x hc
  · decide
theorem uQuote_good {s : List UInt8} {n : Nat} (hs : uRunes s = some n) : (uRunes (uQuote s)).isSome = true := by
  have h1 : (uRunes (s.flatMap uEnc ++ [34])).isSome = true := by
    refine uGood_ind (fun l _ => (uRunes (l.flatMap uEnc ++ [34])).isSome = true) (by decide) ?_ s.length s n (Nat.le_refl _) hs
    intro c p u r m hx hc hl _ _ ih
    have hpu := hl u
    by_cases h128 : c.toNat < 128
    · have hp := uPoint_one hpu h128
      subst hp
      rw [List.nil_append, List.flatMap_cons, List.append_assoc, uRunes_ascii _ _ (uEnc_ascii h128), Option.isSome_map]; exact ih
    · rw [List.flatMap_cons, uEnc_high (by omega), List.flatMap_append, flat_high p hx, List.append_assoc, List.append_assoc, List.cons_append, List.nil_append, uRunes_point (hl _), Option.isSome_map]; exact ih
  show (uRunes (34 :: (s.flatMap uEnc ++ [34]))).isSome = true
  rw [uRunes_point (show uPoint 34 (s.flatMap uEnc ++ [34]) = some (34, s.flatMap uEnc ++ [34]) from by unfold uPoint; rw [if_pos (by decide)]; rfl), Option.isSome_map]
  exact h1
theorem uUnq_quote {s : List UInt8} {n : Nat} (hs : uRunes s = some n) (rest : List UInt8) : uUnq (uQuote s ++ rest) = some (s, (uQuote s).length) := by
  have e : uQuote s ++ rest = 34 :: (s.flatMap uEnc ++ 34 :: rest) := by simp [uQuote]
  rw [e]
  simp only [uUnq]
  rw [if_pos (by decide), uBody_quote hs rest]
  simp [uQuote]
  omega

end Go.Proofs.Ythcphfpkinfjoaa
