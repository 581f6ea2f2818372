/-
  What is read of a row of keys, the last of which is there already or not.
  Conditions: none.
-/
import Derived.Test.YthcphfpkinfjoaaPaN
import Derived.Test.YthcphfpkinfjoaaUtfN
namespace Go.Proofs.Ythcphfpkinfjoaa

theorem pKey_quote (ks : List ByteArray) {q k : List UInt8} (rest : List UInt8) (h34 : ∃ t, q = 34 :: t) (hq : uUnq (q ++ rest) = some (k, q.length)) :
    pKey ks (q ++ rest) = if pHas ks ⟨k.toArray⟩ = true then .error 4 else .ok (⟨k.toArray⟩, rest) := by
  obtain ⟨t, rfl⟩ := h34
  unfold pKey
  rw [List.cons_append] at hq ⊢
  rw [pSkip_not _ (show pBlank 34 = false from rfl)]
  simp only
  rw [if_pos (by decide), hq]
  simp only
  rw [show (34 :: (t ++ rest)).drop (34 :: t).length = rest by rw [← List.cons_append, List.drop_left]]
theorem pVal_digit (f d : Nat) (c x : UInt8) (rest : List UInt8) (hc : c = 48 ∨ c = 49) (hx : pSign x = false) : pVal (f + 1) d (c :: x :: rest) = .ok (jInt ((c.toNat : Int) - 48), x :: rest) := by
  have hr : pRun (x :: rest) = [] := by simp [pRun, hx]
  have hp : pPast (x :: rest) = x :: rest := by simp [pPast, hx]
  have hn : NumT [c] := by
    rcases hc with rfl | rfl
    · exact ⟨by decide, 48, [], rfl, .inr rfl⟩
    · exact ⟨by decide, 49, [], rfl, .inr rfl⟩
  have := hn.val (x :: rest) hr f d
  rw [hp] at this
  rw [List.cons_append, List.nil_append] at this
  rw [this]
  rcases hc with rfl | rfl
  · rfl
  · rfl
theorem pMems_row (f d : Nat) (ks : List ByteArray) {q k : List UInt8} (rest : List UInt8) (h34 : ∃ t, q = 34 :: t) (hq : ∀ r, uUnq (q ++ r) = some (k, q.length)) (hno : pHas ks ⟨k.toArray⟩ = false) :
    pMems (f + 2) d ks (q ++ 58 :: 48 :: 44 :: rest) = rCons (⟨k.toArray⟩, jInt 0) (pMems (f + 1) d (ks ++ [⟨k.toArray⟩]) rest) := by
  rw [pMems, pKey_quote ks _ h34 (hq _), if_neg (by rw [hno]; decide)]
  simp only
  rw [pSkip_not _ (show pBlank 58 = false from rfl)]
  simp only
  rw [if_pos (by decide), pVal_digit f d 48 44 rest (.inl rfl) rfl]
  simp only
  rw [pSkip_not _ (show pBlank 44 = false from rfl)]
  simp only
  rw [if_neg (by decide), if_pos (by decide)]
  rfl
theorem pMems_twice (f d : Nat) (ks : List ByteArray) {q k : List UInt8} (rest : List UInt8) (h34 : ∃ t, q = 34 :: t) (hq : ∀ r, uUnq (q ++ r) = some (k, q.length)) (hyes : pHas ks ⟨k.toArray⟩ = true) :
    pMems (f + 1) d ks (q ++ rest) = .error 4 := by
  rw [pMems, pKey_quote ks _ h34 (hq _), if_pos hyes]
theorem pMems_last (f d : Nat) (ks : List ByteArray) {q k : List UInt8} (c : UInt8) (rest : List UInt8) (hc : c = 48 ∨ c = 49) (h34 : ∃ t, q = 34 :: t) (hq : ∀ r, uUnq (q ++ r) = some (k, q.length)) (hno : pHas ks ⟨k.toArray⟩ = false) :
    pMems (f + 2) d ks (q ++ 58 :: c :: 125 :: rest) = .ok ([(⟨k.toArray⟩, jInt ((c.toNat : Int) - 48))], rest) := by
  rw [pMems, pKey_quote ks _ h34 (hq _), if_neg (by rw [hno]; decide)]
  simp only
  rw [pSkip_not _ (show pBlank 58 = false from rfl)]
  simp only
  rw [if_pos (by decide), pVal_digit f d c 125 rest hc rfl]
  simp only
  rw [pSkip_not _ (show pBlank 125 = false from rfl)]
  simp only
  rw [if_pos (by decide)]
theorem uQuote_34 (k : List UInt8) : ∃ t, uQuote k = 34 :: t := ⟨_, rfl⟩
/-- Rows of keys, each with a nought. -/
def rowS (ks : List (List UInt8)) : List UInt8 := ks.flatMap fun k => uQuote k ++ [58, 48, 44]
def baOf (k : List UInt8) : ByteArray := ⟨k.toArray⟩
theorem baOf_inj {a b : List UInt8} (h : baOf a = baOf b) : a = b := by
  have := congrArg (fun x : ByteArray => x.data.toList) h
  simpa [baOf] using this
theorem pHas_false {ks : List ByteArray} {k : ByteArray} (h : k ∉ ks) : pHas ks k = false := by
  unfold pHas
  rw [List.any_eq_false]
  intro y hy
  simp only [decide_eq_true_eq]
  intro e; subst e; exact h hy
theorem pHas_true {ks : List ByteArray} {k : ByteArray} (h : k ∈ ks) : pHas ks k = true := by
  unfold pHas
  rw [List.any_eq_true]
  exact ⟨k, h, by simp⟩
theorem pMems_rows (d : Nat) : ∀ (ks : List (List UInt8)) (seen : List ByteArray) (f : Nat) (rest : List UInt8), (∀ k ∈ ks, (uRunes k).isSome = true) → (seen ++ ks.map baOf).Nodup →
    pMems (f + 1 + ks.length) d seen (rowS ks ++ rest) = rApp (ks.map fun k => (baOf k, jInt 0)) (pMems (f + 1) d (seen ++ ks.map baOf) rest)
  | [], seen, f, rest, _, _ => by
    simp only [rowS, List.flatMap_nil, List.nil_append, List.length_nil, Nat.add_zero, List.map_nil, List.append_nil]
    cases pMems (f + 1) d seen rest with
    | error e => rfl
    | ok p => rfl
  | k :: ks, seen, f, rest, hg, hn => by
    obtain ⟨n, hk⟩ := Option.isSome_iff_exists.1 (hg k List.mem_cons_self)
    have e : rowS (k :: ks) ++ rest = uQuote k ++ 58 :: 48 :: 44 :: (rowS ks ++ rest) := by simp [rowS]
    have hno : pHas seen (baOf k) = false := by
      apply pHas_false
      intro hm
      rw [List.map_cons] at hn
      have := (List.nodup_append.1 hn).2.2 (baOf k) hm (baOf k) List.mem_cons_self
      exact this rfl
    rw [e, show f + 1 + (k :: ks).length = (f + ks.length) + 2 by simp only [List.length_cons]; omega]
    rw [pMems_row (f + ks.length) d seen (rowS ks ++ rest) (uQuote_34 k) (fun r => uUnq_quote hk r) hno]
    have ih := pMems_rows d ks (seen ++ [baOf k]) f rest (fun x hx => hg x (List.mem_cons_of_mem _ hx)) (by simpa using hn)
    rw [show f + ks.length + 1 = f + 1 + ks.length by omega]
    have e2 : pMems (f + 1 + ks.length) d (seen ++ [⟨k.toArray⟩]) (rowS ks ++ rest) = _ := ih
    rw [e2]
    rw [show seen ++ [baOf k] ++ ks.map baOf = seen ++ (k :: ks).map baOf by simp]
    cases pMems (f + 1) d (seen ++ (k :: ks).map baOf) rest with
    | error e => rfl
    | ok p => rfl
theorem pVal_map (f d : Nat) (T : List UInt8) (hd : d ≠ 50) (hT : ∃ t, T = 34 :: t) : pVal (f + 1) d (123 :: T) = rMap (pMems f (d + 1) [] T) := by
  obtain ⟨t, rfl⟩ := hT
  rw [pVal, pSkip_not _ (show pBlank 123 = false from rfl)]
  simp only
  rw [if_neg (by decide), if_pos (by decide), if_neg hd, pSkip_not _ (show pBlank 34 = false from rfl)]
  simp only
  rw [if_neg (by decide)]
theorem rowS_34 (ks : List (List UInt8)) (rest : List UInt8) (h : ∃ t, rest = 34 :: t) : ∃ t, rowS ks ++ rest = 34 :: t := by
  cases ks with
  | nil => simpa [rowS] using h
  | cons k ks =>
    obtain ⟨t, ht⟩ := uQuote_34 k
    refine ⟨t ++ [58, 48, 44] ++ rowS ks ++ rest, ?_⟩
    rw [show rowS (k :: ks) = uQuote k ++ [58, 48, 44] ++ rowS ks by simp [rowS], ht]
    simp
theorem q_34 (k rest : List UInt8) : ∃ t, uQuote k ++ rest = 34 :: t := ⟨_, rfl⟩
theorem rowS_len : ∀ (ks : List (List UInt8)), ks.length ≤ (rowS ks).length
  | [] => Nat.le_refl _
  | k :: ks => by
    have := rowS_len ks
    simp only [rowS, List.flatMap_cons, List.length_append, List.length_cons, uQuote] at this ⊢
    omega
/-- A key that is there already is told. -/
theorem twice_no (ks : List (List UInt8)) {q k : List UInt8} (rest : List UInt8) (hg : ∀ k ∈ ks, (uRunes k).isSome = true) (hn : (ks.map baOf).Nodup) (h34 : ∃ t, q = 34 :: t) (hq : ∀ r, uUnq (q ++ r) = some (k, q.length)) (hk : k ∈ ks) (hl : (123 :: (rowS ks ++ (q ++ rest))).length ≤ 10000) :
    pParse (123 :: (rowS ks ++ (q ++ rest))) 10000 = .error 4 := by
  unfold pParse pAll
  rw [if_neg (by omega)]
  have hlen := rowS_len ks
  obtain ⟨F, hF⟩ : ∃ F, 2 * (123 :: (rowS ks ++ (q ++ rest))).length = F + 1 + ks.length := by
    refine ⟨2 * (123 :: (rowS ks ++ (q ++ rest))).length - 1 - ks.length, ?_⟩
    simp only [List.length_cons, List.length_append]
    omega
  rw [hF, pVal_map _ 0 _ (by decide) (rowS_34 ks _ (by obtain ⟨t, rfl⟩ := h34; exact ⟨_, rfl⟩)), pMems_rows 1 ks [] F (q ++ rest) hg (by simpa using hn), pMems_twice F 1 _ rest h34 hq (pHas_true (by rw [List.nil_append]; exact List.mem_map.2 ⟨k, hk, rfl⟩))]
  rfl
theorem twice_yes (ks : List (List UInt8)) {k : List UInt8} (hg : ∀ k ∈ ks, (uRunes k).isSome = true) (hn : (ks.map baOf).Nodup) (hgk : (uRunes k).isSome = true) (hk : k ∉ ks) (hl : (123 :: (rowS ks ++ (uQuote k ++ [58, 48, 125]))).length ≤ 10000) :
    ∃ t, pParse (123 :: (rowS ks ++ (uQuote k ++ [58, 48, 125]))) 10000 = .ok t := by
  obtain ⟨n, hkn⟩ := Option.isSome_iff_exists.1 hgk
  unfold pParse pAll
  rw [if_neg (by omega)]
  have hlen := rowS_len ks
  obtain ⟨F, hF⟩ : ∃ F, 2 * (123 :: (rowS ks ++ (uQuote k ++ [58, 48, 125]))).length = F + 1 + 1 + ks.length := by
    refine ⟨2 * (123 :: (rowS ks ++ (uQuote k ++ [58, 48, 125]))).length - 2 - ks.length, ?_⟩
    simp only [List.length_cons, List.length_append]
    omega
  rw [hF, pVal_map _ 0 _ (by decide) (rowS_34 ks _ (q_34 k [58, 48, 125])), pMems_rows 1 ks [] (F + 1) _ hg (by simpa using hn)]
  rw [pMems_last F 1 _ 48 [] (.inl rfl) (uQuote_34 k) (fun r => uUnq_quote hkn r) (pHas_false (by
    rw [List.nil_append, List.mem_map]
    rintro ⟨x, hx, e⟩
    exact hk (baOf_inj e ▸ hx)))]
  exact ⟨_, rfl⟩
/-- A map in a map, each with one key. -/
def rowT (ks : List (List UInt8)) : List UInt8 := ks.flatMap fun k => 123 :: (uQuote k ++ 58 :: 123 :: (uQuote k ++ [58, 49, 125, 125, 44]))
theorem pVal_two (f d : Nat) (k rest : List UInt8) (hk : (uRunes k).isSome = true) (hd : d ≤ 48) : ∃ v, pVal (f + 5) d (123 :: (uQuote k ++ 58 :: 123 :: (uQuote k ++ 58 :: 49 :: 125 :: 125 :: rest))) = .ok (v, rest) := by
  obtain ⟨n, hkn⟩ := Option.isSome_iff_exists.1 hk
  rw [pVal_map _ d _ (by omega) (q_34 k _), pMems, pKey_quote [] _ (uQuote_34 k) (uUnq_quote hkn _), if_neg (by simp [pHas])]
  simp only
  rw [pSkip_not _ (show pBlank 58 = false from rfl)]
  simp only
  rw [if_pos (by decide), pVal_map _ (d + 1) _ (by omega) (q_34 k _), pMems_last f (d + 1 + 1) [] 49 (125 :: rest) (.inr rfl) (uQuote_34 k) (fun r => uUnq_quote hkn r) rfl]
  simp only [rMap]
  rw [pSkip_not _ (show pBlank 125 = false from rfl)]
  simp only
  rw [if_pos (by decide)]
  exact ⟨_, rfl⟩
theorem pItems_rows : ∀ (ks : List (List UInt8)) (f : Nat), (∀ k ∈ ks, (uRunes k).isSome = true) → ∃ vs, pItems (f + 6 + ks.length) 1 (rowT ks ++ [48, 93]) = .ok (vs, [])
  | [], f, _ => by
    simp only [rowT, List.flatMap_nil, List.nil_append, List.length_nil, Nat.add_zero]
    rw [pItems, pVal_digit (f + 4) 1 48 93 [] (.inl rfl) rfl]
    simp only
    rw [pSkip_not _ (show pBlank 93 = false from rfl)]
    simp only
    rw [if_pos (by decide)]
    exact ⟨_, rfl⟩
  | k :: ks, f, hg => by
    obtain ⟨vs, ih⟩ := pItems_rows ks f (fun x hx => hg x (List.mem_cons_of_mem _ hx))
    have e : rowT (k :: ks) ++ [48, 93] = 123 :: (uQuote k ++ 58 :: 123 :: (uQuote k ++ 58 :: 49 :: 125 :: 125 :: 44 :: (rowT ks ++ [48, 93]))) := by simp [rowT]
    obtain ⟨v, hv⟩ := pVal_two (f + 1 + ks.length) 1 k (44 :: (rowT ks ++ [48, 93])) (hg k List.mem_cons_self) (by decide)
    rw [e, show f + 6 + (k :: ks).length = (f + 6 + ks.length) + 1 by simp only [List.length_cons]; omega, pItems, show f + 6 + ks.length = f + 1 + ks.length + 5 by omega, hv]
    simp only
    rw [pSkip_not _ (show pBlank 44 = false from rfl)]
    simp only
    rw [if_neg (by decide), if_pos (by decide), show f + 1 + ks.length + 5 = f + 6 + ks.length by omega, ih]
    exact ⟨_, rfl⟩
theorem rowT_len : ∀ (ks : List (List UInt8)), 3 * ks.length ≤ (rowT ks).length
  | [] => Nat.le_refl _
  | k :: ks => by
    have := rowT_len ks
    simp only [rowT, List.flatMap_cons, List.length_append, List.length_cons, uQuote] at this ⊢
    omega
theorem rowT_ok (ks : List (List UInt8)) (hg : ∀ k ∈ ks, (uRunes k).isSome = true) (h0 : ks ≠ []) (hl : (91 :: (rowT ks ++ [48, 93])).length ≤ 10000) : ∃ t, pParse (91 :: (rowT ks ++ [48, 93])) 10000 = .ok t := by
  unfold pParse pAll
  rw [if_neg (by omega)]
  have hlen := rowT_len ks
  have hpos : 0 < ks.length := List.length_pos_iff.2 h0
  obtain ⟨F, hF⟩ : ∃ F, 2 * (91 :: (rowT ks ++ [48, 93])).length = F + 6 + ks.length := by
    refine ⟨2 * (91 :: (rowT ks ++ [48, 93])).length - 6 - ks.length, ?_⟩
    simp only [List.length_cons, List.length_append, List.length_nil]
    omega
  obtain ⟨vs, hv⟩ := pItems_rows ks F hg
  obtain ⟨c, t, hc, hb, h93⟩ : ∃ c t, rowT ks ++ [48, 93] = c :: t ∧ pBlank c = false ∧ c.toNat ≠ 93 := by
    cases ks with
    | nil => exact absurd rfl h0
    | cons k ks => exact ⟨123, _, by simp only [rowT, List.flatMap_cons, List.cons_append]; rfl, rfl, by decide⟩
  rw [hF, pVal, pSkip_not _ (show pBlank 91 = false from rfl)]
  simp only
  rw [if_pos (by decide), if_neg (by decide)]
  rw [hc] at hv ⊢
  rw [pSkip_not _ hb]
  simp only
  rw [if_neg h93, Nat.zero_add, hv]
  exact ⟨_, rfl⟩
/-- A key whose first byte is escaped. -/
def escQ (c : UInt8) (k : List UInt8) : List UInt8 := 34 :: 92 :: 117 :: 48 :: 48 :: uHex (c.toNat / 16) :: uHex (c.toNat % 16) :: (k.flatMap uEnc ++ [34])
theorem uBody_esc (c : UInt8) (u : List UInt8) (h : c.toNat < 128) : uBody (92 :: 117 :: 48 :: 48 :: uHex (c.toNat / 16) :: uHex (c.toNat % 16) :: u) = (uBody u).map fun p => (c :: p.1, p.2) := by
  have hb : uBytes c.toNat = [c] := by unfold uBytes; rw [if_pos h, u8_eq (c := c) (by omega)]
  have hd : uDigs 4 0 (48 :: 48 :: uHex (c.toNat / 16) :: uHex (c.toNat % 16) :: u) = some (c.toNat, u) := by
    have h48 : uDigit (48 : UInt8).toNat = some 0 := by decide
    simp only [uDigs, h48, uDigit_hex _ (show c.toNat / 16 < 16 by omega), uDigit_hex _ (show c.toNat % 16 < 16 by omega)]
    congr 2; omega
  have hn : uNum (48 :: 48 :: uHex (c.toNat / 16) :: uHex (c.toNat % 16) :: u) = some (c.toNat, u) := by
    unfold uNum; rw [hd]
    simp only
    rw [if_neg (by simp only [uSur, Bool.and_eq_true, decide_eq_true_eq]; omega)]
  rw [uBody_cons, if_neg (by decide), if_neg (by decide)]
  have hs : uSym 92 (117 :: 48 :: 48 :: uHex (c.toNat / 16) :: uHex (c.toNat % 16) :: u) = some (c.toNat, u) := by
    unfold uSym; rw [if_pos (by decide)]
    simp only [uEsc]
    exact hn
  rw [hs]
  simp only [hb]; rfl
theorem uUnq_esc {c : UInt8} {k : List UInt8} {n : Nat} (h : c.toNat < 128) (hk : uRunes k = some n) (rest : List UInt8) : uUnq (escQ c k ++ rest) = some (c :: k, (escQ c k).length) := by
  have e : escQ c k ++ rest = 34 :: (92 :: 117 :: 48 :: 48 :: uHex (c.toNat / 16) :: uHex (c.toNat % 16) :: (k.flatMap uEnc ++ 34 :: rest)) := by simp [escQ]
  rw [e]
  simp only [uUnq]
  rw [if_pos (by decide), uBody_esc c _ h, uBody_quote hk rest]
  simp [escQ]
  omega
theorem uRunes_tail {c : UInt8} {k : List UInt8} (h : c.toNat < 128) (hk : (uRunes (c :: k)).isSome = true) : (uRunes k).isSome = true := by
  rw [uRunes_point (show uPoint c k = some (c.toNat, k) from by unfold uPoint; rw [if_pos h]), Option.isSome_map] at hk
  exact hk
end Go.Proofs.Ythcphfpkinfjoaa
