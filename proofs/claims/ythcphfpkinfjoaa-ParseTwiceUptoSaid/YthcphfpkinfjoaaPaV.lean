/-
  A text read as a value, as a plain function of the bytes that are left.
  Values in memory, by the blocks that they lie in: what stays of them while other blocks are written.
  Conditions: none.
-/
import Derived.Test.YthcphfpkinfjoaaValMx
import Derived.Test.YthcphfpkinfjoaaUtfU
import Derived.Test.YthcphfpkinfjoaaValMc
namespace Go.Proofs.Ythcphfpkinfjoaa

/-- A member put into its place among members that ascend. -/
def insM (x : ByteArray × VT) : List (ByteArray × VT) → List (ByteArray × VT)
  | [] => [x]
  | y :: r => if ltS y.1 x.1 = true then y :: insM x r else if y.1 = x.1 then x :: r else x :: y :: r
def mapM (m : List (ByteArray × VT)) : List (ByteArray × VT) := m.foldl (fun L x => insM x L) []
theorem insM_mem (x : ByteArray × VT) : ∀ (L : List (ByteArray × VT)) (z : ByteArray × VT), z ∈ insM x L → z = x ∨ z ∈ L
  | [], z, h => by simp only [insM, List.mem_singleton] at h; exact .inl h
  | y :: r, z, h => by
    simp only [insM] at h
    split at h
    · rcases List.mem_cons.1 h with rfl | h
      · exact .inr List.mem_cons_self
      · rcases insM_mem x r z h with rfl | h
        · exact .inl rfl
        · exact .inr (List.mem_cons_of_mem _ h)
    split at h
    · rcases List.mem_cons.1 h with rfl | h
      · exact .inl rfl
      · exact .inr (List.mem_cons_of_mem _ h)
    · rcases List.mem_cons.1 h with rfl | h
      · exact .inl rfl
      · exact .inr h
theorem insM_asc (x : ByteArray × VT) : ∀ (L : List (ByteArray × VT)), Asc L → Asc (insM x L)
  | [], _ => by rw [insM, asc_cons]; exact ⟨(fun y hy => by cases hy), (fun i j hij hj => by simp at hj)⟩
  | y :: r, h => by
    rw [asc_cons] at h
    rw [insM]
    split
    · rename_i h1
      rw [asc_cons]
      refine ⟨fun z hz => ?_, insM_asc x r h.2⟩
      rcases insM_mem x r z hz with rfl | hz
      · exact h1
      · exact h.1 z hz
    split
    · rename_i h1 h2
      rw [asc_cons]
      exact ⟨fun z hz => by rw [← h2]; exact h.1 z hz, h.2⟩
    · rename_i h1 h2
      have h3 : ltS x.1 y.1 = true := by
        cases h4 : ltS x.1 y.1 with
        | true => rfl
        | false => exact absurd (ltS_tri _ _ (by simpa using h1) h4) h2
      rw [asc_cons, asc_cons]
      refine ⟨fun z hz => ?_, h.1, h.2⟩
      rcases List.mem_cons.1 hz with rfl | hz
      · exact h3
      · exact ltS_trans h3 (h.1 z hz)
theorem insM_look (x : ByteArray × VT) (k : ByteArray) : ∀ (L : List (ByteArray × VT)), Asc L → look (insM x L) k = if x.1 = k then some x.2 else look L k
  | [], _ => by rw [insM, look_cons]
  | y :: r, h => by
    rw [asc_cons] at h
    rw [insM]
    split
    · rename_i h1
      rw [look_cons, look_cons, insM_look x k r h.2]
      by_cases e : y.1 = k
      · rw [if_pos e, if_pos e, if_neg (by rw [← e]; exact (ltS_ne h1).symm)]
      · rw [if_neg e, if_neg e]
    split
    · rename_i h1 h2
      rw [look_cons, look_cons, h2]
      by_cases e : x.1 = k
      · rw [if_pos e, if_pos e]
      · rw [if_neg e, if_neg e, if_neg e]
    · rw [look_cons]
theorem insM_isMap {m L : List (ByteArray × VT)} (h : IsMap m L) (x : ByteArray × VT) : IsMap (m ++ [x]) (insM x L) := by
  refine ⟨insM_asc x L h.1, fun k => ?_⟩
  rw [insM_look x k L h.1, lastV_append, lastV_one, h.2]
  by_cases e : x.1 = k
  · rw [if_pos e, if_pos e]; rfl
  · rw [if_neg e, if_neg e]; rfl
theorem mapM_isMap (m : List (ByteArray × VT)) : IsMap m (mapM m) := by
  have key : ∀ (m a L : List (ByteArray × VT)), IsMap a L → IsMap (a ++ m) (m.foldl (fun L x => insM x L) L) := by
    intro m
    induction m with
    | nil => intro a L h; simpa using h
    | cons x m ih =>
      intro a L h
      have := ih (a ++ [x]) _ (insM_isMap h x)
      simpa using this
  have h0 : IsMap [] [] := ⟨fun _ _ _ h => absurd h (Nat.not_lt_zero _), fun _ => rfl⟩
  have := key m [] [] h0
  simpa [mapM] using this
theorem isMap_mapM {m L : List (ByteArray × VT)} (h : IsMap m L) : L = mapM m := h.unique (mapM_isMap m)

/-- White space. -/
def pBlank (c : UInt8) : Bool := decide (c.toNat = 32) || decide (c.toNat = 9) || decide (c.toNat = 10) || decide (c.toNat = 13)
def pSkip : List UInt8 → List UInt8
  | [] => []
  | c :: t => if pBlank c = true then pSkip t else c :: t
theorem pSkip_len : ∀ l, (pSkip l).length ≤ l.length
  | [] => Nat.le_refl _
  | c :: t => by
    simp only [pSkip]
    split
    · exact Nat.le_succ_of_le (pSkip_len t)
    · exact Nat.le_refl _
theorem pSkip_head {l t : List UInt8} {c : UInt8} (h : pSkip l = c :: t) : pBlank c = false := by
  induction l with
  | nil => cases h
  | cons x r ih =>
    simp only [pSkip] at h
    split at h
    · exact ih h
    · rename_i h1
      injection h with h2 _
      subst h2
      simpa using h1
theorem pSkip_not {c : UInt8} (t : List UInt8) (h : pBlank c = false) : pSkip (c :: t) = c :: t := by simp [pSkip, h]
theorem pSkip_twice (l : List UInt8) : pSkip (pSkip l) = pSkip l := by
  cases h : pSkip l with
  | nil => rfl
  | cons c t => exact pSkip_not t (pSkip_head h)
theorem pSkip_drop : ∀ l, ∃ k, pSkip l = l.drop k ∧ k ≤ l.length
  | [] => ⟨0, rfl, Nat.le_refl _⟩
  | c :: t => by
    simp only [pSkip]
    split
    · obtain ⟨k, h, hk⟩ := pSkip_drop t
      exact ⟨k + 1, by rw [h]; rfl, by simp; omega⟩
    · exact ⟨0, rfl, Nat.zero_le _⟩

/-- Signs that may be a number's. -/
def pDig (c : UInt8) : Bool := decide (48 ≤ c.toNat) && decide (c.toNat ≤ 57)
def pSign (c : UInt8) : Bool := pDig c || (decide (c.toNat = 43) || decide (c.toNat = 45) || decide (c.toNat = 46) || decide (c.toNat = 101) || decide (c.toNat = 69))
def pRun : List UInt8 → List UInt8
  | [] => []
  | c :: t => if pSign c = true then c :: pRun t else []
def pPast : List UInt8 → List UInt8
  | [] => []
  | c :: t => if pSign c = true then pPast t else c :: t
theorem pRun_past : ∀ l, pRun l ++ pPast l = l
  | [] => rfl
  | c :: t => by
    simp only [pRun, pPast]
    split
    · rw [List.cons_append, pRun_past t]
    · rfl
def pDigs : Nat → List UInt8 → Option Nat
  | n, [] => some n
  | n, c :: t => if pDig c = true then (if 9007199254740991 < n * 10 + (c.toNat - 48) then none else pDigs (n * 10 + (c.toNat - 48)) t) else none
/-- Digits behind a sign. -/
def pDec (neg : Bool) : List UInt8 → Option Int
  | [] => none
  | c :: t => if c.toNat = 48 then none else (pDigs 0 (c :: t)).map fun (n : Nat) => if neg = true then -(n : Int) else (n : Int)
def pInt : List UInt8 → Option Int
  | [] => none
  | c :: t => if c.toNat = 48 ∧ t = [] then some 0 else if c.toNat = 45 then pDec true t else pDec false (c :: t)

def jNull : VT := .mk 0 0 ⟨#[]⟩ [] []
def jBool (n : Int) : VT := .mk 1 n ⟨#[]⟩ [] []
def jInt (n : Int) : VT := .mk 2 n ⟨#[]⟩ [] []
def jText (s : ByteArray) : VT := .mk 3 0 s [] []
def jList (l : List VT) : VT := .mk 4 0 ⟨#[]⟩ l []
def jMap (m : List (ByteArray × VT)) : VT := .mk 5 0 ⟨#[]⟩ [] m

abbrev PR (α : Type) := Except Nat (α × List UInt8)
def pNumber (l : List UInt8) : PR VT := match pInt (pRun l) with
  | some n => .ok (jInt n, pPast l)
  | none => .error 3
def wNull : List UInt8 := [110, 117, 108, 108]
def wTrue : List UInt8 := [116, 114, 117, 101]
def wFalse : List UInt8 := [102, 97, 108, 115, 101]
def pWord (l : List UInt8) : PR VT :=
  if wNull.isPrefixOf l = true then .ok (jNull, l.drop 4)
  else if wTrue.isPrefixOf l = true then .ok (jBool 1, l.drop 4)
  else if wFalse.isPrefixOf l = true then .ok (jBool 0, l.drop 5)
  else .error 2
def pText (l : List UInt8) : PR VT := match uUnq l with
  | some (x, n) => .ok (jText ⟨x.toArray⟩, l.drop n)
  | none => .error 2
def pHas (ks : List ByteArray) (k : ByteArray) : Bool := ks.any fun y => decide (y = k)
/-- A key that is not there yet. -/
def pKey (ks : List ByteArray) (l : List UInt8) : PR ByteArray := match pSkip l with
  | [] => .error 2
  | c :: t => if c.toNat = 34 then (match uUnq (c :: t) with
    | none => .error 2
    | some (x, n) => if pHas ks ⟨x.toArray⟩ = true then .error 4 else .ok (⟨x.toArray⟩, (c :: t).drop n)) else .error 2
/-- What stands between brackets, of one item or more. -/
def rList : PR (List VT) → PR VT
  | .ok (vs, r) => .ok (jList vs, r)
  | .error e => .error e
def rMap : PR (List (ByteArray × VT)) → PR VT
  | .ok (ms, r) => .ok (jMap (mapM ms), r)
  | .error e => .error e
def rCons {α : Type} (v : α) : PR (List α) → PR (List α)
  | .ok (vs, u) => .ok (v :: vs, u)
  | .error e => .error e
mutual
def pVal : Nat → Nat → List UInt8 → PR VT
  | 0, _, _ => .error 0
  | f + 1, d, l => match pSkip l with
    | [] => .error 2
    | c :: t =>
      if c.toNat = 91 then (if d = 50 then .error 5 else match pSkip t with
        | [] => rList (pItems f (d + 1) t)
        | x :: r => if x.toNat = 93 then .ok (jList [], r) else rList (pItems f (d + 1) t))
      else if c.toNat = 123 then (if d = 50 then .error 5 else match pSkip t with
        | [] => rMap (pMems f (d + 1) [] t)
        | x :: r => if x.toNat = 125 then .ok (jMap [], r) else rMap (pMems f (d + 1) [] t))
      else if c.toNat = 34 then pText (c :: t)
      else if c.toNat = 45 ∨ pDig c = true then pNumber (c :: t)
      else pWord (c :: t)
def pItems : Nat → Nat → List UInt8 → PR (List VT)
  | 0, _, _ => .error 0
  | f + 1, d, l => match pVal f d l with
    | .error e => .error e
    | .ok (v, r) => match pSkip r with
      | [] => .error 2
      | c :: t => if c.toNat = 93 then .ok ([v], t) else if c.toNat = 44 then rCons v (pItems f d t) else .error 2
def pMems : Nat → Nat → List ByteArray → List UInt8 → PR (List (ByteArray × VT))
  | 0, _, _, _ => .error 0
  | f + 1, d, ks, l => match pKey ks l with
    | .error e => .error e
    | .ok (k, r) => match pSkip r with
      | [] => .error 2
      | c :: t => if c.toNat = 58 then (match pVal f d t with
        | .error e => .error e
        | .ok (v, r) => match pSkip r with
          | [] => .error 2
          | c :: t => if c.toNat = 125 then .ok ([(k, v)], t) else if c.toNat = 44 then rCons (k, v) (pMems f d (ks ++ [k]) t) else .error 2) else .error 2
end
/-- The whole text. -/
def pAll (l : List UInt8) : Except Nat VT := match pVal (2 * l.length + 1) 0 l with
  | .error e => .error e
  | .ok (v, r) => match pSkip r with
    | [] => .ok v
    | _ :: _ => .error 2
def pParse (l : List UInt8) (most : Int) : Except Nat VT := if max most 0 < (l.length : Int) then .error 6 else pAll l
end Go.Proofs.Ythcphfpkinfjoaa

namespace Go.Proofs.Ythcphfpkinfjoaa
open Go.RowKit

/-- A slice of len elements of k cells each: nothing, or cells that lie in a block of F. -/
def RowIn (F : Nat → Prop) (w : World) (k : Nat) (sv : Value) (len : Nat) (c : Nat → Nat → Value) : Prop :=
  (len = 0 ∧ ∃ ao cap, sv = .slice ao 0 cap ∧ cap ≤ maxLen ∧ (ao = none → cap = 0)) ∨
  ∃ b off cap, 0 < len ∧ len ≤ cap ∧ (len ≤ sMax ∧ cap ≤ maxLen) ∧ sv = .slice (some ⟨b, off, none⟩) len cap ∧ F b ∧
    ∀ i j, i < len → j < k → w.cell? ⟨b, off + i * k + j, none⟩ = some (c i j)
inductive VIn (F : Nat → Prop) (w : World) : VT → Value → Prop
  | mk {k n : Int} {s : ByteArray} {l : List VT} {m : List (ByteArray × VT)} {sl sm : Value} {cl cm : Nat → Nat → Value}
    (hk : (Lit.int .i64 k).wf = true) (hn : (Lit.int .i64 n).wf = true) (hs : s.size ≤ sMax)
    (hl : RowIn F w 5 sl l.length cl) (hm : RowIn F w 6 sm m.length cm)
    (hL : ∀ i (h : i < l.length), VIn F w l[i] (.agg #[cl i 0, cl i 1, cl i 2, cl i 3, cl i 4]))
    (hK : ∀ i (h : i < m.length), cm i 0 = .string m[i].1 ∧ m[i].1.size ≤ sMax)
    (hM : ∀ i (h : i < m.length), VIn F w m[i].2 (.agg #[cm i 1, cm i 2, cm i 3, cm i 4, cm i 5])) :
    VIn F w (.mk k n s l m) (.agg #[.int .i64 k, .int .i64 n, .string s, sl, sm])
theorem cell_same {w w' : World} {b i : Nat} (h : w'.heap[b]? = w.heap[b]?) : w'.cell? ⟨b, i, none⟩ = w.cell? ⟨b, i, none⟩ := by
  simp only [World.cell?, h]
theorem RowIn.keep {F : Nat → Prop} {w w' : World} {k : Nat} {sv : Value} {len : Nat} {c : Nat → Nat → Value} (h : RowIn F w k sv len c) (hF : ∀ b, F b → w'.heap[b]? = w.heap[b]?) : RowIn F w' k sv len c := by
  rcases h with h | ⟨b, off, cap, h0, h1, h2, h3, h4, h5⟩
  · exact .inl h
  · exact .inr ⟨b, off, cap, h0, h1, h2, h3, h4, fun i j hi hj => by rw [cell_same (hF b h4)]; exact h5 i j hi hj⟩
theorem RowIn.mono {F F' : Nat → Prop} {w : World} {k : Nat} {sv : Value} {len : Nat} {c : Nat → Nat → Value} (h : RowIn F w k sv len c) (hF : ∀ b, F b → F' b) : RowIn F' w k sv len c := by
  rcases h with h | ⟨b, off, cap, h0, h1, h2, h3, h4, h5⟩
  · exact .inl h
  · exact .inr ⟨b, off, cap, h0, h1, h2, h3, hF b h4, h5⟩
theorem RowIn.at {F : Nat → Prop} {n : Nat} {w : World} {k : Nat} {sv : Value} {len : Nat} {c : Nat → Nat → Value} (h : RowIn F w k sv len c) (hF : ∀ b, F b → b < n) : RowAt n w k sv len c := by
  rcases h with h | ⟨b, off, cap, h0, h1, h2, h3, h4, h5⟩
  · exact .inl h
  · exact .inr ⟨b, off, cap, h0, h1, h2, h3, hF b h4, h5⟩
theorem RowAt.inF {n : Nat} {w : World} {k : Nat} {sv : Value} {len : Nat} {c : Nat → Nat → Value} (h : RowAt n w k sv len c) : RowIn (fun b => b < n) w k sv len c := h
theorem VIn.keep {F : Nat → Prop} {w w' : World} {t : VT} {v : Value} (h : VIn F w t v) (hF : ∀ b, F b → w'.heap[b]? = w.heap[b]?) : VIn F w' t v := by
  induction h with
  | mk hk hn hs hl hm _ hK _ ihL ihM => exact .mk hk hn hs (hl.keep hF) (hm.keep hF) ihL hK ihM
theorem VIn.mono {F F' : Nat → Prop} {w : World} {t : VT} {v : Value} (h : VIn F w t v) (hF : ∀ b, F b → F' b) : VIn F' w t v := by
  induction h with
  | mk hk hn hs hl hm _ hK _ ihL ihM => exact .mk hk hn hs (hl.mono hF) (hm.mono hF) ihL hK ihM
theorem VIn.at {F : Nat → Prop} {n : Nat} {w : World} {t : VT} {v : Value} (h : VIn F w t v) (hF : ∀ b, F b → b < n) : VAt n w t v := by
  induction h with
  | mk hk hn hs hl hm _ hK _ ihL ihM => exact .mk hk hn hs (hl.at hF) (hm.at hF) ihL hK ihM
theorem VIn.form {F : Nat → Prop} {w : World} {t : VT} {y : Value} (h : VIn F w t y) : ∃ (k n : Int) (s : ByteArray) (a1 : Option Addr) (l1 p1 : Nat) (a2 : Option Addr) (l2 p2 : Nat), y = .agg #[.int .i64 k, .int .i64 n, .string s, .slice a1 l1 p1, .slice a2 l2 p2] := by
  cases h with
  | mk hk hn hs hl hm =>
    rcases hl with ⟨_, _, _, rfl, _⟩ | ⟨_, _, _, _, _, _, rfl, _⟩ <;> rcases hm with ⟨_, _, _, rfl, _⟩ | ⟨_, _, _, _, _, _, rfl, _⟩ <;> exact ⟨_, _, _, _, _, _, _, _, _, rfl⟩
/-- A value without parts. -/
theorem VIn.flat {F : Nat → Prop} {w : World} {k n : Int} {s : ByteArray} (hk : (Lit.int .i64 k).wf = true) (hn : (Lit.int .i64 n).wf = true) (hs : s.size ≤ sMax) : VIn F w (.mk k n s [] []) (.agg #[.int .i64 k, .int .i64 n, .string s, .slice none 0 0, .slice none 0 0]) :=
  .mk (cl := fun _ _ => undef) (cm := fun _ _ => undef) hk hn hs (.inl ⟨rfl, none, 0, rfl, by decide, fun _ => rfl⟩) (.inl ⟨rfl, none, 0, rfl, by decide, fun _ => rfl⟩) (fun i h => absurd h (Nat.not_lt_zero _)) (fun i h => absurd h (Nat.not_lt_zero _)) (fun i h => absurd h (Nat.not_lt_zero _))

/-- The cells of values: five each. -/
inductive VCs (F : Nat → Prop) (w : World) : List VT → List Value → Prop
  | nil : VCs F w [] []
  | cons {t : VT} {c0 c1 c2 c3 c4 : Value} {l : List VT} {xs : List Value} (hv : VIn F w t (.agg #[c0, c1, c2, c3, c4])) (h : VCs F w l xs) :
      VCs F w (t :: l) (c0 :: c1 :: c2 :: c3 :: c4 :: xs)
/-- The cells of members: six each. -/
inductive MCs (F : Nat → Prop) (w : World) : List (ByteArray × VT) → List Value → Prop
  | nil : MCs F w [] []
  | cons {k : ByteArray} {t : VT} {c0 c1 c2 c3 c4 : Value} {l : List (ByteArray × VT)} {xs : List Value} (hk : k.size ≤ sMax) (hv : VIn F w t (.agg #[c0, c1, c2, c3, c4])) (h : MCs F w l xs) :
      MCs F w ((k, t) :: l) (.string k :: c0 :: c1 :: c2 :: c3 :: c4 :: xs)
theorem VCs.len {F : Nat → Prop} {w : World} {l : List VT} {xs : List Value} (h : VCs F w l xs) : xs.length = l.length * 5 := by
  induction h with
  | nil => rfl
  | cons _ _ ih => simp [ih]; omega
theorem VCs.keep {F F' : Nat → Prop} {w w' : World} {l : List VT} {xs : List Value} (h : VCs F w l xs) (hF : ∀ b, F b → w'.heap[b]? = w.heap[b]?) (hM : ∀ b, F b → F' b) : VCs F' w' l xs := by
  induction h with
  | nil => exact .nil
  | cons hv _ ih => exact .cons ((hv.keep hF).mono hM) ih
theorem VCs.append {F : Nat → Prop} {w : World} {l l' : List VT} {xs ys : List Value} (h : VCs F w l xs) (h' : VCs F w l' ys) : VCs F w (l ++ l') (xs ++ ys) := by
  induction h with
  | nil => exact h'
  | cons hv _ ih => exact .cons hv ih
theorem VCs.plain {F : Nat → Prop} {w : World} {l : List VT} {xs : List Value} (h : VCs F w l xs) : ∀ u ∈ xs, u.oneCell' = true := by
  induction h with
  | nil => intro u hu; cases hu
  | cons hv _ ih =>
    intro u hu
    obtain ⟨_, _, _, _, _, _, _, _, _, e⟩ := hv.form
    simp only [Value.agg.injEq, Array.mk.injEq, List.cons.injEq, and_true] at e
    obtain ⟨rfl, rfl, rfl, rfl, rfl⟩ := e
    simp only [List.mem_cons] at hu
    rcases hu with rfl | rfl | rfl | rfl | rfl | hu
    · rfl
    · rfl
    · rfl
    · rfl
    · rfl
    · exact ih u hu
theorem VCs.at {F : Nat → Prop} {w : World} {l : List VT} {xs : List Value} (h : VCs F w l xs) : ∀ i (hi : i < l.length), ∃ c0 c1 c2 c3 c4, xs[i * 5 + 0]? = some c0 ∧ xs[i * 5 + 1]? = some c1 ∧ xs[i * 5 + 2]? = some c2 ∧ xs[i * 5 + 3]? = some c3 ∧ xs[i * 5 + 4]? = some c4 ∧ VIn F w l[i] (.agg #[c0, c1, c2, c3, c4]) := by
  induction h with
  | nil => intro i hi; exact absurd hi (Nat.not_lt_zero _)
  | @cons t c0 c1 c2 c3 c4 l xs hv _ ih =>
    intro i hi
    cases i with
    | zero => exact ⟨c0, c1, c2, c3, c4, by simp, by simp, by simp, by simp, by simp, hv⟩
    | succ i =>
      obtain ⟨d0, d1, d2, d3, d4, h0, h1, h2, h3, h4, h5⟩ := ih i (by simpa using hi)
      have e : ∀ j, (c0 :: c1 :: c2 :: c3 :: c4 :: xs)[(i + 1) * 5 + j]? = xs[i * 5 + j]? := by
        intro j
        rw [show (i + 1) * 5 + j = (i * 5 + j) + 5 by omega]
        rfl
      exact ⟨d0, d1, d2, d3, d4, by rw [e]; exact h0, by rw [e]; exact h1, by rw [e]; exact h2, by rw [e]; exact h3, by rw [e]; exact h4, h5⟩
theorem MCs.len {F : Nat → Prop} {w : World} {l : List (ByteArray × VT)} {xs : List Value} (h : MCs F w l xs) : xs.length = l.length * 6 := by
  induction h with
  | nil => rfl
  | cons _ _ _ ih => simp [ih]; omega
theorem MCs.keep {F F' : Nat → Prop} {w w' : World} {l : List (ByteArray × VT)} {xs : List Value} (h : MCs F w l xs) (hF : ∀ b, F b → w'.heap[b]? = w.heap[b]?) (hM : ∀ b, F b → F' b) : MCs F' w' l xs := by
  induction h with
  | nil => exact .nil
  | cons hk hv _ ih => exact .cons hk ((hv.keep hF).mono hM) ih
theorem MCs.append {F : Nat → Prop} {w : World} {l l' : List (ByteArray × VT)} {xs ys : List Value} (h : MCs F w l xs) (h' : MCs F w l' ys) : MCs F w (l ++ l') (xs ++ ys) := by
  induction h with
  | nil => exact h'
  | cons hk hv _ ih => exact .cons hk hv ih
theorem MCs.at {F : Nat → Prop} {w : World} {m : List (ByteArray × VT)} {xs : List Value} (h : MCs F w m xs) : ∀ i (hi : i < m.length), ∃ c1 c2 c3 c4 c5, xs[i * 6 + 0]? = some (.string m[i].1) ∧ xs[i * 6 + 1]? = some c1 ∧ xs[i * 6 + 2]? = some c2 ∧ xs[i * 6 + 3]? = some c3 ∧ xs[i * 6 + 4]? = some c4 ∧ xs[i * 6 + 5]? = some c5 ∧ m[i].1.size ≤ sMax ∧ VIn F w m[i].2 (.agg #[c1, c2, c3, c4, c5]) := by
  induction h with
  | nil => intro i hi; exact absurd hi (Nat.not_lt_zero _)
  | @cons k t c1 c2 c3 c4 c5 m xs hk hv _ ih =>
    intro i hi
    cases i with
    | zero => exact ⟨c1, c2, c3, c4, c5, by simp, by simp, by simp, by simp, by simp, by simp, hk, hv⟩
    | succ i =>
      obtain ⟨d1, d2, d3, d4, d5, h0, h1, h2, h3, h4, h5, h6, h7⟩ := ih i (by simpa using hi)
      have e : ∀ j, (Value.string k :: c1 :: c2 :: c3 :: c4 :: c5 :: xs)[(i + 1) * 6 + j]? = xs[i * 6 + j]? := by
        intro j
        rw [show (i + 1) * 6 + j = (i * 6 + j) + 6 by omega]
        rfl
      exact ⟨d1, d2, d3, d4, d5, by rw [e]; exact h0, by rw [e]; exact h1, by rw [e]; exact h2, by rw [e]; exact h3, by rw [e]; exact h4, by rw [e]; exact h5, h6, h7⟩
theorem MCs.plain {F : Nat → Prop} {w : World} {l : List (ByteArray × VT)} {xs : List Value} (h : MCs F w l xs) : ∀ u ∈ xs, u.oneCell' = true := by
  induction h with
  | nil => intro u hu; cases hu
  | cons _ hv _ ih =>
    intro u hu
    obtain ⟨_, _, _, _, _, _, _, _, _, e⟩ := hv.form
    simp only [Value.agg.injEq, Array.mk.injEq, List.cons.injEq, and_true] at e
    obtain ⟨rfl, rfl, rfl, rfl, rfl⟩ := e
    simp only [List.mem_cons] at hu
    rcases hu with rfl | rfl | rfl | rfl | rfl | rfl | hu
    · rfl
    · rfl
    · rfl
    · rfl
    · rfl
    · rfl
    · exact ih u hu
/-- A row of cells of its own, by what lies in it. -/
theorem ownsRow_cell {w : World} {base e size n : Nat} {v : Value} {xs : List Value} (h : w.ownsRow base e size v n xs) (hn : 0 < n) : ∃ g cap, v = .slice (some ⟨g, 0, none⟩) n cap ∧ base ≤ g ∧ g < w.heap.size ∧ n ≤ cap ∧ cap ≤ maxLen ∧ ∀ j, j < n * size → w.cell? ⟨g, j, none⟩ = xs[j]? := by
  obtain ⟨h0, ⟨_, h1⟩ | ⟨g, cap, cur, rfl, hg, hh, h2, h3, h4, h5⟩⟩ := h
  · omega
  · refine ⟨g, cap, rfl, hg, lt_of_block hh, h2, h3, fun j hj => ?_⟩
    rw [cell_of_row w g j cur _ (0, 0) hh, ← h5, List.getElem?_take_of_lt hj]
    simp
/-- A list whose values lie in a row of its own. -/
theorem VCs.list {F : Nat → Prop} {w : World} {base e : Nat} {l : List VT} {v : Value} {xs : List Value} (h : VCs F w l xs) (hown : w.ownsRow base e 5 v l.length xs) (hF : ∀ b, v.ownBlock = some b → F b) (hl : l.length ≤ sMax) :
    VIn F w (jList l) (.agg #[.int .i64 4, .int .i64 0, .string ⟨#[]⟩, v, .slice none 0 0]) := by
  rcases Nat.eq_zero_or_pos l.length with h0 | h0
  · obtain rfl : l = [] := List.eq_nil_of_length_eq_zero h0
    have hv : ∃ ao cap, v = .slice ao 0 cap ∧ cap ≤ maxLen ∧ (ao = none → cap = 0) := by
      obtain ⟨_, ⟨rfl, _⟩ | ⟨g, cap, cur, rfl, _, _, _, hc, _⟩⟩ := hown
      · exact ⟨none, 0, rfl, by decide, fun _ => rfl⟩
      · exact ⟨_, cap, rfl, hc, by simp⟩
    exact .mk (cl := fun _ _ => undef) (cm := fun _ _ => undef) (by decide) (by decide) (by decide) (.inl ⟨rfl, hv⟩) (.inl ⟨rfl, none, 0, rfl, by decide, fun _ => rfl⟩) (fun i h => absurd h (Nat.not_lt_zero _)) (fun i h => absurd h (Nat.not_lt_zero _)) (fun i h => absurd h (Nat.not_lt_zero _))
  · obtain ⟨g, cap, rfl, hg, hgl, hc, hcm, hcell⟩ := ownsRow_cell hown h0
    have hlen := h.len
    refine .mk (cl := fun i j => xs.getD (i * 5 + j) undef) (cm := fun _ _ => undef) (by decide) (by decide) (by decide) (.inr ⟨g, 0, cap, h0, hc, ⟨hl, hcm⟩, rfl, hF g rfl, fun i j hi hj => ?_⟩) (.inl ⟨rfl, none, 0, rfl, by decide, fun _ => rfl⟩) (fun i hi => ?_) (fun i h => absurd h (Nat.not_lt_zero _)) (fun i h => absurd h (Nat.not_lt_zero _))
    · rw [Nat.zero_add, hcell _ (by omega), List.getElem?_eq_getElem (by omega)]
      simp [List.getD_eq_getElem?_getD, List.getElem?_eq_getElem (show i * 5 + j < xs.length by omega)]
    · obtain ⟨c0, c1, c2, c3, c4, e0, e1, e2, e3, e4, hv⟩ := h.at i hi
      simp only [List.getD_eq_getElem?_getD, e0, e1, e2, e3, e4, Option.getD_some]
      exact hv
/-- A map whose members lie in a row of its own. -/
theorem MCs.map {F : Nat → Prop} {w : World} {base e : Nat} {l : List (ByteArray × VT)} {v : Value} {xs : List Value} (h : MCs F w l xs) (hown : w.ownsRow base e 6 v l.length xs) (hF : ∀ b, v.ownBlock = some b → F b) (hl : l.length ≤ sMax) :
    VIn F w (jMap l) (.agg #[.int .i64 5, .int .i64 0, .string ⟨#[]⟩, .slice none 0 0, v]) := by
  rcases Nat.eq_zero_or_pos l.length with h0 | h0
  · obtain rfl : l = [] := List.eq_nil_of_length_eq_zero h0
    have hv : ∃ ao cap, v = .slice ao 0 cap ∧ cap ≤ maxLen ∧ (ao = none → cap = 0) := by
      obtain ⟨_, ⟨rfl, _⟩ | ⟨g, cap, cur, rfl, _, _, _, hc, _⟩⟩ := hown
      · exact ⟨none, 0, rfl, by decide, fun _ => rfl⟩
      · exact ⟨_, cap, rfl, hc, by simp⟩
    exact .mk (cl := fun _ _ => undef) (cm := fun _ _ => undef) (by decide) (by decide) (by decide) (.inl ⟨rfl, none, 0, rfl, by decide, fun _ => rfl⟩) (.inl ⟨rfl, hv⟩) (fun i h => absurd h (Nat.not_lt_zero _)) (fun i h => absurd h (Nat.not_lt_zero _)) (fun i h => absurd h (Nat.not_lt_zero _))
  · obtain ⟨g, cap, rfl, hg, hgl, hc, hcm, hcell⟩ := ownsRow_cell hown h0
    have hlen := h.len
    refine .mk (cl := fun _ _ => undef) (cm := fun i j => xs.getD (i * 6 + j) undef) (by decide) (by decide) (by decide) (.inl ⟨rfl, none, 0, rfl, by decide, fun _ => rfl⟩) (.inr ⟨g, 0, cap, h0, hc, ⟨hl, hcm⟩, rfl, hF g rfl, fun i j hi hj => ?_⟩) (fun i h => absurd h (Nat.not_lt_zero _)) (fun i hi => ?_) (fun i hi => ?_)
    · rw [Nat.zero_add, hcell _ (by omega), List.getElem?_eq_getElem (by omega)]
      simp [List.getD_eq_getElem?_getD, List.getElem?_eq_getElem (show i * 6 + j < xs.length by omega)]
    · obtain ⟨c1, c2, c3, c4, c5, e0, e1, e2, e3, e4, e5, h6, h7⟩ := h.at i hi
      exact ⟨by simp only [List.getD_eq_getElem?_getD, e0]; rfl, h6⟩
    · obtain ⟨c1, c2, c3, c4, c5, e0, e1, e2, e3, e4, e5, h6, h7⟩ := h.at i hi
      simp only [List.getD_eq_getElem?_getD, e1, e2, e3, e4, e5, Option.getD_some]
      exact h7
/-- Members picked by their numbers, out of cells. -/
theorem MCs.pick {F : Nat → Prop} {w : World} {m : List (ByteArray × VT)} {cm : Nat → Nat → Value} (h : MCs F w m (flat6 cm (List.range m.length))) (D : List Nat) (hD : ∀ x ∈ D, x < m.length) : MCs F w (D.map (memD m)) (flat6 cm D) := by
  induction D with
  | nil => exact .nil
  | cons x D ih =>
    have hx := hD x (by simp)
    obtain ⟨c1, c2, c3, c4, c5, h0, h1, h2, h3, h4, h5, h6, h7⟩ := h.at x hx
    have g : ∀ r, r < 6 → (flat6 cm (List.range m.length))[x * 6 + r]? = some (cm x r) := by
      intro r hr
      have := flat6_get cm (List.range m.length) x (by simpa using hx) r hr
      simpa using this
    rw [g 0 (by decide)] at h0; rw [g 1 (by decide)] at h1; rw [g 2 (by decide)] at h2; rw [g 3 (by decide)] at h3; rw [g 4 (by decide)] at h4; rw [g 5 (by decide)] at h5
    simp only [Option.some.injEq] at h0 h1 h2 h3 h4 h5
    simp only [flat6, List.flatMap_cons, List.map_cons]
    rw [memD_at m x hx, h0, h1, h2, h3, h4, h5]
    exact .cons h6 h7 (ih fun y hy => hD y (by simp [hy]))
/-- Members in a row of its own, as what Map asks for. -/
theorem MCs.mat {F : Nat → Prop} {w : World} {base e : Nat} {m : List (ByteArray × VT)} {v : Value} {xs : List Value} (h : MCs F w m xs) (hown : w.ownsRow base e 6 v m.length xs) (hF : ∀ b, F b → b < w.heap.size) (hl : m.length ≤ sMax) :
    MAt w.heap.size w m v (fun i j => xs.getD (i * 6 + j) undef) := by
  have hlen := h.len
  refine ⟨?_, fun i hi => ?_, fun i hi => ?_⟩
  · rcases Nat.eq_zero_or_pos m.length with h0 | h0
    · obtain ⟨_, ⟨rfl, _⟩ | ⟨g, cap, cur, rfl, _, _, _, hc, _⟩⟩ := hown
      · exact .inl ⟨h0, none, 0, rfl, by decide, fun _ => rfl⟩
      · exact .inl ⟨h0, _, cap, by rw [h0], hc, by simp⟩
    · obtain ⟨g, cap, rfl, hg, hgl, hc, hcm, hcell⟩ := ownsRow_cell hown h0
      refine .inr ⟨g, 0, cap, h0, hc, ⟨hl, hcm⟩, rfl, hgl, fun i j hi hj => ?_⟩
      rw [Nat.zero_add, hcell _ (by omega), List.getElem?_eq_getElem (by omega)]
      simp [List.getD_eq_getElem?_getD, List.getElem?_eq_getElem (show i * 6 + j < xs.length by omega)]
  · obtain ⟨c1, c2, c3, c4, c5, e0, e1, e2, e3, e4, e5, h6, h7⟩ := h.at i hi
    exact ⟨by simp only [List.getD_eq_getElem?_getD, e0]; rfl, h6⟩
  · obtain ⟨c1, c2, c3, c4, c5, e0, e1, e2, e3, e4, e5, h6, h7⟩ := h.at i hi
    simp only [List.getD_eq_getElem?_getD, e1, e2, e3, e4, e5, Option.getD_some]
    exact h7.at hF

/-- All old blocks but those of S lie as they lay. -/
structure Exc (S : Nat → Prop) (w w' : World) : Prop where
  os : w'.os = w.os
  tape : w'.tape = w.tape
  output : w'.output = w.output
  size : w.heap.size ≤ w'.heap.size
  block : ∀ k, k < w.heap.size → ¬ S k → w'.heap[k]? = w.heap[k]?
theorem Exc.refl (S : Nat → Prop) (w : World) : Exc S w w := ⟨rfl, rfl, rfl, Nat.le_refl _, fun _ _ _ => rfl⟩
theorem Exc.trans {S : Nat → Prop} {a b c : World} (h : Exc S a b) (k : Exc S b c) : Exc S a c :=
  ⟨k.os.trans h.os, k.tape.trans h.tape, k.output.trans h.output, Nat.le_trans h.size k.size, fun i hi hs => (k.block i (Nat.lt_of_lt_of_le hi h.size) hs).trans (h.block i hi hs)⟩
theorem Exc.mono {S S' : Nat → Prop} {a b : World} (h : Exc S a b) (hS : ∀ k, k < a.heap.size → S k → S' k) : Exc S' a b :=
  ⟨h.os, h.tape, h.output, h.size, fun i hi hs => h.block i hi (fun h1 => hs (hS i hi h1))⟩
theorem Exc.below {S : Nat → Prop} {B : Nat} {a b : World} (h : Exc S a b) (hB : B ≤ a.heap.size) (hS : ∀ k, k < B → ¬ S k) : Below B a b :=
  ⟨h.os, h.tape, h.output, h.size, fun i hi => h.block i (Nat.lt_of_lt_of_le hi hB) (hS i hi)⟩
theorem Exc.of {S : Nat → Prop} {B : Nat} {a b : World} (h : Below B a b) (hS : ∀ k, k < a.heap.size → B ≤ k → S k) : Exc S a b :=
  ⟨h.os, h.tape, h.output, h.size, fun i hi hs => by
    by_cases hb : i < B
    · exact h.block i hb
    · exact absurd (hS i hi (by omega)) hs⟩
theorem Exc.ofAll {S : Nat → Prop} {a b : World} (h : Below a.heap.size a b) : Exc S a b := Exc.of h (fun k h1 h2 => by omega)
theorem Exc.alloc {S : Nat → Prop} {a b : World} (h : Exc S a b) (o : Obj) : Exc S a (b.alloc o) := h.trans (Exc.ofAll ((Below.refl _ b).alloc (Nat.le_refl _) o))
theorem Exc.drew {S : Nat → Prop} {a b : World} (h : Exc S a b) : Exc S a b.drew := h.trans (Exc.ofAll (Below.refl _ b).drew)
theorem setCell_other {w : World} {b i k : Nat} (v : Value) (h : k ≠ b) : (w.setCell ⟨b, i, none⟩ v).heap[k]? = w.heap[k]? := by
  show (w.heap.modify b _)[k]? = _
  rw [Array.getElem?_modify]
  split
  · next e => exact absurd e.symm h
  · rfl
theorem Exc.set {S : Nat → Prop} {a w : World} {b i : Nat} (h : Exc S a w) (v : Value) (hS : b < a.heap.size → S b) : Exc S a (w.setCell ⟨b, i, none⟩ v) := by
  have h1 : (w.setCell ⟨b, i, none⟩ v).heap.size = w.heap.size := by show (w.heap.modify b _).size = _; rw [Array.size_modify]
  refine ⟨h.os, h.tape, h.output, by rw [h1]; exact h.size, fun k hk hs => ?_⟩
  rw [setCell_other v (fun e => hs (by subst e; exact hS hk))]
  exact h.block k hk hs
theorem Exc.grown {S : Nat → Prop} {a w w' : World} {r : Option Nat} (h : Exc S a w) (hg : w.grownBy w' r) (hr : ∀ k, r = some k → k < a.heap.size → S k) : Exc S a w' := by
  have hb := (Below.refl 0 w).grown hg (Nat.zero_le _) (fun k _ => Nat.zero_le _)
  refine ⟨hb.os.trans h.os, hb.tape.trans h.tape, hb.output.trans h.output, Nat.le_trans h.size hb.size, fun k hk hs => ?_⟩
  rw [hg.block k (Nat.lt_of_lt_of_le hk h.size) (fun e => hs (hr k e.symm hk))]
  exact h.block k hk hs
end Go.Proofs.Ythcphfpkinfjoaa
