/-
  JSON values as trees, and what the document says of them, as plain functions.
  A value in memory: what its cells hold, as a tree.
  Conditions: none.
-/
import Derived.WalkKit
import Derived.Test.YthcphfpkinfjoaaProg
import Derived.Deep.Slices
import Derived.Deep.Fields
import Derived.ChangeSame
import Derived.Lib.Hide
import Derived.BigQuiet
namespace Go.Proofs.Ythcphfpkinfjoaa

/-- A value: its kind, its number, its text, the values and the members in it. -/
inductive VT where
  | mk (k n : Int) (s : ByteArray) (l : List VT) (m : List (ByteArray × VT))

def VT.k : VT → Int | .mk k _ _ _ _ => k
def VT.n : VT → Int | .mk _ n _ _ _ => n
def VT.s : VT → ByteArray | .mk _ _ s _ _ => s
def VT.l : VT → List VT | .mk _ _ _ l _ => l
def VT.m : VT → List (ByteArray × VT) | .mk _ _ _ _ m => m

mutual
def dep : VT → Nat
  | .mk k _ _ l m => if k = 4 then 1 + depL l else if k = 5 then 1 + depM m else 0
def depL : List VT → Nat
  | [] => 0
  | t :: r => max (dep t) (depL r)
def depM : List (ByteArray × VT) → Nat
  | [] => 0
  | (_, t) :: r => max (dep t) (depM r)
end
theorem depL_append (a b : List VT) : depL (a ++ b) = max (depL a) (depL b) := by
  induction a with
  | nil => simp [depL]
  | cons t r ih => simp only [List.cons_append, depL, ih]; omega
theorem depM_append (a b : List (ByteArray × VT)) : depM (a ++ b) = max (depM a) (depM b) := by
  induction a with
  | nil => simp [depM]
  | cons t r ih => simp only [List.cons_append, depM, ih]; omega
theorem depL_step (l : List VT) (j : Nat) (hj : j < l.length) : depL (l.take (j + 1)) = max (depL (l.take j)) (dep l[j]) := by
  rw [List.take_succ_eq_append_getElem hj, depL_append]; simp [depL]
theorem depM_step (l : List (ByteArray × VT)) (j : Nat) (hj : j < l.length) : depM (l.take (j + 1)) = max (depM (l.take j)) (dep l[j].2) := by
  rw [List.take_succ_eq_append_getElem hj, depM_append]; simp [depM]
theorem depL_take (l : List VT) (j : Nat) : depL (l.take j) ≤ depL l := by
  have := depL_append (l.take j) (l.drop j)
  rw [List.take_append_drop] at this; omega
theorem depM_take (l : List (ByteArray × VT)) (j : Nat) : depM (l.take j) ≤ depM l := by
  have := depM_append (l.take j) (l.drop j)
  rw [List.take_append_drop] at this; omega
theorem depL_mem (l : List VT) (j : Nat) (hj : j < l.length) : dep l[j] ≤ depL l := by
  have := depL_step l j hj
  have := depL_take l (j + 1); omega
theorem depM_mem (l : List (ByteArray × VT)) (j : Nat) (hj : j < l.length) : dep l[j].2 ≤ depM l := by
  have := depM_step l j hj
  have := depM_take l (j + 1); omega
/- How much a value is, without a bound. -/
mutual
def sz : VT → Nat
  | .mk _ _ s l m => 1 + s.size + szL l + szM m
def szL : List VT → Nat
  | [] => 0
  | t :: r => sz t + szL r
def szM : List (ByteArray × VT) → Nat
  | [] => 0
  | (k, t) :: r => k.size + sz t + szM r
end
/-- How much a value is: n so far, over a list. -/
def wtL (most : Int) (g : VT → Int) (n : Int) (l : List VT) : Int := l.foldl (fun n t => if n ≤ most then n + g t else n) n
def wtM (most : Int) (g : VT → Int) (n : Int) (m : List (ByteArray × VT)) : Int := m.foldl (fun n x => if n ≤ most then n + (x.1.size + g x.2) else n) n
def wt (most : Int) : Nat → VT → Int
  | 0, _ => most + 1
  | f + 1, .mk _ _ s l m => wtM most (wt most f) (wtL most (wt most f) (1 + s.size) l) m
theorem wtL_mono {most : Int} {g : VT → Int} (hg : ∀ t, 0 ≤ g t) (l : List VT) : ∀ n, n ≤ wtL most g n l := by
  induction l with
  | nil => intro n; exact Int.le_refl _
  | cons t l ih =>
    intro n
    have h1 := hg t
    show n ≤ wtL most g (if n ≤ most then n + g t else n) l
    split
    · have := ih (n + g t); omega
    · exact ih n
theorem wtM_mono {most : Int} {g : VT → Int} (hg : ∀ t, 0 ≤ g t) (l : List (ByteArray × VT)) : ∀ n, n ≤ wtM most g n l := by
  induction l with
  | nil => intro n; exact Int.le_refl _
  | cons t l ih =>
    intro n
    have h1 := hg t.2
    show n ≤ wtM most g (if n ≤ most then n + (t.1.size + g t.2) else n) l
    split
    · have := ih (n + (t.1.size + g t.2)); omega
    · exact ih n
theorem wt_nonneg (most : Int) (hm : 0 ≤ most) : ∀ f t, 0 ≤ wt most f t
  | 0, _ => by simp only [wt]; omega
  | f + 1, .mk k n s l m => by
    have h := wt_nonneg most hm f
    have h1 := wtL_mono (most := most) h l (1 + s.size)
    have h2 := wtM_mono (most := most) h m (wtL most (wt most f) (1 + s.size) l)
    simp only [wt]; omega
theorem wtL_sz {most : Int} {g : VT → Int} (hg : ∀ t, 0 ≤ g t) (he : ∀ t, g t ≤ most → (sz t : Int) = g t) (l : List VT) : ∀ n, 0 ≤ n → wtL most g n l ≤ most → wtL most g n l = n + szL l := by
  induction l with
  | nil => intro n _ _; simp [wtL, szL]
  | cons t l ih =>
    intro n hn h
    have h1 := hg t
    have h2 : wtL most g n (t :: l) = wtL most g (if n ≤ most then n + g t else n) l := rfl
    have h3 : n ≤ most := by have := wtL_mono (most := most) hg (t :: l) n; omega
    rw [if_pos h3] at h2
    have h4 := ih (n + g t) (by omega) (by omega)
    have h5 := wtL_mono (most := most) hg l (n + g t)
    have h6 := he t (by omega)
    simp only [szL]; omega
theorem wtM_sz {most : Int} {g : VT → Int} (hg : ∀ t, 0 ≤ g t) (he : ∀ t, g t ≤ most → (sz t : Int) = g t) (l : List (ByteArray × VT)) : ∀ n, 0 ≤ n → wtM most g n l ≤ most → wtM most g n l = n + szM l := by
  induction l with
  | nil => intro n _ _; simp [wtM, szM]
  | cons t l ih =>
    intro n hn h
    have h1 := hg t.2
    have h2 : wtM most g n (t :: l) = wtM most g (if n ≤ most then n + (t.1.size + g t.2) else n) l := rfl
    have h3 : n ≤ most := by have := wtM_mono (most := most) hg (t :: l) n; omega
    rw [if_pos h3] at h2
    have h4 := ih (n + (t.1.size + g t.2)) (by omega) (by omega)
    have h5 := wtM_mono (most := most) hg l (n + (t.1.size + g t.2))
    have h6 := he t.2 (by omega)
    obtain ⟨k, t⟩ := t
    simp only [szM] at *; omega
theorem wt_sz (most : Int) (hm : 0 ≤ most) : ∀ f t, wt most f t ≤ most → (sz t : Int) = wt most f t
  | 0, _ => by intro h; simp only [wt] at h; omega
  | f + 1, .mk k n s l m => by
    intro h
    have g0 := wt_nonneg most hm f
    have ge := wt_sz most hm f
    simp only [wt] at h ⊢
    have h2 := wtM_mono (most := most) g0 m (wtL most (wt most f) (1 + s.size) l)
    have h1 := wtL_mono (most := most) g0 l (1 + s.size)
    have e2 := wtM_sz (most := most) g0 ge m _ (by omega) h
    have e1 := wtL_sz (most := most) g0 ge l _ (by omega) (show wtL most (wt most f) (1 + s.size) l ≤ most by omega)
    simp only [sz]; omega
theorem len_szM (m : List (ByteArray × VT)) : m.length ≤ szM m := by
  induction m with
  | nil => simp
  | cons x m ih => obtain ⟨k, ⟨a, b, s, l, m'⟩⟩ := x; simp only [List.length_cons, szM, sz]; omega
theorem len_szL (m : List VT) : m.length ≤ szL m := by
  induction m with
  | nil => simp
  | cons x m ih => obtain ⟨a, b, s, l, m'⟩ := x; simp only [List.length_cons, szL, sz]; omega
/-- A value that is light has few members. -/
theorem light_len (t : VT) (h : wt 800 71 t ≤ 800) : t.m.length ≤ 800 ∧ t.l.length ≤ 800 := by
  have := wt_sz 800 (by decide) 71 t h
  obtain ⟨a, b, s, l, m⟩ := t
  have h1 := len_szM m
  have h2 := len_szL l
  simp only [sz] at this
  simp only [VT.m, VT.l]
  omega
end Go.Proofs.Ythcphfpkinfjoaa

namespace Go.Proofs.Ythcphfpkinfjoaa
open Go.RowKit

/-- The greatest size that is asked for. -/
def sMax : Nat := 140737488355328
theorem sMax_le : sMax ≤ maxLen := by decide

/-- A slice of len elements of k cells each: nothing, or cells that lie below n₀. -/
def RowAt (n₀ : Nat) (w : World) (k : Nat) (sv : Value) (len : Nat) (c : Nat → Nat → Value) : Prop :=
  (len = 0 ∧ ∃ ao cap, sv = .slice ao 0 cap ∧ cap ≤ maxLen ∧ (ao = none → cap = 0)) ∨
  ∃ b off cap, 0 < len ∧ len ≤ cap ∧ (len ≤ sMax ∧ cap ≤ maxLen) ∧ sv = .slice (some ⟨b, off, none⟩) len cap ∧ b < n₀ ∧
    ∀ i j, i < len → j < k → w.cell? ⟨b, off + i * k + j, none⟩ = some (c i j)

inductive VAt (n₀ : Nat) (w : World) : VT → Value → Prop
  | mk {k n : Int} {s : ByteArray} {l : List VT} {m : List (ByteArray × VT)} {sl sm : Value} {cl cm : Nat → Nat → Value}
    (hk : (Lit.int .i64 k).wf = true) (hn : (Lit.int .i64 n).wf = true) (hs : s.size ≤ sMax)
    (hl : RowAt n₀ w 5 sl l.length cl) (hm : RowAt n₀ w 6 sm m.length cm)
    (hL : ∀ i (h : i < l.length), VAt n₀ w l[i] (.agg #[cl i 0, cl i 1, cl i 2, cl i 3, cl i 4]))
    (hK : ∀ i (h : i < m.length), cm i 0 = .string m[i].1 ∧ m[i].1.size ≤ sMax)
    (hM : ∀ i (h : i < m.length), VAt n₀ w m[i].2 (.agg #[cm i 1, cm i 2, cm i 3, cm i 4, cm i 5])) :
    VAt n₀ w (.mk k n s l m) (.agg #[.int .i64 k, .int .i64 n, .string s, sl, sm])

theorem RowAt.below {n₀ : Nat} {w w' : World} {k : Nat} {sv : Value} {len : Nat} {c : Nat → Nat → Value} (h : RowAt n₀ w k sv len c) (hb : Below n₀ w w') : RowAt n₀ w' k sv len c := by
  rcases h with h | ⟨b, off, cap, h0, h1, h2, h3, h4, h5⟩
  · exact .inl h
  · exact .inr ⟨b, off, cap, h0, h1, h2, h3, h4, fun i j hi hj => by rw [hb.cell (p := ⟨b, off + i * k + j, none⟩) h4]; exact h5 i j hi hj⟩
theorem RowAt.mono {n₀ n₁ : Nat} {w : World} {k : Nat} {sv : Value} {len : Nat} {c : Nat → Nat → Value} (h : RowAt n₀ w k sv len c) (hn : n₀ ≤ n₁) : RowAt n₁ w k sv len c := by
  rcases h with h | ⟨b, off, cap, h0, h1, h2, h3, h4, h5⟩
  · exact .inl h
  · exact .inr ⟨b, off, cap, h0, h1, h2, h3, by omega, h5⟩
theorem RowAt.len {n₀ : Nat} {w : World} {k : Nat} {sv : Value} {len : Nat} {c : Nat → Nat → Value} (h : RowAt n₀ w k sv len c) : len ≤ sMax := by
  rcases h with ⟨h, _⟩ | ⟨b, off, cap, h0, h1, h2, h3, h4, h5⟩
  · subst h; simp
  · omega
/-- The slice as it stands: its address, its capacity. -/
theorem RowAt.form {n₀ : Nat} {w : World} {k : Nat} {sv : Value} {len : Nat} {c : Nat → Nat → Value} (h : RowAt n₀ w k sv len c) :
    ∃ ao cap, sv = .slice ao len cap ∧ len ≤ cap ∧ len ≤ sMax ∧ (ao = none → cap = 0) := by
  rcases h with ⟨rfl, ao, cap, rfl, h1, h2⟩ | ⟨b, off, cap, h0, h1, h2, rfl, h4, h5⟩
  · exact ⟨ao, cap, rfl, Nat.zero_le _, Nat.zero_le _, h2⟩
  · exact ⟨_, cap, rfl, h1, h2.1, by simp⟩
theorem VAt.keep {n₀ : Nat} {w w' : World} {t : VT} {v : Value} (h : VAt n₀ w t v) (hb : Below n₀ w w') : VAt n₀ w' t v := by
  induction h with
  | mk hk hn hs hl hm _ hK _ ihL ihM => exact .mk hk hn hs (hl.below hb) (hm.below hb) ihL hK ihM
theorem VAt.mono {n₀ n₁ : Nat} {w : World} {t : VT} {v : Value} (h : VAt n₀ w t v) (hn₁ : n₀ ≤ n₁) : VAt n₁ w t v := by
  induction h with
  | mk hk hn hs hl hm _ hK _ ihL ihM => exact .mk hk hn hs (hl.mono hn₁) (hm.mono hn₁) ihL hK ihM

/-! ### How much a value is -/
theorem wtL_le {most B : Int} {g : VT → Int} (l : List VT) (hg : ∀ t ∈ l, 0 ≤ g t ∧ g t ≤ B) : ∀ n, wtL most g n l ≤ max n (most + B) ∧ n ≤ wtL most g n l := by
  induction l with
  | nil => intro n; simp [wtL]; omega
  | cons t l ih =>
    intro n
    have h1 := hg t (by simp)
    by_cases h : n ≤ most
    · have := ih (fun t ht => hg t (by simp [ht])) (n + g t)
      simp only [wtL, List.foldl_cons, if_pos h] at this ⊢
      omega
    · have := ih (fun t ht => hg t (by simp [ht])) n
      simp only [wtL, List.foldl_cons, if_neg h] at this ⊢
      omega
theorem wtM_le {most B : Int} {g : VT → Int} (m : List (ByteArray × VT)) (hg : ∀ x ∈ m, 0 ≤ g x.2 ∧ x.1.size + g x.2 ≤ B) : ∀ n, wtM most g n m ≤ max n (most + B) ∧ n ≤ wtM most g n m := by
  induction m with
  | nil => intro n; simp [wtM]; omega
  | cons t l ih =>
    intro n
    have h1 := hg t (by simp)
    by_cases h : n ≤ most
    · have := ih (fun t ht => hg t (by simp [ht])) (n + (t.1.size + g t.2))
      simp only [wtM, List.foldl_cons, if_pos h] at this ⊢
      omega
    · have := ih (fun t ht => hg t (by simp [ht])) n
      simp only [wtM, List.foldl_cons, if_neg h] at this ⊢
      omega
/-- A bound of what weight answers, f levels down. -/
def wtB (most : Int) : Nat → Int
  | 0 => most + 1
  | f + 1 => wtB most f + most + 2 * sMax + 1
theorem wtB_pos (most : Int) (h : 0 ≤ most) : ∀ f, 0 ≤ wtB most f
  | 0 => by simp [wtB]; omega
  | f + 1 => by have := wtB_pos most h f; simp only [wtB]; omega
theorem wt_le {n₀ : Nat} {w : World} {t : VT} {v : Value} (most : Int) (hmost : 0 ≤ most) (h : VAt n₀ w t v) : ∀ f, 0 ≤ wt most f t ∧ wt most f t ≤ wtB most f := by
  induction h with
  | @mk k n s l m sl sm cl cm hk hn hs hl hm _ hK _ ihL ihM =>
    intro f
    cases f with
    | zero => simp [wt, wtB]; omega
    | succ f =>
      have hp := wtB_pos most hmost f
      have a1 := wtL_le (most := most) (B := wtB most f) (g := wt most f) l (fun t ht => by
        obtain ⟨i, hi, rfl⟩ := List.getElem_of_mem ht
        exact ihL i hi f) (1 + s.size)
      have a2 := wtM_le (most := most) (B := sMax + wtB most f) (g := wt most f) m (fun t ht => by
        obtain ⟨i, hi, rfl⟩ := List.getElem_of_mem ht
        have := ihM i hi f
        have := (hK i hi).2
        omega) (wtL most (wt most f) (1 + s.size) l)
      simp only [wt, wtB]
      omega
theorem wtB_71 : wtB 800 71 < 1000000000000000000 := by decide +kernel
theorem wtB_mono (most : Int) (h : 0 ≤ most) {f g : Nat} (hfg : f ≤ g) : wtB most f ≤ wtB most g := by
  induction hfg with
  | refl => omega
  | step _ ih => simp only [wtB]; omega
theorem wtL_stop {most : Int} {g : VT → Int} (l : List VT) : ∀ n, most < n → wtL most g n l = n := by
  induction l with
  | nil => intro n _; rfl
  | cons t l ih =>
    intro n h
    have := ih n h
    simp only [wtL, List.foldl_cons, if_neg (show ¬ n ≤ most by omega)] at this ⊢
    exact this
theorem wtM_stop {most : Int} {g : VT → Int} (m : List (ByteArray × VT)) : ∀ n, most < n → wtM most g n m = n := by
  induction m with
  | nil => intro n _; rfl
  | cons t l ih =>
    intro n h
    have := ih n h
    simp only [wtM, List.foldl_cons, if_neg (show ¬ n ≤ most by omega)] at this ⊢
    exact this
theorem wtL_take {most : Int} {g : VT → Int} (l : List VT) (n : Int) (j : Nat) (h : most < wtL most g n (l.take j) ∨ l.length ≤ j) : wtL most g n (l.take j) = wtL most g n l := by
  rcases h with h | h
  · conv => rhs; rw [← List.take_append_drop j l]
    have e : wtL most g n (l.take j ++ l.drop j) = wtL most g (wtL most g n (l.take j)) (l.drop j) := by simp only [wtL, List.foldl_append]
    rw [e, wtL_stop _ _ h]
  · rw [List.take_of_length_le h]
theorem wtM_take {most : Int} {g : VT → Int} (l : List (ByteArray × VT)) (n : Int) (j : Nat) (h : most < wtM most g n (l.take j) ∨ l.length ≤ j) : wtM most g n (l.take j) = wtM most g n l := by
  rcases h with h | h
  · conv => rhs; rw [← List.take_append_drop j l]
    have e : wtM most g n (l.take j ++ l.drop j) = wtM most g (wtM most g n (l.take j)) (l.drop j) := by simp only [wtM, List.foldl_append]
    rw [e, wtM_stop _ _ h]
  · rw [List.take_of_length_le h]
theorem wtL_step {most : Int} {g : VT → Int} (l : List VT) (n : Int) (j : Nat) (hj : j < l.length) (h : wtL most g n (l.take j) ≤ most) :
    wtL most g n (l.take (j + 1)) = wtL most g n (l.take j) + g l[j] := by
  rw [List.take_succ_eq_append_getElem hj]
  have e : wtL most g n (l.take j ++ [l[j]]) = wtL most g (wtL most g n (l.take j)) [l[j]] := by simp only [wtL, List.foldl_append]
  rw [e]
  show (if _ then _ else _) = _
  rw [if_pos h]
theorem wtM_step {most : Int} {g : VT → Int} (l : List (ByteArray × VT)) (n : Int) (j : Nat) (hj : j < l.length) (h : wtM most g n (l.take j) ≤ most) :
    wtM most g n (l.take (j + 1)) = wtM most g n (l.take j) + (l[j].1.size + g l[j].2) := by
  rw [List.take_succ_eq_append_getElem hj]
  have e : wtM most g n (l.take j ++ [l[j]]) = wtM most g (wtM most g n (l.take j)) [l[j]] := by simp only [wtM, List.foldl_append]
  rw [e]
  show (if _ then _ else _) = _
  rw [if_pos h]
/-- The cells of an element. -/
theorem RowAt.at {n₀ : Nat} {w : World} {k : Nat} {ao : Option Addr} {cap len : Nat} {c : Nat → Nat → Value} (h : RowAt n₀ w k (.slice ao len cap) len c) {j : Nat} (hj : j < len) :
    ∃ b off, ao = some ⟨b, off, none⟩ ∧ b < n₀ ∧ ∀ i, i < k → w.cell? ⟨b, off + j * k + i, none⟩ = some (c j i) := by
  rcases h with ⟨rfl, _⟩ | ⟨b, off, cap', h0, h1, h2, h3, h4, h5⟩
  · omega
  · cases h3
    exact ⟨b, off, rfl, h4, fun i hi => h5 j i hj hi⟩
theorem RowAt.at5 {n₀ : Nat} {w : World} {ao : Option Addr} {cap len : Nat} {c : Nat → Nat → Value} (h : RowAt n₀ w 5 (.slice ao len cap) len c) {j : Nat} (hj : j < len) :
    ∃ b off, ao = some ⟨b, off, none⟩ ∧ b < n₀ ∧ w.cell? ⟨b, off + j * 5, none⟩ = some (c j 0) ∧ w.cell? ⟨b, off + j * 5 + 1, none⟩ = some (c j 1) ∧ w.cell? ⟨b, off + j * 5 + 2, none⟩ = some (c j 2) ∧
      w.cell? ⟨b, off + j * 5 + 3, none⟩ = some (c j 3) ∧ w.cell? ⟨b, off + j * 5 + 4, none⟩ = some (c j 4) := by
  obtain ⟨b, off, h1, h2, h3⟩ := h.at hj
  exact ⟨b, off, h1, h2, h3 0 (by omega), h3 1 (by omega), h3 2 (by omega), h3 3 (by omega), h3 4 (by omega)⟩
theorem RowAt.at6 {n₀ : Nat} {w : World} {ao : Option Addr} {cap len : Nat} {c : Nat → Nat → Value} (h : RowAt n₀ w 6 (.slice ao len cap) len c) {j : Nat} (hj : j < len) :
    ∃ b off, ao = some ⟨b, off, none⟩ ∧ b < n₀ ∧ w.cell? ⟨b, off + j * 6, none⟩ = some (c j 0) ∧ w.cell? ⟨b, off + j * 6 + 1, none⟩ = some (c j 1) ∧ w.cell? ⟨b, off + j * 6 + 2, none⟩ = some (c j 2) ∧
      w.cell? ⟨b, off + j * 6 + 3, none⟩ = some (c j 3) ∧ w.cell? ⟨b, off + j * 6 + 4, none⟩ = some (c j 4) ∧ w.cell? ⟨b, off + j * 6 + 5, none⟩ = some (c j 5) := by
  obtain ⟨b, off, h1, h2, h3⟩ := h.at hj
  exact ⟨b, off, h1, h2, h3 0 (by omega), h3 1 (by omega), h3 2 (by omega), h3 3 (by omega), h3 4 (by omega), h3 5 (by omega)⟩
theorem wrap64_id (n : Int) (h : -4611686018427387904 ≤ n ∧ n ≤ 4611686018427387904) : wrap64 n = n := by unfold wrap64; omega
theorem iw_id (n : Int) (h : -4611686018427387904 ≤ n ∧ n ≤ 4611686018427387904) : IntKind.i64.wrap n = n := by rw [IntKind.wrap_i64]; omega
theorem w64 {x y : Int} (h : x = y) (h0 : 0 ≤ y) (h1 : y < 4611686018427387904) : Value.int .i64 (wrap64 x) = Value.int .i64 y := by
  subst h; unfold wrap64; congr 1; omega
theorem w64' {x : Int} {y : Nat} (h : x = y) (h1 : y < 4611686018427387904) : Value.int .i64 (wrap64 x) = Value.int .i64 (y : Int) := w64 h (by omega) (by omega)
theorem sMax_lt : sMax < 1000000000000000 := by decide
/-- A value's five cells, as they stand. -/
def Form5 (c : Nat → Value) (o : Nat) : Prop := ∃ (k n : Int) (s : ByteArray) (a1 : Option Addr) (l1 p1 : Nat) (a2 : Option Addr) (l2 p2 : Nat),
  c o = .int .i64 k ∧ c (o + 1) = .int .i64 n ∧ c (o + 2) = .string s ∧ c (o + 3) = .slice a1 l1 p1 ∧ c (o + 4) = .slice a2 l2 p2
theorem VAt.form5 {n₀ : Nat} {w : World} {t : VT} {c : Nat → Value} (h : VAt n₀ w t (.agg #[c 0, c 1, c 2, c 3, c 4])) : Form5 c 0 := by
  generalize hv : Value.agg #[c 0, c 1, c 2, c 3, c 4] = v at h
  cases h with
  | mk hk hn hs hl hm hL hK hM =>
    obtain ⟨a1, p1, rfl, _⟩ := hl.form
    obtain ⟨a2, p2, rfl, _⟩ := hm.form
    simp only [Value.agg.injEq, Array.mk.injEq, List.cons.injEq, and_true] at hv
    exact ⟨_, _, _, _, _, _, _, _, _, hv.1, hv.2.1, hv.2.2.1, hv.2.2.2.1, hv.2.2.2.2⟩
theorem VAt.form6 {n₀ : Nat} {w : World} {t : VT} {c : Nat → Value} (h : VAt n₀ w t (.agg #[c 1, c 2, c 3, c 4, c 5])) : Form5 c 1 := by
  generalize hv : Value.agg #[c 1, c 2, c 3, c 4, c 5] = v at h
  cases h with
  | mk hk hn hs hl hm hL hK hM =>
    obtain ⟨a1, p1, rfl, _⟩ := hl.form
    obtain ⟨a2, p2, rfl, _⟩ := hm.form
    simp only [Value.agg.injEq, Array.mk.injEq, List.cons.injEq, and_true] at hv
    exact ⟨_, _, _, _, _, _, _, _, _, hv.1, hv.2.1, hv.2.2.1, hv.2.2.2.1, hv.2.2.2.2⟩
theorem belowN {B : Nat} {a w : World} (h : Below B a w) (n : Nat) : Below B a (w.drewN n) := h.trans ⟨rfl, rfl, rfl, Nat.le_refl _, fun _ _ => rfl⟩
end Go.Proofs.Ythcphfpkinfjoaa
