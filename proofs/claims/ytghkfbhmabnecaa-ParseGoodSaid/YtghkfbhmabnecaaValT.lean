/-
  JSON values as trees, and what the document says of them, as plain functions.
  Conditions: none.
-/
import Derived.WalkKit
namespace Go.Proofs.Ytghkfbhmabnecaa

/-- A value: its kind, its number, its text, the values and the members in it. -/
inductive VT where
  | mk (k n : Int) (s : ByteArray) (l : List VT) (m : List (ByteArray × VT))

def VT.k : VT → Int | .mk k _ _ _ _ => k
def VT.n : VT → Int | .mk _ n _ _ _ => n
def VT.s : VT → ByteArray | .mk _ _ s _ _ => s
def VT.l : VT → List VT | .mk _ _ _ l _ => l
def VT.m : VT → List (ByteArray × VT) | .mk _ _ _ _ m => m

mutual
def dep : VT → Nat
  | .mk k _ _ l m => if k = 4 then 1 + depL l else if k = 5 then 1 + depM m else 0
def depL : List VT → Nat
  | [] => 0
  | t :: r => max (dep t) (depL r)
def depM : List (ByteArray × VT) → Nat
  | [] => 0
  | (_, t) :: r => max (dep t) (depM r)
end
theorem depL_append (a b : List VT) : depL (a ++ b) = max (depL a) (depL b) := by
  induction a with
  | nil => simp [depL]
  | cons t r ih => simp only [List.cons_append, depL, ih]; omega
theorem depM_append (a b : List (ByteArray × VT)) : depM (a ++ b) = max (depM a) (depM b) := by
  induction a with
  | nil => simp [depM]
  | cons t r ih => simp only [List.cons_append, depM, ih]; omega
theorem depL_step (l : List VT) (j : Nat) (hj : j < l.length) : depL (l.take (j + 1)) = max (depL (l.take j)) (dep l[j]) := by
  rw [List.take_succ_eq_append_getElem hj, depL_append]; simp [depL]
theorem depM_step (l : List (ByteArray × VT)) (j : Nat) (hj : j < l.length) : depM (l.take (j + 1)) = max (depM (l.take j)) (dep l[j].2) := by
  rw [List.take_succ_eq_append_getElem hj, depM_append]; simp [depM]
theorem depL_take (l : List VT) (j : Nat) : depL (l.take j) ≤ depL l := by
  have := depL_append (l.take j) (l.drop j)
  rw [List.take_append_drop] at this; omega
theorem depM_take (l : List (ByteArray × VT)) (j : Nat) : depM (l.take j) ≤ depM l := by
  have := depM_append (l.take j) (l.drop j)
  rw [List.take_append_drop] at this; omega
theorem depL_mem (l : List VT) (j : Nat) (hj : j < l.length) : dep l[j] ≤ depL l := by
  have := depL_step l j hj
  have := depL_take l (j + 1); omega
theorem depM_mem (l : List (ByteArray × VT)) (j : Nat) (hj : j < l.length) : dep l[j].2 ≤ depM l := by
  have := depM_step l j hj
  have := depM_take l (j + 1); omega
/- How much a value is, without a bound. -/
mutual
def sz : VT → Nat
  | .mk _ _ s l m => 1 + s.size + szL l + szM m
def szL : List VT → Nat
  | [] => 0
  | t :: r => sz t + szL r
def szM : List (ByteArray × VT) → Nat
  | [] => 0
  | (k, t) :: r => k.size + sz t + szM r
end
/-- How much a value is: n so far, over a list. -/
def wtL (most : Int) (g : VT → Int) (n : Int) (l : List VT) : Int := l.foldl (fun n t => if n ≤ most then n + g t else n) n
def wtM (most : Int) (g : VT → Int) (n : Int) (m : List (ByteArray × VT)) : Int := m.foldl (fun n x => if n ≤ most then n + (x.1.size + g x.2) else n) n
def wt (most : Int) : Nat → VT → Int
  | 0, _ => most + 1
  | f + 1, .mk _ _ s l m => wtM most (wt most f) (wtL most (wt most f) (1 + s.size) l) m
theorem wtL_mono {most : Int} {g : VT → Int} (hg : ∀ t, 0 ≤ g t) (l : List VT) : ∀ n, n ≤ wtL most g n l := by
  induction l with
  | nil => intro n; exact Int.le_refl _
  | cons t l ih =>
    intro n
    have h1 := hg t
    show n ≤ wtL most g (if n ≤ most then n + g t else n) l
    split
    · have := ih (n + g t); omega
    · exact ih n
theorem wtM_mono {most : Int} {g : VT → Int} (hg : ∀ t, 0 ≤ g t) (l : List (ByteArray × VT)) : ∀ n, n ≤ wtM most g n l := by
  induction l with
  | nil => intro n; exact Int.le_refl _
  | cons t l ih =>
    intro n
    have h1 := hg t.2
    show n ≤ wtM most g (if n ≤ most then n + (t.1.size + g t.2) else n) l
    split
    · have := ih (n + (t.1.size + g t.2)); omega
    · exact ih n
theorem wt_nonneg (most : Int) (hm : 0 ≤ most) : ∀ f t, 0 ≤ wt most f t
  | 0, _ => by simp only [wt]; omega
  | f + 1, .mk k n s l m => by
    have h := wt_nonneg most hm f
    have h1 := wtL_mono (most := most) h l (1 + s.size)
    have h2 := wtM_mono (most := most) h m (wtL most (wt most f) (1 + s.size) l)
    simp only [wt]; omega
theorem wtL_sz {most : Int} {g : VT → Int} (hg : ∀ t, 0 ≤ g t) (he : ∀ t, g t ≤ most → (sz t : Int) = g t) (l : List VT) : ∀ n, 0 ≤ n → wtL most g n l ≤ most → wtL most g n l = n + szL l := by
  induction l with
  | nil => intro n _ _; simp [wtL, szL]
  | cons t l ih =>
    intro n hn h
    have h1 := hg t
    have h2 : wtL most g n (t :: l) = wtL most g (if n ≤ most then n + g t else n) l := rfl
    have h3 : n ≤ most := by have := wtL_mono (most := most) hg (t :: l) n; omega
    rw [if_pos h3] at h2
    have h4 := ih (n + g t) (by omega) (by omega)
    have h5 := wtL_mono (most := most) hg l (n + g t)
    have h6 := he t (by omega)
    simp only [szL]; omega
theorem wtM_sz {most : Int} {g : VT → Int} (hg : ∀ t, 0 ≤ g t) (he : ∀ t, g t ≤ most → (sz t : Int) = g t) (l : List (ByteArray × VT)) : ∀ n, 0 ≤ n → wtM most g n l ≤ most → wtM most g n l = n + szM l := by
  induction l with
  | nil => intro n _ _; simp [wtM, szM]
  | cons t l ih =>
    intro n hn h
    have h1 := hg t.2
    have h2 : wtM most g n (t :: l) = wtM most g (if n ≤ most then n + (t.1.size + g t.2) else n) l := rfl
    have h3 : n ≤ most := by have := wtM_mono (most := most) hg (t :: l) n; omega
    rw [if_pos h3] at h2
    have h4 := ih (n + (t.1.size + g t.2)) (by omega) (by omega)
    have h5 := wtM_mono (most := most) hg l (n + (t.1.size + g t.2))
    have h6 := he t.2 (by omega)
    obtain ⟨k, t⟩ := t
    simp only [szM] at *; omega
theorem wt_sz (most : Int) (hm : 0 ≤ most) : ∀ f t, wt most f t ≤ most → (sz t : Int) = wt most f t
  | 0, _ => by intro h; simp only [wt] at h; omega
  | f + 1, .mk k n s l m => by
    intro h
    have g0 := wt_nonneg most hm f
    have ge := wt_sz most hm f
    simp only [wt] at h ⊢
    have h2 := wtM_mono (most := most) g0 m (wtL most (wt most f) (1 + s.size) l)
    have h1 := wtL_mono (most := most) g0 l (1 + s.size)
    have e2 := wtM_sz (most := most) g0 ge m _ (by omega) h
    have e1 := wtL_sz (most := most) g0 ge l _ (by omega) (show wtL most (wt most f) (1 + s.size) l ≤ most by omega)
    simp only [sz]; omega
theorem len_szM (m : List (ByteArray × VT)) : m.length ≤ szM m := by
  induction m with
  | nil => simp
  | cons x m ih => obtain ⟨k, ⟨a, b, s, l, m'⟩⟩ := x; simp only [List.length_cons, szM, sz]; omega
theorem len_szL (m : List VT) : m.length ≤ szL m := by
  induction m with
  | nil => simp
  | cons x m ih => obtain ⟨a, b, s, l, m'⟩ := x; simp only [List.length_cons, szL, sz]; omega
/-- A value that is light has few members. -/
theorem light_len (t : VT) (h : wt 800 71 t ≤ 800) : t.m.length ≤ 800 ∧ t.l.length ≤ 800 := by
  have := wt_sz 800 (by decide) 71 t h
  obtain ⟨a, b, s, l, m⟩ := t
  have h1 := len_szM m
  have h2 := len_szL l
  simp only [sz] at this
  simp only [VT.m, VT.l]
  omega
end Go.Proofs.Ytghkfbhmabnecaa
