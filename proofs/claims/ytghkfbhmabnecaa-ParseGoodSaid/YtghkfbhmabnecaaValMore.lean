/-
  A value that is light is not deep; members as a value; what a block of five cells holds.
  Conditions: none.
-/
import Derived.Test.YtghkfbhmabnecaaValMap
namespace Go.Proofs.Ytghkfbhmabnecaa
open Go.RowKit

mutual
theorem dep_sz : ∀ t : VT, dep t ≤ sz t
  | .mk k _ s l m => by
    have h1 := depL_szL l
    have h2 := depM_szM m
    unfold dep sz
    split
    · omega
    · split <;> omega
theorem depL_szL : ∀ l : List VT, depL l ≤ szL l
  | [] => by simp [depL, szL]
  | t :: r => by
    have h1 := dep_sz t
    have h2 := depL_szL r
    unfold depL szL
    omega
theorem depM_szM : ∀ l : List (ByteArray × VT), depM l ≤ szM l
  | [] => by simp [depM, szM]
  | (k, t) :: r => by
    have h1 := dep_sz t
    have h2 := depM_szM r
    unfold depM szM
    omega
end
theorem light_dep (t : VT) (h : wt 800 71 t ≤ 800) : dep t ≤ 800 := by
  have h1 := wt_sz 800 (by decide) 71 t h
  have h2 := dep_sz t
  omega

/-- Members, as the value that is nothing but them. -/
theorem MAt.val {n₀ : Nat} {w : World} {m : List (ByteArray × VT)} {sv : Value} {cm : Nat → Nat → Value} (h : MAt n₀ w m sv cm) (k : Int) (hk : (Lit.int .i64 k).wf = true) :
    VAt n₀ w (.mk k 0 ⟨#[]⟩ [] m) (.agg #[.int .i64 k, .int .i64 0, .string ⟨#[]⟩, .slice none 0 0, sv]) :=
  .mk (cl := fun _ _ => undef) (cm := cm) hk rfl (by decide) (.inl ⟨rfl, none, 0, rfl, by decide, fun _ => rfl⟩) h.1 (fun i h => absurd h (Nat.not_lt_zero _)) h.2.1 h.2.2
theorem MAt.keep {n₀ : Nat} {w w' : World} {m : List (ByteArray × VT)} {sv : Value} {cm : Nat → Nat → Value} (h : MAt n₀ w m sv cm) (hb : Below n₀ w w') : MAt n₀ w' m sv cm :=
  ⟨h.1.below hb, h.2.1, fun i hi => (h.2.2 i hi).keep hb⟩
theorem MAt.mono {n₀ n₁ : Nat} {w : World} {m : List (ByteArray × VT)} {sv : Value} {cm : Nat → Nat → Value} (h : MAt n₀ w m sv cm) (hn : n₀ ≤ n₁) : MAt n₁ w m sv cm :=
  ⟨h.1.mono hn, h.2.1, fun i hi => (h.2.2 i hi).mono hn⟩
/-- A value's members, as they stand. -/
theorem VAt.mems {n₀ : Nat} {w : World} {k n : Int} {s : ByteArray} {l : List VT} {m : List (ByteArray × VT)} {v : Value} (h : VAt n₀ w (.mk k n s l m) v) :
    ∃ al cl am cp cm, v = .agg #[.int .i64 k, .int .i64 n, .string s, .slice al l.length cl, .slice am m.length cp] ∧ MAt n₀ w m (.slice am m.length cp) cm := by
  cases h with
  | @mk _ _ _ _ _ sl sm cl cm hk hn hs hl hm hL hK hM =>
    obtain ⟨al, pl, rfl, -⟩ := hl.form
    obtain ⟨am, pm, rfl, -⟩ := hm.form
    exact ⟨al, pl, am, pm, cm, rfl, hm, hK, hM⟩
/-- One member in a row of its own. -/
theorem one_at {n₀ n₁ b : Nat} {w W : World} {k : ByteArray} {t : VT} {c1 c2 c3 c4 c5 : Value} {ty : TypeId} (h : W.heap[b]? = some (.cells #[.string k, c1, c2, c3, c4, c5] ty (0, 0))) (hb : b < n₁) (hk : k.size ≤ sMax)
    (hv : VAt n₀ w t (.agg #[c1, c2, c3, c4, c5])) (hB : Below n₀ w W) (hn : n₀ ≤ n₁) : MAt n₁ W [(k, t)] (.slice (some ⟨b, 0, none⟩) 1 1) (fun _ j => (#[.string k, c1, c2, c3, c4, c5] : Array Value).getD j undef) := by
  refine ⟨.inr ⟨b, 0, 1, Nat.one_pos, Nat.le_refl 1, ⟨(show (1 : Nat) ≤ sMax by decide), (show (1 : Nat) ≤ maxLen by decide)⟩, rfl, hb, fun i j hi hj => ?_⟩, fun i hi => ?_, fun i hi => ?_⟩
  · have hi1 : i < 1 := hi
    obtain rfl : i = 0 := by omega
    rcases (show j = 0 ∨ j = 1 ∨ j = 2 ∨ j = 3 ∨ j = 4 ∨ j = 5 by omega) with rfl | rfl | rfl | rfl | rfl | rfl <;> simp [World.cell?, h]
  · have hi1 : i < 1 := hi
    obtain rfl : i = 0 := by omega
    exact ⟨rfl, hk⟩
  · have hi1 : i < 1 := hi
    obtain rfl : i = 0 := by omega
    exact (hv.keep hB).mono hn
/-- A box of five cells stays. -/
theorem box_keep {W W' : World} {B b : Nat} {o : Option Obj} (h : W.heap[b]? = o) (hb : Below B W W') (hlt : b < B) : W'.heap[b]? = o := (hb.block b hlt).trans h
theorem vAt_agg {n₀ : Nat} {w : World} {t : VT} {v : Value} (h : VAt n₀ w t v) : ∃ c0 c1 c2 c3 c4, v = .agg #[c0, c1, c2, c3, c4] := by cases h; exact ⟨_, _, _, _, _, rfl⟩
/-- A new box. -/
theorem boxed (w : World) (cs : Array Value) (ty : TypeId) : ∃ W0, w.alloc (.cells cs ty) = W0 ∧ W0.heap[w.heap.size]? = some (.cells cs ty (0, 0)) ∧ Below w.heap.size w W0 ∧ W0.heap.size = w.heap.size + 1 :=
  ⟨_, rfl, World.alloc_heap_new w _, (Below.refl _ w).alloc (Nat.le_refl _) _, by simp⟩
end Go.Proofs.Ytghkfbhmabnecaa
