/-
  A value that is light is not deep; members as a value; what a block of five cells holds.
  Members as a row of cells: six cells each. Rows put together; a row that a call owns as a map's members.
  Conditions: none.
-/
import Derived.Test.YthcphfpkinfjoaaValMap
import Derived.OwnWalk
import Derived.Laws.AppendOwnNone
namespace Go.Proofs.Ythcphfpkinfjoaa
open Go.RowKit

mutual
theorem dep_sz : ∀ t : VT, dep t ≤ sz t
  | .mk k _ s l m => by
    have h1 := depL_szL l
    have h2 := depM_szM m
    unfold dep sz
    split
    · omega
    · split <;> omega
theorem depL_szL : ∀ l : List VT, depL l ≤ szL l
  | [] => by simp [depL, szL]
  | t :: r => by
    have h1 := dep_sz t
    have h2 := depL_szL r
    unfold depL szL
    omega
theorem depM_szM : ∀ l : List (ByteArray × VT), depM l ≤ szM l
  | [] => by simp [depM, szM]
  | (k, t) :: r => by
    have h1 := dep_sz t
    have h2 := depM_szM r
    unfold depM szM
    omega
end
theorem light_dep (t : VT) (h : wt 800 71 t ≤ 800) : dep t ≤ 800 := by
  have h1 := wt_sz 800 (by decide) 71 t h
  have h2 := dep_sz t
  omega

/-- Members, as the value that is nothing but them. -/
theorem MAt.val {n₀ : Nat} {w : World} {m : List (ByteArray × VT)} {sv : Value} {cm : Nat → Nat → Value} (h : MAt n₀ w m sv cm) (k : Int) (hk : (Lit.int .i64 k).wf = true) :
    VAt n₀ w (.mk k 0 ⟨#[]⟩ [] m) (.agg #[.int .i64 k, .int .i64 0, .string ⟨#[]⟩, .slice none 0 0, sv]) :=
  .mk (cl := fun _ _ => undef) (cm := cm) hk rfl (by decide) (.inl ⟨rfl, none, 0, rfl, by decide, fun _ => rfl⟩) h.1 (fun i h => absurd h (Nat.not_lt_zero _)) h.2.1 h.2.2
theorem MAt.keep {n₀ : Nat} {w w' : World} {m : List (ByteArray × VT)} {sv : Value} {cm : Nat → Nat → Value} (h : MAt n₀ w m sv cm) (hb : Below n₀ w w') : MAt n₀ w' m sv cm :=
  ⟨h.1.below hb, h.2.1, fun i hi => (h.2.2 i hi).keep hb⟩
theorem MAt.mono {n₀ n₁ : Nat} {w : World} {m : List (ByteArray × VT)} {sv : Value} {cm : Nat → Nat → Value} (h : MAt n₀ w m sv cm) (hn : n₀ ≤ n₁) : MAt n₁ w m sv cm :=
  ⟨h.1.mono hn, h.2.1, fun i hi => (h.2.2 i hi).mono hn⟩
/-- A value's members, as they stand. -/
theorem VAt.mems {n₀ : Nat} {w : World} {k n : Int} {s : ByteArray} {l : List VT} {m : List (ByteArray × VT)} {v : Value} (h : VAt n₀ w (.mk k n s l m) v) :
    ∃ al cl am cp cm, v = .agg #[.int .i64 k, .int .i64 n, .string s, .slice al l.length cl, .slice am m.length cp] ∧ MAt n₀ w m (.slice am m.length cp) cm := by
  cases h with
  | @mk _ _ _ _ _ sl sm cl cm hk hn hs hl hm hL hK hM =>
    obtain ⟨al, pl, rfl, -⟩ := hl.form
    obtain ⟨am, pm, rfl, -⟩ := hm.form
    exact ⟨al, pl, am, pm, cm, rfl, hm, hK, hM⟩
/-- One member in a row of its own. -/
theorem one_at {n₀ n₁ b : Nat} {w W : World} {k : ByteArray} {t : VT} {c1 c2 c3 c4 c5 : Value} {ty : TypeId} (h : W.heap[b]? = some (.cells #[.string k, c1, c2, c3, c4, c5] ty (0, 0))) (hb : b < n₁) (hk : k.size ≤ sMax)
    (hv : VAt n₀ w t (.agg #[c1, c2, c3, c4, c5])) (hB : Below n₀ w W) (hn : n₀ ≤ n₁) : MAt n₁ W [(k, t)] (.slice (some ⟨b, 0, none⟩) 1 1) (fun _ j => (#[.string k, c1, c2, c3, c4, c5] : Array Value).getD j undef) := by
  refine ⟨.inr ⟨b, 0, 1, Nat.one_pos, Nat.le_refl 1, ⟨(show (1 : Nat) ≤ sMax by decide), (show (1 : Nat) ≤ maxLen by decide)⟩, rfl, hb, fun i j hi hj => ?_⟩, fun i hi => ?_, fun i hi => ?_⟩
  · have hi1 : i < 1 := hi
    obtain rfl : i = 0 := by omega
    rcases (show j = 0 ∨ j = 1 ∨ j = 2 ∨ j = 3 ∨ j = 4 ∨ j = 5 by omega) with rfl | rfl | rfl | rfl | rfl | rfl <;> simp [World.cell?, h]
  · have hi1 : i < 1 := hi
    obtain rfl : i = 0 := by omega
    exact ⟨rfl, hk⟩
  · have hi1 : i < 1 := hi
    obtain rfl : i = 0 := by omega
    exact (hv.keep hB).mono hn
/-- A box of five cells stays. -/
theorem box_keep {W W' : World} {B b : Nat} {o : Option Obj} (h : W.heap[b]? = o) (hb : Below B W W') (hlt : b < B) : W'.heap[b]? = o := (hb.block b hlt).trans h
theorem vAt_agg {n₀ : Nat} {w : World} {t : VT} {v : Value} (h : VAt n₀ w t v) : ∃ c0 c1 c2 c3 c4, v = .agg #[c0, c1, c2, c3, c4] := by cases h; exact ⟨_, _, _, _, _, rfl⟩
/-- A new box. -/
theorem boxed (w : World) (cs : Array Value) (ty : TypeId) : ∃ W0, w.alloc (.cells cs ty) = W0 ∧ W0.heap[w.heap.size]? = some (.cells cs ty (0, 0)) ∧ Below w.heap.size w W0 ∧ W0.heap.size = w.heap.size + 1 :=
  ⟨_, rfl, World.alloc_heap_new w _, (Below.refl _ w).alloc (Nat.le_refl _) _, by simp⟩
end Go.Proofs.Ythcphfpkinfjoaa

namespace Go.Proofs.Ythcphfpkinfjoaa
open Go.RowKit

/-- The cells of members. -/
inductive MCells (n₀ : Nat) (w : World) : List (ByteArray × VT) → List Value → Prop
  | nil : MCells n₀ w [] []
  | cons {k : ByteArray} {t : VT} {c1 c2 c3 c4 c5 : Value} {m : List (ByteArray × VT)} {xs : List Value} (hk : k.size ≤ sMax) (hv : VAt n₀ w t (.agg #[c1, c2, c3, c4, c5])) (h : MCells n₀ w m xs) :
      MCells n₀ w ((k, t) :: m) (.string k :: c1 :: c2 :: c3 :: c4 :: c5 :: xs)
theorem MCells.len {n₀ : Nat} {w : World} {m : List (ByteArray × VT)} {xs : List Value} (h : MCells n₀ w m xs) : xs.length = m.length * 6 := by
  induction h with
  | nil => rfl
  | cons _ _ _ ih => simp [ih]; omega
theorem MCells.keep {n₀ : Nat} {w w' : World} {m : List (ByteArray × VT)} {xs : List Value} (h : MCells n₀ w m xs) (hb : Below n₀ w w') : MCells n₀ w' m xs := by
  induction h with
  | nil => exact .nil
  | cons hk hv _ ih => exact .cons hk (hv.keep hb) ih
theorem MCells.mono {n₀ n₁ : Nat} {w : World} {m : List (ByteArray × VT)} {xs : List Value} (h : MCells n₀ w m xs) (hn : n₀ ≤ n₁) : MCells n₁ w m xs := by
  induction h with
  | nil => exact .nil
  | cons hk hv _ ih => exact .cons hk (hv.mono hn) ih
theorem MCells.append {n₀ : Nat} {w : World} {m m' : List (ByteArray × VT)} {xs ys : List Value} (h : MCells n₀ w m xs) (h' : MCells n₀ w m' ys) : MCells n₀ w (m ++ m') (xs ++ ys) := by
  induction h with
  | nil => exact h'
  | cons hk hv _ ih => exact .cons hk hv ih
theorem MCells.one {n₀ : Nat} {w : World} {k : ByteArray} {t : VT} {c1 c2 c3 c4 c5 : Value} (hk : k.size ≤ sMax) (hv : VAt n₀ w t (.agg #[c1, c2, c3, c4, c5])) : MCells n₀ w [(k, t)] [.string k, c1, c2, c3, c4, c5] := .cons hk hv .nil
theorem MCells.at {n₀ : Nat} {w : World} {m : List (ByteArray × VT)} {xs : List Value} (h : MCells n₀ w m xs) : ∀ i (hi : i < m.length), ∃ c1 c2 c3 c4 c5, xs[i * 6 + 0]? = some (.string m[i].1) ∧ xs[i * 6 + 1]? = some c1 ∧ xs[i * 6 + 2]? = some c2 ∧ xs[i * 6 + 3]? = some c3 ∧ xs[i * 6 + 4]? = some c4 ∧ xs[i * 6 + 5]? = some c5 ∧ m[i].1.size ≤ sMax ∧ VAt n₀ w m[i].2 (.agg #[c1, c2, c3, c4, c5]) := by
  induction h with
  | nil => intro i hi; exact absurd hi (Nat.not_lt_zero _)
  | @cons k t c1 c2 c3 c4 c5 m xs hk hv _ ih =>
    intro i hi
    cases i with
    | zero => exact ⟨c1, c2, c3, c4, c5, by simp, by simp, by simp, by simp, by simp, by simp, hk, hv⟩
    | succ i =>
      obtain ⟨d1, d2, d3, d4, d5, h0, h1, h2, h3, h4, h5, h6, h7⟩ := ih i (by simpa using hi)
      have e : ∀ j, (Value.string k :: c1 :: c2 :: c3 :: c4 :: c5 :: xs)[(i + 1) * 6 + j]? = xs[i * 6 + j]? := by
        intro j
        rw [show (i + 1) * 6 + j = (i * 6 + j) + 6 by omega]
        rfl
      exact ⟨d1, d2, d3, d4, d5, by rw [e]; exact h0, by rw [e]; exact h1, by rw [e]; exact h2, by rw [e]; exact h3, by rw [e]; exact h4, by rw [e]; exact h5, h6, h7⟩
/-- The cells of the first so many members, and of those behind. -/
theorem MCells.take {n₀ : Nat} {w : World} {m : List (ByteArray × VT)} {xs : List Value} (h : MCells n₀ w m xs) : ∀ p, MCells n₀ w (m.take p) (xs.take (p * 6)) := by
  induction h with
  | nil => intro p; simp; exact .nil
  | @cons k t c1 c2 c3 c4 c5 m xs hk hv _ ih =>
    intro p
    cases p with
    | zero => simp; exact .nil
    | succ p =>
      rw [show (p + 1) * 6 = (p * 6) + 6 by omega]
      exact .cons hk hv (ih p)
theorem MCells.drop {n₀ : Nat} {w : World} {m : List (ByteArray × VT)} {xs : List Value} (h : MCells n₀ w m xs) : ∀ p, MCells n₀ w (m.drop p) (xs.drop (p * 6)) := by
  induction h with
  | nil => intro p; simp; exact .nil
  | @cons k t c1 c2 c3 c4 c5 m xs hk hv h ih =>
    intro p
    cases p with
    | zero => exact .cons hk hv h
    | succ p =>
      rw [show (p + 1) * 6 = (p * 6) + 6 by omega]
      exact ih p
/-- A row that lies somewhere, as its cells. -/
theorem MAt.cells {n₀ : Nat} {w : World} {m : List (ByteArray × VT)} {sv : Value} {cm : Nat → Nat → Value} (h : MAt n₀ w m sv cm) : MCells n₀ w m (flat6 cm (List.range m.length)) := by
  have key : ∀ (m' : List (ByteArray × VT)) (p : Nat), (∀ i (hi : i < m'.length), cm (p + i) 0 = .string m'[i].1 ∧ m'[i].1.size ≤ sMax ∧ VAt n₀ w m'[i].2 (.agg #[cm (p + i) 1, cm (p + i) 2, cm (p + i) 3, cm (p + i) 4, cm (p + i) 5])) → MCells n₀ w m' (flat6 cm (List.range' p m'.length)) := by
    intro m'
    induction m' with
    | nil => intro p _; exact .nil
    | cons x m' ih =>
      intro p hp
      obtain ⟨h0, h1, h2⟩ := hp 0 (by simp)
      simp only [Nat.add_zero, List.getElem_cons_zero] at h0 h1 h2
      rw [List.length_cons, List.range'_succ]
      simp only [flat6, List.flatMap_cons]
      rw [h0]
      refine .cons h1 h2 (ih (p + 1) fun i hi => ?_)
      have := hp (i + 1) (by simpa using hi)
      rw [show p + 1 + i = p + (i + 1) by omega]
      simpa using this
  rw [List.range_eq_range']
  exact key m 0 fun i hi => by rw [Nat.zero_add]; exact ⟨(h.2.1 i hi).1, (h.2.1 i hi).2, h.2.2 i hi⟩
/-- Members picked by their numbers. -/
theorem MAt.pick {n₀ : Nat} {w : World} {m : List (ByteArray × VT)} {sv : Value} {cm : Nat → Nat → Value} (h : MAt n₀ w m sv cm) (D : List Nat) (hD : ∀ x ∈ D, x < m.length) : MCells n₀ w (D.map (memD m)) (flat6 cm D) := by
  induction D with
  | nil => exact .nil
  | cons x D ih =>
    have hx := hD x (by simp)
    simp only [flat6, List.flatMap_cons, List.map_cons]
    rw [memD_at m x hx, (h.2.1 x hx).1]
    exact .cons (h.2.1 x hx).2 (h.2.2 x hx) (ih fun y hy => hD y (by simp [hy]))
/-- Members that a call owns. -/
theorem MCells.ownedAt {n₀ base n : Nat} {w : World} {m : List (ByteArray × VT)} {v : Value} {xs : List Value} (h : MCells n₀ w m xs) (hown : w.ownsRow base 28 6 v n xs) (hn : n₀ ≤ w.heap.size) (hl : m.length ≤ 1000000) :
    MAt w.heap.size w m v (fun i j => xs.getD (i * 6 + j) undef) := by
  have hlen := h.len
  obtain ⟨h0, h1⟩ := hown
  have hnm : n = m.length := by omega
  subst hnm
  refine ⟨?_, fun i hi => ?_, fun i hi => ?_⟩
  · rcases h1 with ⟨rfl, hm⟩ | ⟨g, cap, cur, rfl, hg, hh, h2, h3, h4, h5⟩
    · exact .inl ⟨hm, none, 0, rfl, by decide, fun _ => rfl⟩
    · rcases Nat.eq_zero_or_pos m.length with hm | hm
      · exact .inl ⟨hm, _, cap, by rw [hm], h3, by simp⟩
      · refine .inr ⟨g, 0, cap, hm, h2, ⟨by have : sMax = 140737488355328 := rfl; omega, h3⟩, rfl, lt_of_block hh, fun i j hi hj => ?_⟩
        have e : cur[i * 6 + j]? = xs[i * 6 + j]? := by
          rw [← h5, List.getElem?_take_of_lt (by omega)]; simp
        rw [Nat.zero_add, cell_of_row w g (i * 6 + j) cur _ (0, 0) hh, e]
        simp only [List.getD_eq_getElem?_getD]
        rw [List.getElem?_eq_getElem (by omega)]; rfl
  · obtain ⟨c1, c2, c3, c4, c5, e0, e1, e2, e3, e4, e5, h6, h7⟩ := h.at i hi
    exact ⟨by simp only [List.getD_eq_getElem?_getD, e0]; rfl, h6⟩
  · obtain ⟨c1, c2, c3, c4, c5, e0, e1, e2, e3, e4, e5, h6, h7⟩ := h.at i hi
    simp only [List.getD_eq_getElem?_getD, e1, e2, e3, e4, e5, Option.getD_some]
    exact h7.mono hn
theorem MCells.owned {n₀ base n : Nat} {w : World} {m : List (ByteArray × VT)} {v : Value} {xs : List Value} (h : MCells n₀ w m xs) (hown : w.ownsRow base 28 6 v n xs) (hn : n₀ ≤ w.heap.size) (hl : m.length ≤ 1000000) :
    n = m.length ∧ ∃ cm, MAt w.heap.size w m v cm := by
  have hlen := h.len
  have h0 := hown.1
  exact ⟨by omega, _, h.ownedAt hown hn hl⟩
theorem flat6_of (xs : List Value) (n : Nat) (h : xs.length = n * 6) : flat6 (fun i j => xs.getD (i * 6 + j) undef) (List.range n) = xs := by
  apply List.ext_getElem?
  intro j
  by_cases hj : j < n * 6
  · have e := flat6_get (fun i j => xs.getD (i * 6 + j) undef) (List.range n) (j / 6) (by simp; omega) (j % 6) (Nat.mod_lt _ (by decide))
    rw [show j / 6 * 6 + j % 6 = j by omega] at e
    rw [e]
    simp only [List.getElem_range]
    rw [show j / 6 * 6 + j % 6 = j by omega, List.getD_eq_getElem?_getD, List.getElem?_eq_getElem (by omega)]
    rfl
  · rw [List.getElem?_eq_none (by rw [flat6_len]; simp; omega), List.getElem?_eq_none (by omega)]
/-- The same, with its cells. -/
theorem MCells.owned6 {n₀ base n : Nat} {w : World} {m : List (ByteArray × VT)} {v : Value} {xs : List Value} (h : MCells n₀ w m xs) (hown : w.ownsRow base 28 6 v n xs) (hn : n₀ ≤ w.heap.size) (hl : m.length ≤ 1000000) :
    ∃ cm, MAt w.heap.size w m v cm ∧ MCells n₀ w m (flat6 cm (List.range m.length)) := by
  have hlen := h.len
  have e := flat6_of xs m.length hlen
  refine ⟨fun i j => xs.getD (i * 6 + j) undef, ?_, by rw [e]; exact h⟩
  have h1 := h.ownedAt hown hn hl
  exact h1
/-- Members picked by their numbers, out of cells. -/
theorem MCells.pick {n₀ : Nat} {w : World} {m : List (ByteArray × VT)} {cm : Nat → Nat → Value} (h : MCells n₀ w m (flat6 cm (List.range m.length))) (D : List Nat) (hD : ∀ x ∈ D, x < m.length) : MCells n₀ w (D.map (memD m)) (flat6 cm D) := by
  induction D with
  | nil => exact .nil
  | cons x D ih =>
    have hx := hD x (by simp)
    obtain ⟨c1, c2, c3, c4, c5, h0, h1, h2, h3, h4, h5, h6, h7⟩ := h.at x hx
    have g : ∀ r, r < 6 → (flat6 cm (List.range m.length))[x * 6 + r]? = some (cm x r) := by
      intro r hr
      have := flat6_get cm (List.range m.length) x (by simpa using hx) r hr
      simpa using this
    rw [g 0 (by decide)] at h0; rw [g 1 (by decide)] at h1; rw [g 2 (by decide)] at h2; rw [g 3 (by decide)] at h3; rw [g 4 (by decide)] at h4; rw [g 5 (by decide)] at h5
    simp only [Option.some.injEq] at h0 h1 h2 h3 h4 h5
    simp only [flat6, List.flatMap_cons, List.map_cons]
    rw [memD_at m x hx, h0, h1, h2, h3, h4, h5]
    exact .cons h6 h7 (ih fun y hy => hD y (by simp [hy]))
/-- The map of members that a call owns. -/
theorem MCells.map {n₀ base n : Nat} {w : World} {m : List (ByteArray × VT)} {v : Value} {xs : List Value} (h : MCells n₀ w m xs) (hown : w.ownsRow base 28 6 v n xs) (hn : n₀ ≤ w.heap.size) (hl : m.length ≤ 1000000) :
    VAt w.heap.size w (.mk 5 0 ⟨#[]⟩ [] m) (.agg #[.int .i64 5, .int .i64 0, .string ⟨#[]⟩, .slice none 0 0, v]) := by
  obtain ⟨_, cm, hm⟩ := h.owned hown hn hl
  exact hm.val 5 rfl
/-- Each cell of a member is one cell. -/
theorem MCells.plain {n₀ : Nat} {w : World} {m : List (ByteArray × VT)} {xs : List Value} (h : MCells n₀ w m xs) : ∀ u ∈ xs, u.oneCell' = true := by
  induction h with
  | nil => intro u hu; cases hu
  | cons hk hv _ ih =>
    intro u hu
    cases hv with
    | mk h1 h2 h3 hl hm =>
      obtain ⟨_, _, rfl, -⟩ := hl.form
      obtain ⟨_, _, rfl, -⟩ := hm.form
      simp only [List.mem_cons] at hu
      rcases hu with rfl | rfl | rfl | rfl | rfl | rfl | hu
      · rfl
      · rfl
      · rfl
      · rfl
      · rfl
      · rfl
      · exact ih u hu
theorem ownsRow_slice {W : World} {base e size n : Nat} {v : Value} {xs : List Value} (h : W.ownsRow base e size v n xs) : ∃ ao cap, v = .slice ao n cap ∧ cap ≤ maxLen := by
  obtain ⟨_, ⟨rfl, rfl⟩ | ⟨g, cap, cur, rfl, _, _, _, hc, _⟩⟩ := h
  · exact ⟨_, _, rfl, by decide⟩
  · exact ⟨_, _, rfl, hc⟩
/-- A row that append reads: nil, or cells somewhere. -/
def SrcAt (w : World) (sv : Value) (m : Nat) (ys : List Value) : Prop :=
  (sv = .slice none 0 0 ∧ m = 0 ∧ ys = []) ∨ ∃ ad cap, sv = .slice (some ad) m cap ∧ ys.length = m * 6 ∧ (∀ j u, ys[j]? = some u → w.cell? (ad.add j) = some u) ∧ ∀ u ∈ ys, u.oneCell' = true
theorem addr_off {b off i : Nat} : (⟨b, off, none⟩ : Addr).add i = ⟨b, off + i, none⟩ := by
  unfold Addr.add; split
  · next h => subst h; rfl
  · rfl
theorem MAt.src {n₀ : Nat} {w : World} {m : List (ByteArray × VT)} {sv : Value} {cm : Nat → Nat → Value} (h : MAt n₀ w m sv cm) (W : World) (hb : Below n₀ w W) : SrcAt W sv m.length (flat6 cm (List.range m.length)) := by
  have hp := h.cells.plain
  rcases (h.keep hb).1 with ⟨h0, ao, cap, rfl, hcap, hno⟩ | ⟨b, off, cap, h0, h1, h2, rfl, h4, h5⟩
  · cases ao with
    | none => obtain rfl := hno rfl; exact .inl ⟨rfl, h0, by rw [h0]; rfl⟩
    | some ad => exact .inr ⟨ad, cap, by rw [h0], by rw [flat6_len]; simp, by rw [h0]; intro j u hu; simp [flat6] at hu, hp⟩
  · refine .inr ⟨_, cap, rfl, by rw [flat6_len]; simp, fun j u hu => ?_, hp⟩
    have hj : j < m.length * 6 := by
      obtain ⟨h, _⟩ := List.getElem?_eq_some_iff.1 hu
      rw [flat6_len] at h; simpa using h
    have e := flat6_get cm (List.range m.length) (j / 6) (by simp; omega) (j % 6) (Nat.mod_lt _ (by decide))
    rw [show j / 6 * 6 + j % 6 = j by omega, hu] at e
    injection e with e
    rw [e, addr_off, show off + j = off + j / 6 * 6 + j % 6 by omega, h5 (j / 6) (j % 6) (by omega) (Nat.mod_lt _ (by decide))]
    simp
/-- One member in a block of its own, as what append reads. -/
theorem src_one {w : World} {b : Nat} {c0 c1 c2 c3 c4 c5 : Value} {ty : TypeId} (h : w.heap[b]? = some (.cells #[c0, c1, c2, c3, c4, c5] ty (0, 0))) (h1 : ∀ u ∈ [c0, c1, c2, c3, c4, c5], u.oneCell' = true) : SrcAt w (.slice (some ⟨b, 0, none⟩) 1 1) 1 [c0, c1, c2, c3, c4, c5] := by
  refine .inr ⟨_, 1, rfl, rfl, fun j u hu => ?_, h1⟩
  rw [addr_off, Nat.zero_add, cell_of_row w b j _ ty (0, 0) h, ← hu]
  simp
theorem wpList_append_src {ops : Array Oper} {rest : List Oper} {o : Oper} {a : Act} {Q : Exit → Act → World → Prop} {w : World} (hgd : o.guard = none) (s x : Operand)
    (ho : o.op = .call { callee := .builtin .append, args := #[s, x], argTypes := #[24, 24] }) (base n : Nat) (v : Value) (xs : List Value) (hs : a.eval s = v) (hown : w.ownsRow base 28 6 v n xs)
    (m : Nat) (sv : Value) (ys : List Value) (hx : a.eval x = sv) (hsrc : SrcAt w sv m ys) (hnm : n + m ≤ 100000000) (hbase : base ≤ w.heap.size)
    (h : ∀ v' w', w'.ownsRow base 28 6 v' (n + m) (xs ++ ys) → w.grownBy w' v.ownBlock → wpList Try.prog ops Q rest (a.put o.dst v') w') : wpList Try.prog ops Q (o :: rest) a w := by
  obtain ⟨i0, hi0, hz0, hz1, hz2⟩ := info_parts info_mem
  rcases hsrc with ⟨rfl, rfl, rfl⟩ | ⟨ad, cap, rfl, hl, hn, h1⟩
  · refine wpList_append_own_none hgd s x _ ho base _ i0 6 Try.underlying24 hi0 v n xs hs hown hx ?_
    exact h v w (by simpa using hown) (World.grownBy.refl w _)
  · exact wpList_append_own w hgd s x _ ho base _ i0 _ 6 96 Try.underlying24 hi0 hz0 hz1 hz2 rfl (by decide) v n xs hs hown ad m cap ys hx hl hn h1 (by unfold maxLen; omega) (by omega) hbase (fun v' w' h2 h3 _ => h v' w' h2 h3)
theorem step_append_src {ops : Array Oper} {o : Oper} {a : Act} {K : Act → World → Prop} {Q : Exit → Act → World → Prop} {E : Prop} {w : World} (hw : Region.wanted o (yielded ops a.tmps) = true) (s x : Operand)
    (ho : o.op = .call { callee := .builtin .append, args := #[s, x], argTypes := #[24, 24] }) (base n : Nat) (v : Value) (xs : List Value) (hs : a.eval s = v) (hown : w.ownsRow base 28 6 v n xs)
    (m : Nat) (sv : Value) (ys : List Value) (hx : a.eval x = sv) (hsrc : SrcAt w sv m ys) (hnm : n + m ≤ 100000000) (hbase : base ≤ w.heap.size)
    (h : ∀ v' w', w'.ownsRow base 28 6 v' (n + m) (xs ++ ys) → w.grownBy w' v.ownBlock → K (a.put o.dst v') w') :
    if Region.wanted o (yielded ops a.tmps) = true then Oper.wp Try.prog o a w K Q else E := by
  rw [if_pos hw]
  obtain ⟨i0, hi0, hz0, hz1, hz2⟩ := info_parts info_mem
  rcases hsrc with ⟨rfl, rfl, rfl⟩ | ⟨ad, cap, rfl, hl, hn, h1⟩
  · have hrun := run_append_owned_none (P := Try.prog) (w := w) base 24 o.type 28 i0 6 Try.underlying24 hi0 v n xs hown
    have hk := h v w (by simpa using hown) (World.grownBy.refl w _)
    unfold Oper.wp
    simp [execOp, ho, resolve, invoke, builtin, hs, hx, hrun, Result.andThen]
    exact hk
  · exact wp_append_own w s x _ ho base _ i0 _ 6 96 Try.underlying24 hi0 hz0 hz1 hz2 rfl (by decide) v n xs hs hown ad m cap ys hx hl hn h1 (by unfold maxLen; omega) (by omega) hbase (fun v' w' h2 h3 _ => h v' w' h2 h3)
/-- A value of old memory, or a map whose members lie in a row that a call made from block base on. -/
def MadeV (n₀ base : Nat) (w : World) (t : VT) (y : Value) : Prop :=
  VAt n₀ w t y ∨ ∃ m v xs, t = .mk 5 0 ⟨#[]⟩ [] m ∧ y = .agg #[.int .i64 5, .int .i64 0, .string ⟨#[]⟩, .slice none 0 0, v] ∧ w.ownsRow base 28 6 v m.length xs ∧ MCells n₀ w m xs ∧ m.length ≤ 1000000
theorem MadeV.at {n₀ base : Nat} {w : World} {t : VT} {y : Value} (h : MadeV n₀ base w t y) (hn : n₀ ≤ w.heap.size) : VAt w.heap.size w t y := by
  rcases h with h | ⟨m, v, xs, rfl, rfl, ho, hc, hl⟩
  · exact h.mono hn
  · exact hc.map ho hn hl
theorem ownsRow_base {W : World} {base base' e size n : Nat} {v : Value} {xs : List Value} (h : W.ownsRow base e size v n xs) (hb : base' ≤ base) : W.ownsRow base' e size v n xs := by
  obtain ⟨h0, h1 | ⟨g, cap, cur, rfl, hg, r⟩⟩ := h
  · exact ⟨h0, .inl h1⟩
  · exact ⟨h0, .inr ⟨g, cap, cur, rfl, by omega, r⟩⟩
theorem MadeV.base {n₀ base base' : Nat} {w : World} {t : VT} {y : Value} (h : MadeV n₀ base w t y) (hb : base' ≤ base) : MadeV n₀ base' w t y := by
  rcases h with h | ⟨m, v, xs, h1, h2, ho, hc⟩
  · exact .inl h
  · exact .inr ⟨m, v, xs, h1, h2, ownsRow_base ho hb, hc⟩
/-- It stays, if one cell between is set. -/
theorem MadeV.set {n₀ base b i : Nat} {w : World} {t : VT} {y u : Value} (h : MadeV n₀ base w t y) (h1 : n₀ ≤ b) (h2 : b < base) : MadeV n₀ base (w.setCell ⟨b, i, none⟩ u) t y := by
  have hb : Below n₀ w (w.setCell ⟨b, i, none⟩ u) := (Below.refl n₀ w).setCell (p := ⟨b, i, none⟩) h1 u
  rcases h with h | ⟨m, v, xs, h3, h4, ho, hc, hl⟩
  · exact .inl (h.keep hb)
  · exact .inr ⟨m, v, xs, h3, h4, ownsRow_set ho h2, hc.keep hb, hl⟩
theorem MadeV.form {n₀ base : Nat} {w : World} {t : VT} {y : Value} (h : MadeV n₀ base w t y) : ∃ (k n : Int) (s : ByteArray) (a1 : Option Addr) (l1 p1 : Nat) (a2 : Option Addr) (l2 p2 : Nat), y = .agg #[.int .i64 k, .int .i64 n, .string s, .slice a1 l1 p1, .slice a2 l2 p2] := by
  rcases h with h | ⟨m, v, xs, rfl, rfl, ho, hc, hl⟩
  · cases h with
    | mk hk hn hs hl hm =>
      obtain ⟨_, _, rfl, -⟩ := hl.form
      obtain ⟨_, _, rfl, -⟩ := hm.form
      exact ⟨_, _, _, _, _, _, _, _, _, rfl⟩
  · obtain ⟨_, _, rfl, -⟩ := ownsRow_slice ho
    exact ⟨_, _, _, _, _, _, _, _, _, rfl⟩
end Go.Proofs.Ythcphfpkinfjoaa
