/-
  What makes a list of members the map of others: the same members in another order; the members and their map behind them; one member; one set, one dropped. When such a map is valid.
  Conditions: none.
-/
import Derived.Test.YtghkfbhmabnecaaValIx
namespace Go.Proofs.Ytghkfbhmabnecaa

theorem lastV_in {m : List (ByteArray × VT)} {k : ByteArray} {v : VT} (h : lastV m k = some v) : (k, v) ∈ m := List.mem_reverse.1 (look_in h)
theorem look_noK {L : List (ByteArray × VT)} {k : ByteArray} (h : look L k = none) : ∀ y ∈ L, y.1 ≠ k := by
  intro y hy e
  unfold look at h
  rw [Option.map_eq_none_iff, List.find?_eq_none] at h
  have := h y hy
  simp [e] at this
/-- The same members in another order. -/
theorem isMap_of_mem {B L : List (ByteArray × VT)} (hL : Asc L) (h : ∀ x, x ∈ B ↔ x ∈ L) : IsMap B L := by
  refine ⟨hL, fun k => ?_⟩
  cases hb : lastV B k with
  | some v => exact look_mem hL ((h _).1 (lastV_in hb))
  | none => exact look_not (fun y hy => look_noK hb y (List.mem_reverse.2 ((h y).2 hy)))
theorem isMap_self {L : List (ByteArray × VT)} (hL : Asc L) : IsMap L L := isMap_of_mem hL (fun _ => Iff.rfl)
/-- Behind members their map. -/
theorem isMap_app {m L : List (ByteArray × VT)} (h : IsMap m L) : IsMap (m ++ L) L := by
  refine ⟨h.1, fun k => ?_⟩
  rw [lastV_append, ← (isMap_self h.1).2 k, ← h.2 k]
  cases look L k <;> rfl
theorem isMap_one (x : ByteArray × VT) : IsMap [x] [x] := isMap_self (fun i j hij hj => by simp at hj; omega)
theorem isMap_mem {m L : List (ByteArray × VT)} (h : IsMap m L) {x : ByteArray × VT} (hx : x ∈ L) : x ∈ m := by
  have h1 := look_mem h.1 hx
  rw [h.2] at h1
  exact lastV_in h1
theorem isMap_pos {m L : List (ByteArray × VT)} (h : IsMap m L) (h0 : 0 < m.length) : 0 < L.length := by
  rcases Nat.eq_zero_or_pos L.length with h1 | h1
  · exfalso
    obtain rfl : L = [] := List.eq_nil_of_length_eq_zero h1
    have h2 := h.2 m[0].1
    rw [look_nil] at h2
    exact look_noK h2.symm _ (List.mem_reverse.2 (List.getElem_mem h0)) rfl
  · exact h1
/-- A map has not more members than it was made of. -/
theorem isMap_len {m L : List (ByteArray × VT)} (h : IsMap m L) : L.length ≤ m.length := by
  have hn : (L.map (·.1)).Nodup := by
    unfold List.Nodup
    rw [List.pairwise_map]
    exact ((asc_iff L).1 h.1).imp fun hab => ltS_ne hab
  have hs : ∀ x ∈ L.map (·.1), x ∈ m.map (·.1) := by
    intro x hx
    obtain ⟨y, hy, rfl⟩ := List.mem_map.1 hx
    exact List.mem_map.2 ⟨y, isMap_mem h hy, rfl⟩
  have h2 := List.Nodup.length_le_of_subset hn hs
  simpa using h2

theorem turned_at (n j k : Nat) (hj : j < n) : ∃ i, i < n ∧ (n - 1 - i + k) % n = j := by
  have h1 := Nat.div_add_mod (n - 1 - j + k) n
  have h2 := Nat.mod_lt (n - 1 - j + k) (show 0 < n by omega)
  generalize (n - 1 - j + k) / n = q at h1
  generalize (n - 1 - j + k) % n = i at h1 h2
  refine ⟨i, h2, ?_⟩
  have e : n - 1 - i + k = n * q + j := by
    generalize n * q = z at *
    omega
  rw [e, Nat.mul_add_mod, Nat.mod_eq_of_lt hj]
/-- From the end, k further on, round: each place is met. -/
theorem turned_mem {α : Type} (L : List α) (k : Nat) (d : α) (x : α) : x ∈ (List.range L.length).map (fun i => L.getD ((L.length - 1 - i + k) % L.length) d) ↔ x ∈ L := by
  rw [List.mem_map]
  constructor
  · rintro ⟨i, hi, rfl⟩
    have hi' : i < L.length := List.mem_range.1 hi
    have hlt : (L.length - 1 - i + k) % L.length < L.length := Nat.mod_lt _ (by omega)
    rw [List.getD, List.getElem?_eq_getElem hlt]
    exact List.getElem_mem hlt
  · intro hx
    obtain ⟨j, hj, rfl⟩ := List.mem_iff_getElem.1 hx
    obtain ⟨i, h2, e⟩ := turned_at L.length j k hj
    refine ⟨i, List.mem_range.2 h2, ?_⟩
    rw [e, List.getD, List.getElem?_eq_getElem hj]
    rfl
theorem depM_bnd {L : List (ByteArray × VT)} {B : Nat} (h : ∀ x ∈ L, dep x.2 ≤ B) : depM L ≤ B := by
  induction L with
  | nil => simp [depM]
  | cons x L ih =>
    obtain ⟨k, t⟩ := x
    simp only [depM]
    have h1 := h (k, t) (by simp)
    have h2 := ih fun y hy => h y (by simp [hy])
    simp only at h1
    omega
theorem depM_in {L : List (ByteArray × VT)} {x : ByteArray × VT} (h : x ∈ L) : dep x.2 ≤ depM L := by
  obtain ⟨i, hi, rfl⟩ := List.mem_iff_getElem.1 h
  exact depM_mem L i hi
theorem isMap_dep {m L : List (ByteArray × VT)} (h : IsMap m L) : depM L ≤ depM m := depM_bnd fun _ hx => depM_in (isMap_mem h hx)
theorem mayM_mem {L : List (ByteArray × VT)} (h : MayM L) : ∀ x ∈ L, May x.2 := by
  induction L with
  | nil => intro x hx; cases hx
  | cons y L ih =>
    obtain ⟨k, t⟩ := y
    simp only [MayM] at h
    intro x hx
    rcases List.mem_cons.1 hx with rfl | hx
    · exact h.1
    · exact ih h.2 x hx
theorem mayM_of {L : List (ByteArray × VT)} (h : ∀ x ∈ L, May x.2) : MayM L := by
  induction L with
  | nil => trivial
  | cons y L ih =>
    obtain ⟨k, t⟩ := y
    exact ⟨h (k, t) (by simp), ih fun x hx => h x (by simp [hx])⟩
/-- A map's node, of keys that are good and ascend. -/
theorem node_map {L : List (ByteArray × VT)} (hL : Asc L) (hk : ∀ x ∈ L, gS x.1 = true) : NodeOK (.mk 5 0 ⟨#[]⟩ [] L) := by
  unfold NodeOK
  right; right; right; right; right
  refine ⟨rfl, rfl, by decide +kernel, rfl, fun i hi => ⟨hk _ (List.getElem_mem hi), fun h0 => hL (i - 1) i (by omega) hi⟩⟩
theorem node_keys {k n : Int} {s : ByteArray} {l : List VT} {L : List (ByteArray × VT)} (hk : k = 5) (h : NodeOK (.mk k n s l L)) : KeysOK L := by
  unfold NodeOK at h
  rcases h with h | h | h | h | h | h
  · omega
  · omega
  · omega
  · omega
  · omega
  · exact h.2.2.2.2
theorem may_mapT {L : List (ByteArray × VT)} : May (.mk 5 0 ⟨#[]⟩ [] L) ↔ Asc L ∧ (∀ x ∈ L, gS x.1 = true) ∧ ∀ x ∈ L, May x.2 := by
  rw [May]
  constructor
  · rintro ⟨h1, -, h3⟩
    have hk := node_keys rfl h1
    exact ⟨hk.asc, fun x hx => by obtain ⟨i, hi, rfl⟩ := List.mem_iff_getElem.1 hx; exact (hk i hi).1, mayM_mem (h3 rfl)⟩
  · rintro ⟨h1, h2, h3⟩
    exact ⟨node_map h1 h2, fun h => by simp at h, fun _ => mayM_of h3⟩
/-- A map with one good member set, not too deep, is good. -/
theorem set_good {L L2 : List (ByteArray × VT)} {key : ByteArray} {x : VT} (hA : Asc L2) (hm : ∀ y ∈ L2, y ∈ L ∨ y = (key, x)) (hL : GoodV (.mk 5 0 ⟨#[]⟩ [] L)) (hk : gS key = true) (hx : GoodV x) (hd : dep x < 50) : GoodV (.mk 5 0 ⟨#[]⟩ [] L2) := by
  rw [goodV_iff] at hL hx ⊢
  have h1 := may_mapT.1 hL.2
  have h2 : 1 + depM L ≤ 50 := by have := hL.1; simpa [dep] using this
  refine ⟨?_, may_mapT.2 ⟨hA, fun y hy => ?_, fun y hy => ?_⟩⟩
  · have : depM L2 ≤ 49 := depM_bnd fun y hy => by
      rcases hm y hy with h | rfl
      · have := depM_in h; omega
      · show dep x ≤ 49; omega
    simp only [dep]; simp; omega
  · rcases hm y hy with h | rfl
    · exact h1.2.1 y h
    · exact hk
  · rcases hm y hy with h | rfl
    · exact h1.2.2 y h
    · exact hx.2
end Go.Proofs.Ytghkfbhmabnecaa
