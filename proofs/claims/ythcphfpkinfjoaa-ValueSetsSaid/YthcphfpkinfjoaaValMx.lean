/-
  The members of a map, as plain lists: of each key the last one, in the keys' order; there is one such list.
  What makes a list of members the map of others: the same members in another order; the members and their map behind them; one member; one set, one dropped. When such a map is valid.
  Conditions: none.
-/
import Derived.Test.YthcphfpkinfjoaaValMap
namespace Go.Proofs.Ythcphfpkinfjoaa
open Go.RowKit

theorem asc_iff (L : List (ByteArray × VT)) : Asc L ↔ L.Pairwise (fun a b => ltS a.1 b.1 = true) := by
  rw [List.pairwise_iff_getElem]
  exact ⟨fun h i j hi hj hij => h i j hij hj, fun h i j hij hj => h i j (by omega) hj hij⟩
theorem asc_cons {x : ByteArray × VT} {r : List (ByteArray × VT)} : Asc (x :: r) ↔ (∀ y ∈ r, ltS x.1 y.1 = true) ∧ Asc r := by
  rw [asc_iff, asc_iff, List.pairwise_cons]
theorem look_nil (k : ByteArray) : look [] k = none := rfl
theorem look_cons (x : ByteArray × VT) (r : List (ByteArray × VT)) (k : ByteArray) : look (x :: r) k = if x.1 = k then some x.2 else look r k := by
  unfold look
  rw [List.find?_cons]
  by_cases h : x.1 = k <;> simp [h]
theorem look_not {L : List (ByteArray × VT)} {k : ByteArray} (h : ∀ y ∈ L, y.1 ≠ k) : look L k = none := by
  unfold look
  rw [List.find?_eq_none.2 (fun y hy => by simpa using h y hy)]
  rfl
theorem ltS_ne {a b : ByteArray} (h : ltS a b = true) : a ≠ b := by rintro rfl; rw [ltS_irrefl] at h; cases h
theorem look_mem {L : List (ByteArray × VT)} (h : Asc L) {x : ByteArray × VT} (hx : x ∈ L) : look L x.1 = some x.2 := by
  induction L with
  | nil => cases hx
  | cons y r ih =>
    rw [asc_cons] at h
    rw [look_cons]
    rcases List.mem_cons.1 hx with rfl | hx
    · rw [if_pos rfl]
    · rw [if_neg (ltS_ne (h.1 x hx))]; exact ih h.2 hx
theorem look_in {L : List (ByteArray × VT)} {k : ByteArray} {v : VT} (h : look L k = some v) : (k, v) ∈ L := by
  induction L with
  | nil => cases h
  | cons y r ih =>
    rw [look_cons] at h
    by_cases e : y.1 = k
    · rw [if_pos e] at h
      injection h with h
      subst e h
      exact List.mem_cons_self
    · rw [if_neg e] at h; exact List.mem_cons_of_mem _ (ih h)
/-- Members whose keys ascend are told by what is found at each key. -/
theorem asc_unique : ∀ {L L' : List (ByteArray × VT)}, Asc L → Asc L' → (∀ k, look L k = look L' k) → L = L'
  | [], [], _, _, _ => rfl
  | [], y :: r, _, _, e => by have := e y.1; rw [look_cons, if_pos rfl] at this; cases this
  | x :: r, [], _, _, e => by have := e x.1; rw [look_cons, if_pos rfl] at this; cases this
  | x :: r, y :: r', h, h', e => by
    rw [asc_cons] at h h'
    have hk : x.1 = y.1 := by
      refine ltS_tri _ _ ?_ ?_
      · cases hlt : ltS x.1 y.1 with
        | false => rfl
        | true =>
          have h1 := e x.1
          rw [look_cons, if_pos rfl, look_not (L := y :: r')] at h1
          · cases h1
          · intro z hz
            rcases List.mem_cons.1 hz with rfl | hz
            · exact (ltS_ne hlt).symm
            · exact (ltS_ne (ltS_trans hlt (h'.1 z hz))).symm
      · cases hlt : ltS y.1 x.1 with
        | false => rfl
        | true =>
          have h1 := e y.1
          rw [look_cons y, if_pos rfl, look_not (L := x :: r)] at h1
          · cases h1
          · intro z hz
            rcases List.mem_cons.1 hz with rfl | hz
            · exact (ltS_ne hlt).symm
            · exact (ltS_ne (ltS_trans hlt (h.1 z hz))).symm
    have hv : x.2 = y.2 := by
      have h1 := e x.1
      rw [look_cons, if_pos rfl, look_cons, if_pos hk.symm] at h1
      injection h1
    have hxy : x = y := Prod.ext hk hv
    subst hxy
    rw [asc_unique h.2 h'.2 (fun k => ?_)]
    by_cases ek : x.1 = k
    · rw [look_not (fun z hz => by rw [← ek]; exact (ltS_ne (h.1 z hz)).symm), look_not (fun z hz => by rw [← ek]; exact (ltS_ne (h'.1 z hz)).symm)]
    · have h1 := e k
      rw [look_cons, if_neg ek, look_cons, if_neg ek] at h1
      exact h1
/-- What stands last at a key. -/
def lastV (m : List (ByteArray × VT)) (k : ByteArray) : Option VT := look m.reverse k
theorem lastV_append (a b : List (ByteArray × VT)) (k : ByteArray) : lastV (a ++ b) k = (lastV b k).or (lastV a k) := by
  unfold lastV look
  rw [List.reverse_append, List.find?_append]
  cases (b.reverse.find? fun x => decide (x.1 = k)) <;> rfl
theorem lastV_one (x : ByteArray × VT) (k : ByteArray) : lastV [x] k = if x.1 = k then some x.2 else none := by
  unfold lastV
  rw [List.reverse_singleton, look_cons, look_nil]
theorem lastV_none {m : List (ByteArray × VT)} {k : ByteArray} (h : ∀ y ∈ m, y.1 ≠ k) : lastV m k = none := look_not (fun y hy => h y (List.mem_reverse.1 hy))
/-- L is the map of the members m. -/
def IsMap (m L : List (ByteArray × VT)) : Prop := Asc L ∧ ∀ k, look L k = lastV m k
theorem IsMap.unique {m L L' : List (ByteArray × VT)} (h : IsMap m L) (h' : IsMap m L') : L = L' := asc_unique h.1 h'.1 (fun k => (h.2 k).trans (h'.2 k).symm)

/-- The numbers of the members that stay: each key's last, by keys. -/
def IsIdx (key : Nat → ByteArray) (n : Nat) (D : List Nat) : Prop := D.Pairwise (fun a b => ltS (key a) (key b) = true) ∧ ∀ y, y ∈ D ↔ y < n ∧ ∀ x, x < n → key x = key y → x ≤ y
theorem lastV_at {m : List (ByteArray × VT)} {y : Nat} (hy : y < m.length) (h : ∀ x (hx : x < m.length), m[x].1 = m[y].1 → x ≤ y) : lastV m m[y].1 = some m[y].2 := by
  have h1 : lastV (m.drop (y + 1)) m[y].1 = none := lastV_none (fun z hz => by
    obtain ⟨i, hi, rfl⟩ := List.getElem_of_mem hz
    rw [List.length_drop] at hi
    rw [List.getElem_drop]
    intro hk
    have := h (y + 1 + i) (by omega) hk
    omega)
  have h2 : lastV (m.take (y + 1)) m[y].1 = some m[y].2 := by
    rw [List.take_succ_eq_append_getElem hy, lastV_append, lastV_one, if_pos rfl]; rfl
  have h3 := lastV_append (m.take (y + 1)) (m.drop (y + 1)) m[y].1
  rw [List.take_append_drop, h1, h2] at h3
  exact h3
theorem exists_last {n : Nat} (p : Nat → Prop) [DecidablePred p] {x : Nat} (hx : x < n) (hp : p x) : ∃ y, y < n ∧ p y ∧ ∀ z, z < n → p z → z ≤ y := by
  induction n with
  | zero => omega
  | succ n ih =>
    by_cases h : p n
    · exact ⟨n, by omega, h, fun z hz _ => by omega⟩
    · have hxn : x < n := by
        by_cases e : x = n
        · subst e; exact absurd hp h
        · omega
      obtain ⟨y, h1, h2, h3⟩ := ih hxn
      refine ⟨y, by omega, h2, fun z hz hpz => ?_⟩
      by_cases e : z = n
      · subst e; exact absurd hpz h
      · exact h3 z (by omega) hpz
theorem isIdx_map {m : List (ByteArray × VT)} {D : List Nat} (h : IsIdx (keyD m) m.length D) : IsMap m (D.map (memD m)) := by
  have hasc : Asc (D.map (memD m)) := by
    rw [asc_iff, List.pairwise_map]
    exact h.1
  refine ⟨hasc, fun k => ?_⟩
  by_cases hk : ∃ x, x < m.length ∧ keyD m x = k
  · obtain ⟨x, hx, hxk⟩ := hk
    obtain ⟨y, hy, hyk, hmax⟩ := exists_last (fun x => keyD m x = k) hx hxk
    have hyD : y ∈ D := (h.2 y).2 ⟨hy, fun z hz hzk => hmax z hz (hzk.trans hyk)⟩
    have h1 := look_mem hasc (List.mem_map_of_mem hyD)
    have e : memD m y = m[y] := memD_at m y hy
    have ek : m[y].1 = k := by rw [← e]; exact hyk
    rw [e, ek] at h1
    have h2 := lastV_at hy (fun z hz hzk => hmax z hz (by unfold keyD; rw [memD_at m z hz, hzk]; exact ek))
    rw [ek] at h2
    rw [h1, h2]
  · rw [lastV_none (fun z hz => ?_), look_not (fun z hz => ?_)]
    · obtain ⟨y, hy, rfl⟩ := List.mem_map.1 hz
      intro e
      exact hk ⟨y, ((h.2 y).1 hy).1, e⟩
    · obtain ⟨i, hi, rfl⟩ := List.getElem_of_mem hz
      intro e
      exact hk ⟨i, hi, by unfold keyD; rw [memD_at m i hi]; exact e⟩
theorem mem_kept {key : Nat → ByteArray} {S : List Nat} {y : Nat} : ∀ {j : Nat}, y ∈ kept key S j ↔ ∃ t, t < j ∧ S.getD t 0 = y ∧ keepAt key S t = true
  | 0 => by simp [kept]
  | j + 1 => by
    have ih := mem_kept (key := key) (S := S) (y := y) (j := j)
    simp only [kept]
    split
    · rename_i hk
      rw [List.mem_append, ih]
      constructor
      · rintro (⟨t, h1, h2⟩ | h)
        · exact ⟨t, by omega, h2⟩
        · exact ⟨j, by omega, (List.mem_singleton.1 h).symm, hk⟩
      · rintro ⟨t, h1, h2, h3⟩
        by_cases e : t = j
        · subst e; right; rw [h2]; exact List.mem_singleton.2 rfl
        · exact .inl ⟨t, by omega, h2, h3⟩
    · rename_i hk
      rw [ih]
      constructor
      · rintro ⟨t, h1, h2⟩; exact ⟨t, by omega, h2⟩
      · rintro ⟨t, h1, h2, h3⟩
        by_cases e : t = j
        · subst e; exact absurd h3 hk
        · exact ⟨t, by omega, h2, h3⟩
theorem sl_get' {key : Nat → ByteArray} {X : List Nat} (hs : X.Pairwise (sl key)) {i j : Nat} (hij : i < j) (hj : j < X.length) : sl key (X.getD i 0) (X.getD j 0) := by
  have := List.pairwise_iff_getElem.1 hs i j (by omega) hj hij
  simpa [hj, show i < X.length by omega] using this
theorem keepAt_lt {key : Nat → ByteArray} {S : List Nat} (hs : S.Pairwise (sl key)) {t u : Nat} (htu : t < u) (hu : u < S.length) (hk : keepAt key S t = true) : ltS (key (S.getD t 0)) (key (S.getD u 0)) = true := by
  unfold keepAt at hk
  rw [Bool.or_eq_true, decide_eq_true_eq] at hk
  rcases hk with hk | hk
  · omega
  · by_cases e : u = t + 1
    · subst e; exact hk
    · rcases sl_get' hs (show t + 1 < u by omega) hu with h | ⟨h, _⟩
      · exact ltS_trans hk h
      · rw [← h]; exact hk
theorem kept_pair {key : Nat → ByteArray} {S : List Nat} (hs : S.Pairwise (sl key)) : ∀ j, j ≤ S.length → (kept key S j).Pairwise (fun a b => ltS (key a) (key b) = true)
  | 0, _ => List.Pairwise.nil
  | j + 1, hj => by
    have ih := kept_pair hs j (by omega)
    simp only [kept]
    split
    · rw [List.pairwise_append]
      refine ⟨ih, List.pairwise_singleton _ _, fun a ha b hb => ?_⟩
      obtain ⟨t, h1, rfl, h3⟩ := mem_kept.1 ha
      simp only [List.mem_singleton] at hb
      subst hb
      exact keepAt_lt hs h1 (by omega) h3
    · exact ih
theorem kept_isIdx {key : Nat → ByteArray} {n : Nat} {S : List Nat} (h : Sorted key n S) : IsIdx key n (kept key S S.length) := by
  have hlen : S.length = n := by have := h.1.length_eq; simpa using this
  have hlt : ∀ t, t < S.length → S.getD t 0 < n := by
    intro t ht
    have : S.getD t 0 ∈ S := by simp [ht]
    simpa using h.1.mem_iff.1 this
  have hat : ∀ x, x < n → ∃ u, u < S.length ∧ S.getD u 0 = x := by
    intro x hx
    have : x ∈ S := h.1.mem_iff.2 (by simpa using hx)
    obtain ⟨u, hu, e⟩ := List.getElem_of_mem this
    exact ⟨u, hu, by simp [hu, e]⟩
  refine ⟨kept_pair h.2 _ (Nat.le_refl _), fun y => ?_⟩
  rw [mem_kept]
  constructor
  · rintro ⟨t, ht, rfl, hk⟩
    refine ⟨hlt t ht, fun x hx hkey => ?_⟩
    obtain ⟨u, hu, rfl⟩ := hat x hx
    rcases Nat.lt_trichotomy u t with h1 | h1 | h1
    · rcases sl_get' h.2 h1 ht with h2 | ⟨_, h2⟩
      · exact absurd hkey (ltS_ne h2)
      · omega
    · subst h1; omega
    · exact absurd hkey.symm (ltS_ne (keepAt_lt h.2 h1 hu hk))
  · rintro ⟨hy, hmax⟩
    obtain ⟨t, ht, rfl⟩ := hat y hy
    refine ⟨t, ht, rfl, ?_⟩
    unfold keepAt
    rw [Bool.or_eq_true, decide_eq_true_eq]
    by_cases e : t + 1 = S.length
    · exact .inl e
    · right
      rcases sl_get' h.2 (show t < t + 1 by omega) (by omega) with h1 | ⟨h1, h2⟩
      · exact h1
      · have := hmax _ (hlt (t + 1) (by omega)) h1.symm
        omega
/-- What Map makes of its members is their map. -/
theorem mapL_isMap {m : List (ByteArray × VT)} {S : List Nat} (h : Sorted (keyD m) m.length S) : IsMap m (mapL m S) := isIdx_map (kept_isIdx h)
end Go.Proofs.Ythcphfpkinfjoaa

namespace Go.Proofs.Ythcphfpkinfjoaa

theorem lastV_in {m : List (ByteArray × VT)} {k : ByteArray} {v : VT} (h : lastV m k = some v) : (k, v) ∈ m := List.mem_reverse.1 (look_in h)
theorem look_noK {L : List (ByteArray × VT)} {k : ByteArray} (h : look L k = none) : ∀ y ∈ L, y.1 ≠ k := by
  intro y hy e
  unfold look at h
  rw [Option.map_eq_none_iff, List.find?_eq_none] at h
  have := h y hy
  simp [e] at this
/-- The same members in another order. -/
theorem isMap_of_mem {B L : List (ByteArray × VT)} (hL : Asc L) (h : ∀ x, x ∈ B ↔ x ∈ L) : IsMap B L := by
  refine ⟨hL, fun k => ?_⟩
  cases hb : lastV B k with
  | some v => exact look_mem hL ((h _).1 (lastV_in hb))
  | none => exact look_not (fun y hy => look_noK hb y (List.mem_reverse.2 ((h y).2 hy)))
theorem isMap_self {L : List (ByteArray × VT)} (hL : Asc L) : IsMap L L := isMap_of_mem hL (fun _ => Iff.rfl)
/-- Behind members their map. -/
theorem isMap_app {m L : List (ByteArray × VT)} (h : IsMap m L) : IsMap (m ++ L) L := by
  refine ⟨h.1, fun k => ?_⟩
  rw [lastV_append, ← (isMap_self h.1).2 k, ← h.2 k]
  cases look L k <;> rfl
theorem isMap_one (x : ByteArray × VT) : IsMap [x] [x] := isMap_self (fun i j hij hj => by simp at hj; omega)
theorem isMap_mem {m L : List (ByteArray × VT)} (h : IsMap m L) {x : ByteArray × VT} (hx : x ∈ L) : x ∈ m := by
  have h1 := look_mem h.1 hx
  rw [h.2] at h1
  exact lastV_in h1
theorem isMap_pos {m L : List (ByteArray × VT)} (h : IsMap m L) (h0 : 0 < m.length) : 0 < L.length := by
  rcases Nat.eq_zero_or_pos L.length with h1 | h1
  · exfalso
    obtain rfl : L = [] := List.eq_nil_of_length_eq_zero h1
    have h2 := h.2 m[0].1
    rw [look_nil] at h2
    exact look_noK h2.symm _ (List.mem_reverse.2 (List.getElem_mem h0)) rfl
  · exact h1
/-- A map has not more members than it was made of. -/
theorem isMap_len {m L : List (ByteArray × VT)} (h : IsMap m L) : L.length ≤ m.length := by
  have hn : (L.map (·.1)).Nodup := by
    unfold List.Nodup
    rw [List.pairwise_map]
    exact ((asc_iff L).1 h.1).imp fun hab => ltS_ne hab
  have hs : ∀ x ∈ L.map (·.1), x ∈ m.map (·.1) := by
    intro x hx
    obtain ⟨y, hy, rfl⟩ := List.mem_map.1 hx
    exact List.mem_map.2 ⟨y, isMap_mem h hy, rfl⟩
  have h2 := List.Nodup.length_le_of_subset hn hs
  simpa using h2

theorem turned_at (n j k : Nat) (hj : j < n) : ∃ i, i < n ∧ (n - 1 - i + k) % n = j := by
  have h1 := Nat.div_add_mod (n - 1 - j + k) n
  have h2 := Nat.mod_lt (n - 1 - j + k) (show 0 < n by omega)
  generalize (n - 1 - j + k) / n = q at h1
  generalize (n - 1 - j + k) % n = i at h1 h2
  refine ⟨i, h2, ?_⟩
  have e : n - 1 - i + k = n * q + j := by
    generalize n * q = z at *
    omega
  rw [e, Nat.mul_add_mod, Nat.mod_eq_of_lt hj]
/-- From the end, k further on, round: each place is met. -/
theorem turned_mem {α : Type} (L : List α) (k : Nat) (d : α) (x : α) : x ∈ (List.range L.length).map (fun i => L.getD ((L.length - 1 - i + k) % L.length) d) ↔ x ∈ L := by
  rw [List.mem_map]
  constructor
  · rintro ⟨i, hi, rfl⟩
    have hi' : i < L.length := List.mem_range.1 hi
    have hlt : (L.length - 1 - i + k) % L.length < L.length := Nat.mod_lt _ (by omega)
    rw [List.getD, List.getElem?_eq_getElem hlt]
    exact List.getElem_mem hlt
  · intro hx
    obtain ⟨j, hj, rfl⟩ := List.mem_iff_getElem.1 hx
    obtain ⟨i, h2, e⟩ := turned_at L.length j k hj
    refine ⟨i, List.mem_range.2 h2, ?_⟩
    rw [e, List.getD, List.getElem?_eq_getElem hj]
    rfl
theorem depM_bnd {L : List (ByteArray × VT)} {B : Nat} (h : ∀ x ∈ L, dep x.2 ≤ B) : depM L ≤ B := by
  induction L with
  | nil => simp [depM]
  | cons x L ih =>
    obtain ⟨k, t⟩ := x
    simp only [depM]
    have h1 := h (k, t) (by simp)
    have h2 := ih fun y hy => h y (by simp [hy])
    simp only at h1
    omega
theorem depM_in {L : List (ByteArray × VT)} {x : ByteArray × VT} (h : x ∈ L) : dep x.2 ≤ depM L := by
  obtain ⟨i, hi, rfl⟩ := List.mem_iff_getElem.1 h
  exact depM_mem L i hi
theorem isMap_dep {m L : List (ByteArray × VT)} (h : IsMap m L) : depM L ≤ depM m := depM_bnd fun _ hx => depM_in (isMap_mem h hx)
theorem mayM_mem {L : List (ByteArray × VT)} (h : MayM L) : ∀ x ∈ L, May x.2 := by
  induction L with
  | nil => intro x hx; cases hx
  | cons y L ih =>
    obtain ⟨k, t⟩ := y
    simp only [MayM] at h
    intro x hx
    rcases List.mem_cons.1 hx with rfl | hx
    · exact h.1
    · exact ih h.2 x hx
theorem mayM_of {L : List (ByteArray × VT)} (h : ∀ x ∈ L, May x.2) : MayM L := by
  induction L with
  | nil => trivial
  | cons y L ih =>
    obtain ⟨k, t⟩ := y
    exact ⟨h (k, t) (by simp), ih fun x hx => h x (by simp [hx])⟩
/-- A map's node, of keys that are good and ascend. -/
theorem node_map {L : List (ByteArray × VT)} (hL : Asc L) (hk : ∀ x ∈ L, gS x.1 = true) : NodeOK (.mk 5 0 ⟨#[]⟩ [] L) := by
  unfold NodeOK
  right; right; right; right; right
  refine ⟨rfl, rfl, by decide +kernel, rfl, fun i hi => ⟨hk _ (List.getElem_mem hi), fun h0 => hL (i - 1) i (by omega) hi⟩⟩
theorem node_keys {k n : Int} {s : ByteArray} {l : List VT} {L : List (ByteArray × VT)} (hk : k = 5) (h : NodeOK (.mk k n s l L)) : KeysOK L := by
  unfold NodeOK at h
  rcases h with h | h | h | h | h | h
  · omega
  · omega
  · omega
  · omega
  · omega
  · exact h.2.2.2.2
theorem may_mapT {L : List (ByteArray × VT)} : May (.mk 5 0 ⟨#[]⟩ [] L) ↔ Asc L ∧ (∀ x ∈ L, gS x.1 = true) ∧ ∀ x ∈ L, May x.2 := by
  rw [May]
  constructor
  · rintro ⟨h1, -, h3⟩
    have hk := node_keys rfl h1
    exact ⟨hk.asc, fun x hx => by obtain ⟨i, hi, rfl⟩ := List.mem_iff_getElem.1 hx; exact (hk i hi).1, mayM_mem (h3 rfl)⟩
  · rintro ⟨h1, h2, h3⟩
    exact ⟨node_map h1 h2, fun h => by simp at h, fun _ => mayM_of h3⟩
/-- A map with one good member set, not too deep, is good. -/
theorem set_good {L L2 : List (ByteArray × VT)} {key : ByteArray} {x : VT} (hA : Asc L2) (hm : ∀ y ∈ L2, y ∈ L ∨ y = (key, x)) (hL : GoodV (.mk 5 0 ⟨#[]⟩ [] L)) (hk : gS key = true) (hx : GoodV x) (hd : dep x < 50) : GoodV (.mk 5 0 ⟨#[]⟩ [] L2) := by
  rw [goodV_iff] at hL hx ⊢
  have h1 := may_mapT.1 hL.2
  have h2 : 1 + depM L ≤ 50 := by have := hL.1; simpa [dep] using this
  refine ⟨?_, may_mapT.2 ⟨hA, fun y hy => ?_, fun y hy => ?_⟩⟩
  · have : depM L2 ≤ 49 := depM_bnd fun y hy => by
      rcases hm y hy with h | rfl
      · have := depM_in h; omega
      · show dep x ≤ 49; omega
    simp only [dep]; simp; omega
  · rcases hm y hy with h | rfl
    · exact h1.2.1 y h
    · exact hk
  · rcases hm y hy with h | rfl
    · exact h1.2.2 y h
    · exact hx.2
end Go.Proofs.Ythcphfpkinfjoaa
