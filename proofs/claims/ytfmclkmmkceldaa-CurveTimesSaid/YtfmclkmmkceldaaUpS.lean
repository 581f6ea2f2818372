/-
  A whole statement of calls and reads, with blocks of its own that are made and filled once, in whatever order: walked once.
  Conditions: none.
-/
import Derived.Test.YtfmclkmmkceldaaUpM
import Derived.Laws.Tables
namespace Go.Proofs.Ytfmclkmmkceldaa
open Go.RowKit

theorem below_setRow {B g : Nat} {u v : World} (h : Below B u v) (hg : B ≤ g) (cs : Array Value) : Below B u (v.setRow g cs) :=
  ⟨h.os, h.tape, h.output, by rw [setRow_size]; exact h.size, fun k hk => by rw [setRow_other _ _ _ _ (by omega)]; exact h.block k hk⟩
/-- A block that is made (by operation i, its address in slot d) and filled once (by operation j, with the value in slot v). -/
structure Sp where
  i : Nat
  o : Oper
  t : TypeId
  zero : Array Value
  d : Tmp
  j : Nat
  so : Oper
  ty : TypeId
  v : Tmp
  cs : Array Value
def Sp.al (x : Sp) : Al := ⟨x.i, x.o, .cells x.zero x.t⟩
def pS (M : Nat → Nat) (x : Sp) (a : Act) : Act := a.put (some x.d) (.pointer (some ⟨M x.i, 0, none⟩))
def setI (l : List Sp) (s : Array Bool) : Array Bool := l.foldr (fun x s => s.setIfInBounds x.i true) s
def setJ (l : List Sp) (s : Array Bool) : Array Bool := l.foldr (fun x s => s.setIfInBounds x.j true) s
section
variable {P : Program} {ops : Array Oper} {w0 : World}

theorem setI_cons (x : Sp) (l : List Sp) (s : Array Bool) : setI (x :: l) s = (setI l s).setIfInBounds x.i true := rfl
theorem setJ_cons (x : Sp) (l : List Sp) (s : Array Bool) : setJ (x :: l) s = (setJ l s).setIfInBounds x.j true := rfl
theorem setI_set (l : List Sp) (s : Array Bool) (i : Nat) : setI l (s.setIfInBounds i true) = (setI l s).setIfInBounds i true := by
  induction l with
  | nil => rfl
  | cons x l ih => rw [setI_cons, setI_cons, ih, set_comm]
theorem setJ_set (l : List Sp) (s : Array Bool) (i : Nat) : setJ l (s.setIfInBounds i true) = (setJ l s).setIfInBounds i true := by
  induction l with
  | nil => rfl
  | cons x l ih => rw [setJ_cons, setJ_cons, ih, set_comm]
theorem setI_perm {l m : List Sp} (h : l.Perm m) (s : Array Bool) : setI l s = setI m s := by
  unfold setI
  exact h.foldr_eq' (fun x _ y _ z => set_comm z x.i y.i) s
theorem setJ_perm {l m : List Sp} (h : l.Perm m) (s : Array Bool) : setJ l s = setJ m s := by
  unfold setJ
  exact h.foldr_eq' (fun x _ y _ z => set_comm z x.j y.j) s
theorem ready_setI {i : Nat} {s : Array Bool} : ∀ (l : List Sp), i ∈ Region.ready .any ops s → (∀ x ∈ l, i ≠ x.i) → i ∈ Region.ready .any ops (setI l s)
  | [], h, _ => h
  | x :: l, h, hne => by
    rw [setI_cons]
    exact ready_mono (ready_setI l h (fun y hy => hne y (List.mem_cons_of_mem _ hy))) (hne x (List.mem_cons_self ..))
theorem ready_setJ {i : Nat} {s : Array Bool} : ∀ (l : List Sp), i ∈ Region.ready .any ops s → (∀ x ∈ l, i ≠ x.j) → i ∈ Region.ready .any ops (setJ l s)
  | [], h, _ => h
  | x :: l, h, hne => by
    rw [setJ_cons]
    exact ready_mono (ready_setJ l h (fun y hy => hne y (List.mem_cons_of_mem _ hy))) (hne x (List.mem_cons_self ..))
theorem listed_set {s : Array Bool} {i k : Nat} (h : (s.setIfInBounds i true).getD k true = false) : s.getD k true = false := by
  by_cases hik : i = k
  · subst hik
    rcases Nat.lt_or_ge i s.size with h' | h'
    · simp [h'] at h
    · simp [h'] at h
  · rwa [getD_set_ne true hik] at h
theorem listed_setI {s : Array Bool} {k : Nat} : ∀ l : List Sp, (setI l s).getD k true = false → s.getD k true = false
  | [], h => h
  | x :: l, h => by rw [setI_cons] at h; exact listed_setI l (listed_set h)
theorem listed_setJ {s : Array Bool} {k : Nat} : ∀ l : List Sp, (setJ l s).getD k true = false → s.getD k true = false
  | [], h => h
  | x :: l, h => by rw [setJ_cons] at h; exact listed_setJ l (listed_set h)
/-- Whatever comes up, so often. -/
def upT (P : Program) (ops : Array Oper) (w0 : World) (L : Array Bool → Act → Prop) : Nat → Array Bool → Act → Prop
  | 0, listed, a => L listed a
  | f + 1, listed, a => Region.ready .any ops listed ≠ [] ∧ ∀ i ∈ Region.ready .any ops listed, ∃ oi v, ops[i]? = some oi ∧ UpG P ops w0 oi v a ∧ upT P ops w0 L f (listed.setIfInBounds i true) (a.put oi.dst v)
theorem upT_first {L : Array Bool → Act → Prop} (hsel : ∀ (j : Nat) (o : Oper) cs b, ops[j]? = some o → o.op ≠ .select cs b) (hdone : ∀ listed a, L listed a → Region.ready .any ops listed = []) {i : Nat} {oi : Oper} {v : Value} (hi : ops[i]? = some oi) :
    ∀ (f : Nat) (listed : Array Bool) (a : Act),
      (∀ j oj, ops[j]? = some oj → j ≠ i → listed.getD j true = false → (∀ x ∈ oj.after, Region.binds .any x = true → x.on ≠ i) → oi.apart ops oj = true) →
      i ∈ Region.ready .any ops listed → UpG P ops w0 oi v a → upT P ops w0 L f (listed.setIfInBounds i true) (a.put oi.dst v) → upT P ops w0 L (f + 1) listed a := by
  intro f
  induction f with
  | zero =>
    intro listed a hfree hr hy H
    refine ⟨fun h => (by rw [h] at hr; cases hr), fun j hj => ?_⟩
    by_cases hji : j = i
    · subst hji; exact ⟨oi, v, hi, hy, H⟩
    · have := ready_mono hj hji
      rw [hdone _ _ H] at this
      cases this
  | succ f ih =>
    intro listed a hfree hr hy H
    have hun := (mem_ready.1 hr).1
    refine ⟨fun h => (by rw [h] at hr; cases hr), fun j hj => ?_⟩
    by_cases hji : j = i
    · subst hji; exact ⟨oi, v, hi, hy, H⟩
    · obtain ⟨oj, u, hoj, hyj, hrest⟩ := H.2 j (ready_mono hj hji)
      obtain ⟨hjun, oj', hoj', hall⟩ := mem_ready.1 hj
      obtain rfl : oj' = oj := Option.some.inj (hoj'.symm.trans hoj)
      have hnot : ∀ x ∈ oj'.after, Region.binds .any x = true → x.on ≠ i := fun x hx hb heq => by
        have h1 := hall x hx hb
        rw [heq, getD_both hun] at h1
        cases h1
      have hapj := hfree j oj' hoj hji hjun hnot
      obtain ⟨p1, p2, p3⟩ := Oper.apart_spec hapj
      have hyj' : UpG P ops w0 oj' u a := UpG.put hsel hoj hapj hyj
      have hyi' : UpG P ops w0 oi v (a.put oj'.dst u) := hy.of_same (execOp_put oi (fun cs b => hsel i oi cs b hi) a oj'.dst u p3) (wanted_put oi a oj'.dst u p3)
      have hfree' : ∀ k ok, ops[k]? = some ok → k ≠ i → (listed.setIfInBounds j true).getD k true = false →
          (∀ x ∈ ok.after, Region.binds .any x = true → x.on ≠ i) → oi.apart ops ok = true := fun k ok hk hki hunk hno => hfree k ok hk hki (listed_set hunk) hno
      refine ⟨oj', u, hoj, hyj', ih (listed.setIfInBounds j true) _ hfree' (ready_mono hr (Ne.symm hji)) hyi' ?_⟩
      rw [Array.setIfInBounds_comm _ _ hji, ← Act.put_comm a v u p2]
      exact hrest
def ixT (ops : Array Oper) : List Nat → Array Bool → Bool
  | [], listed => (Region.ready .any ops listed).isEmpty
  | i :: is, listed => (Region.ready .any ops listed).contains i && Region.free .any ops listed i && ixT ops is (listed.setIfInBounds i true)
theorem upT_lex {Lq : Act → Prop} (hsel : Region.noSelect ops = true) : ∀ (is : List Nat) (listed : Array Bool) (a : Act), ixT ops is listed = true → upIx P ops w0 Lq is a →
    upT P ops w0 (fun listed' a' => Region.ready .any ops listed' = [] ∧ Lq a') is.length listed a
  | [], listed, a, hB, h => ⟨by simpa [ixT] using hB, h⟩
  | i :: is, listed, a, hB, h => by
    simp only [ixT, Bool.and_eq_true] at hB
    obtain ⟨⟨hr, hf⟩, hB'⟩ := hB
    have hr' : i ∈ Region.ready .any ops listed := by simpa using hr
    obtain ⟨oi, v, ho, hy, hrest⟩ := h
    exact upT_first (Region.noSelect_spec hsel) (fun _ _ h => h.1) ho is.length listed a (Region.free_spec ho hf) hr' hy (upT_lex hsel is _ _ hB' hrest)
/-- What a slot holds whose operations are all done it holds at the end. -/
theorem upT_end {L : Array Bool → Act → Prop} {s : Tmp} : ∀ (f : Nat) (listed : Array Bool) (a : Act), (∀ j oj, ops[j]? = some oj → listed.getD j true = false → oj.dst ≠ some s) → upT P ops w0 L f listed a → ∃ listed' a', L listed' a' ∧ a'.tmps[s]? = a.tmps[s]?
  | 0, listed, a, _, h => ⟨listed, a, h, rfl⟩
  | f + 1, listed, a, hno, h => by
    obtain ⟨i, hi⟩ := List.exists_mem_of_ne_nil _ h.1
    obtain ⟨oi, v, ho, _, hrest⟩ := h.2 i hi
    obtain ⟨l', a', hL, he⟩ := upT_end f _ _ (fun j oj hj hun => hno j oj hj (listed_set hun)) hrest
    refine ⟨l', a', hL, he.trans ?_⟩
    have hne := hno i oi ho (mem_ready.1 hi).1
    unfold Act.put
    split
    · rename_i d hd
      have : d ≠ s := fun h1 => hne (by rw [hd, h1])
      simp [Array.getElem?_setIfInBounds_ne this]
    · rfl
def awayS (ops : Array Oper) (sps : List Sp) (oj : Oper) : Prop := ∀ x ∈ sps, x.d ∉ oj.looksAt ops ∧ oj.dst ≠ some x.d
theorem away_upS {j : Nat} {oj : Oper} {v : Value} {M : Nat → Nat} (hsel : Region.noSelect ops = true) (hoj : ops[j]? = some oj) : ∀ (l : List Sp) (a : Act), awayS ops l oj → UpG P ops w0 oj v a → UpG P ops w0 oj v (l.foldr (pS M) a)
  | [], _, _, h => h
  | x :: l, a, hw, h => by
    have ih := away_upS (M := M) hsel hoj l a (fun y hy => hw y (List.mem_cons_of_mem _ hy)) h
    obtain ⟨q1, _⟩ := hw x (List.mem_cons_self ..)
    have q : ∀ d, some x.d = some d → d ∉ oj.looksAt ops := fun d hd => by rw [← Option.some.inj hd]; exact q1
    exact ih.of_same (execOp_put oj (fun cs b => Region.noSelect_spec hsel j oj cs b hoj) _ _ _ q) (wanted_put oj _ _ _ q)
theorem away_putS {oj : Oper} {v : Value} {M : Nat → Nat} : ∀ (l : List Sp) (a : Act), awayS ops l oj → (l.foldr (pS M) a).put oj.dst v = l.foldr (pS M) (a.put oj.dst v)
  | [], _, _ => rfl
  | x :: l, a, hw => by
    have ih := away_putS (v := v) (M := M) l a (fun y hy => hw y (List.mem_cons_of_mem _ hy))
    obtain ⟨_, q2⟩ := hw x (List.mem_cons_self ..)
    simp only [List.foldr_cons]
    unfold pS at *
    rw [Act.put_comm _ _ v (fun d hd => by rw [← Option.some.inj hd]; exact q2), ih]
theorem pS_size (M : Nat → Nat) (x : Sp) (a : Act) : (pS M x a).tmps.size = a.tmps.size := by simp [pS, Act.put]
theorem pS_other (M : Nat → Nat) (x : Sp) (a : Act) (s : Tmp) (h : x.d ≠ s) : (pS M x a).tmps[s]? = a.tmps[s]? := by
  simp only [pS, Act.put]
  exact Array.getElem?_setIfInBounds_ne h
theorem pS_own (M : Nat → Nat) (x : Sp) (a : Act) (h : x.d < a.tmps.size) : (pS M x a).tmps[x.d]? = some (.pointer (some ⟨M x.i, 0, none⟩)) := by
  simp only [pS, Act.put]
  exact Array.getElem?_setIfInBounds_self_of_lt h
theorem foldr_size {M : Nat → Nat} (l : List Sp) (a : Act) : (l.foldr (pS M) a).tmps.size = a.tmps.size := by
  induction l with
  | nil => rfl
  | cons x l ih => rw [List.foldr_cons, pS_size, ih]
theorem foldr_other {M : Nat → Nat} {s : Tmp} (l : List Sp) (a : Act) (h : ∀ x ∈ l, x.d ≠ s) : (l.foldr (pS M) a).tmps[s]? = a.tmps[s]? := by
  induction l with
  | nil => rfl
  | cons x l ih => rw [List.foldr_cons, pS_other M x _ s (h x (List.mem_cons_self ..)), ih (fun y hy => h y (List.mem_cons_of_mem _ hy))]
theorem foldr_own {M : Nat → Nat} {x : Sp} (l : List Sp) (a : Act) (hx : x ∈ l) (hd : ∀ y ∈ l, y.d = x.d → y.i = x.i) (hs : x.d < a.tmps.size) : (l.foldr (pS M) a).tmps[x.d]? = some (.pointer (some ⟨M x.i, 0, none⟩)) := by
  induction l with
  | nil => cases hx
  | cons y l ih =>
    rw [List.foldr_cons]
    by_cases hyx : y.d = x.d
    · have hyi := hd y (List.mem_cons_self ..) hyx
      have := pS_own M y (l.foldr (pS M) a) (by rw [foldr_size, hyx]; exact hs)
      rw [hyx, hyi] at this
      exact this
    · have hxl : x ∈ l := by
        rcases List.mem_cons.1 hx with rfl | h1
        · exact absurd rfl hyx
        · exact h1
      rw [pS_other M y _ _ hyx]
      exact ih hxl (fun z hz => hd z (List.mem_cons_of_mem _ hz))
theorem foldr_congrS {M N : Nat → Nat} (l : List Sp) (a : Act) (h : ∀ x ∈ l, M x.i = N x.i) : l.foldr (pS M) a = l.foldr (pS N) a := by
  induction l with
  | nil => rfl
  | cons x l ih =>
    simp only [List.foldr_cons]
    rw [ih (fun y hy => h y (List.mem_cons_of_mem _ hy))]
    unfold pS
    rw [h x (List.mem_cons_self ..)]
/-- The worlds in which the blocks lie, filled or not. -/
def Dw (w0 : World) (A : List Sp) (M : Nat → Nat) (S : Nat → Bool) (w : World) : Prop :=
  Below w0.heap.size w0 w ∧ (∀ x ∈ A, w0.heap.size ≤ M x.i ∧ w.heap[M x.i]? = some (.cells (if S x.i = true then x.cs else x.zero) x.t (0, 0))) ∧ (∀ x ∈ A, ∀ y ∈ A, x.i ≠ y.i → M x.i ≠ M y.i)
theorem Dw.step {A : List Sp} {M : Nat → Nat} {S : Nat → Bool} {w w' : World} (h : Dw w0 A M S w) (hb : Below w.heap.size w w') : Dw w0 A M S w' :=
  ⟨h.1.trans (hb.mono h.1.size), fun x hx => ⟨(h.2.1 x hx).1, by rw [hb.block _ (Array.getElem?_eq_some_iff.1 (h.2.1 x hx).2).1]; exact (h.2.1 x hx).2⟩, h.2.2⟩
/-- What is asked of the blocks' operations. -/
structure SpOk (P : Program) (ops : Array Oper) (Q' : Exit → Act → World → Prop) (sps : List Sp) (sz : Nat) : Prop where
  ii : ∀ x ∈ sps, ∀ y ∈ sps, x.i = y.i → x = y
  jj : ∀ x ∈ sps, ∀ y ∈ sps, x.j = y.j → x = y
  ij : ∀ x ∈ sps, ∀ y ∈ sps, x.i ≠ y.j
  dd : ∀ x ∈ sps, ∀ y ∈ sps, x.d = y.d → x.i = y.i
  dv : ∀ x ∈ sps, ∀ y ∈ sps, x.d ≠ y.v
  lt : ∀ x ∈ sps, x.i < ops.size ∧ x.j < ops.size ∧ x.d < sz
  alloc : ∀ x ∈ sps, ∀ (a : Act) (w : World) (K : Act → World → Prop), K (a.put (some x.d) (.pointer (some ⟨w.heap.size, 0, none⟩))) (w.alloc (.cells x.zero x.t)) → wpOp P ops Q' x.i K a w
  rdy : ∀ x ∈ sps, ∀ listed : Array Bool, listed.getD x.i true = false → x.i ∈ Region.ready .any ops listed
  store : ∀ x ∈ sps, ops[x.j]? = some x.so ∧ x.so.guard = none ∧ x.so.dst = none ∧ x.so.op = .store x.ty (.tmp x.d) (.tmp x.v) ∧ (P.info? x.ty).map (·.size) = some x.cs.size ∧ x.zero.size = x.cs.size ∧ x.cs.all (·.oneCell') = true
  waits : ∀ x ∈ sps, Region.waitsFor .any ops x.j x.i = true ∧ ∀ p op, ops[p]? = some op → op.dst = some x.v → Region.waitsFor .any ops x.j p = true
  down : ∀ j oj, ops[j]? = some oj → ∀ b ∈ oj.after, Region.binds .any b = true → b.on < j
  away : ∀ j oj, ops[j]? = some oj → (∀ x ∈ sps, j ≠ x.i ∧ j ≠ x.j) → awayS ops sps oj
theorem waits_listed {j p : Nat} {listed : Array Bool} (hw : Region.waitsFor .any ops j p = true) (hj : j ∈ Region.ready .any ops listed) : listed.getD p true = true := by
  obtain ⟨o, ho, b, hb, hbi, hon⟩ := Region.waitsFor_spec hw
  obtain ⟨_, o', ho', hall⟩ := mem_ready.1 hj
  obtain rfl : o' = o := Option.some.inj (ho'.symm.trans ho)
  have h1 := hall b hb hbi
  rw [hon] at h1
  cases h2 : listed.getD p true with
  | true => rfl
  | false => rw [getD_both h2] at h1; cases h1
theorem ready_some (hdown : ∀ j oj, ops[j]? = some oj → ∀ b ∈ oj.after, Region.binds .any b = true → b.on < j) {listed : Array Bool} (hsz : listed.size = ops.size) : ∀ k, k < ops.size → listed.getD k true = false → Region.ready .any ops listed ≠ [] := by
  intro k
  induction k using Nat.strongRecOn with
  | ind k ih =>
    intro hk hun hnil
    have ho : ops[k]? = some ops[k] := Array.getElem?_eq_getElem hk
    by_cases hall : ∀ b ∈ ops[k].after, Region.binds .any b = true → listed.getD b.on false = true
    · have : k ∈ Region.ready .any ops listed := mem_ready.2 ⟨hun, _, ho, hall⟩
      rw [hnil] at this
      cases this
    · have : ∃ b, b ∈ ops[k].after ∧ Region.binds .any b = true ∧ listed.getD b.on false = false := by
        apply Classical.byContradiction
        intro hno
        exact hall fun b hb hbi => by
          cases h : listed.getD b.on false with
          | true => rfl
          | false => exact absurd ⟨b, hb, hbi, h⟩ hno
      obtain ⟨b, hb, hbi, hf⟩ := this
      have hlt := hdown k _ ho b hb hbi
      exact ih b.on hlt (by omega) (getD_in (by omega) hf) hnil
theorem wpAny_whole {sps : List Sp} {sz : Nat} {Lq : Act → Prop} {Q' : Exit → Act → World → Prop} (hsel : Region.noSelect ops = true) (ok : SpOk P ops Q' sps sz)
    (hcs : ∀ a, Lq a → ∀ x ∈ sps, a.tmps[x.v]? = some (.agg x.cs))
    (hL : ∀ A M S a w, A.Perm sps → (∀ x ∈ sps, S x.i = true) → Dw w0 A M S w → Lq a → Q' .normal (A.foldr (pS M) a) w) :
    ∀ (m : Nat) (f : Nat) (pa ps A : List Sp) (M : Nat → Nat) (S : Nat → Bool) (listed : Array Bool) (a : Act) (w : World), m = f + pa.length + ps.length → (pa ++ A).Perm sps → (pa ++ A).Nodup → ps.Nodup → (∀ x ∈ ps, x ∈ sps) → (∀ x ∈ pa, x ∈ ps) → (∀ x ∈ sps, S x.i = true ↔ x ∉ ps) →
      Dw w0 A M S w → listed.size = ops.size → a.tmps.size = sz → (∀ x ∈ pa, listed.getD x.i true = false) → (∀ x ∈ A, listed.getD x.i true = true) → (∀ x ∈ ps, listed.getD x.j true = false) → (∀ x ∈ sps, x ∉ ps → listed.getD x.j true = true) →
      upT P ops w0 (fun listed' a' => Region.ready .any ops listed' = [] ∧ Lq a') f (setJ ps (setI pa listed)) a → wpAny P .any ops Q' m listed (A.foldr (pS M) a) w := by
  intro m
  induction m with
  | zero =>
    intro f pa ps A M S listed a w hm hperm hnd hpn hsub hpas hS hD hsz hasz hpu hdu hju hjd h
    obtain rfl : f = 0 := by omega
    obtain rfl : pa = [] := List.eq_nil_of_length_eq_zero (by omega)
    obtain rfl : ps = [] := List.eq_nil_of_length_eq_zero (by omega)
    exact ⟨h.1, hL A M S a w (by simpa using hperm) (fun x hx => (hS x hx).2 (by simp)) hD h.2⟩
  | succ m ih =>
    intro f pa ps A M S listed a w hm hperm hnd hpn hsub hpas hS hD hsz hasz hpu hdu hju hjd h
    have hin : ∀ x, x ∈ pa ++ A → x ∈ sps := fun x hx => hperm.mem_iff.1 hx
    have hmem : ∀ x ∈ sps, x ∈ pa ∨ x ∈ A := fun x hx => by simpa using hperm.mem_iff.2 hx
    -- a step of another operation
    have other : ∀ i oi v (f' : Nat), f = f' + 1 → i ∈ Region.ready .any ops listed → (∀ x ∈ sps, i ≠ x.i ∧ i ≠ x.j) → ops[i]? = some oi → UpG P ops w0 oi v a → upT P ops w0 (fun listed' a' => Region.ready .any ops listed' = [] ∧ Lq a') f' ((setJ ps (setI pa listed)).setIfInBounds i true) (a.put oi.dst v) →
        wpOp P ops Q' i (wpAny P .any ops Q' m (listed.setIfInBounds i true)) (A.foldr (pS M) a) w := by
      intro i oi v f' hf hi hne ho hy hrest
      have haway : awayS ops A oi := fun x hx => ok.away i oi ho hne x (hin x (by simp [hx]))
      have hq : qOp P ops (Dw w0 A M S) i (fun a' => a' = (A.foldr (pS M) a).put oi.dst v) (A.foldr (pS M) a) := ((away_upS hsel ho A a haway hy).yields (fun _ h => h.1) (fun w1 w2 h1 h2 => h1.step h2)).qOp ho rfl
      refine wpOp_of_qOp hD (fun a' w' hw' ha => ?_) hq
      subst ha
      rw [away_putS A a haway]
      refine ih f' pa ps A M S _ _ w' (by omega) hperm hnd hpn hsub hpas hS hw' (by simpa using hsz) ?_ (fun x hx => ?_) (fun x hx => ?_) (fun x hx => ?_) (fun x hx hnx => ?_) (by rw [setI_set, setJ_set]; exact hrest)
      · unfold Act.put; split
        · simpa using hasz
        · exact hasz
      · rw [getD_set_ne true (hne x (hin x (by simp [hx]))).1]; exact hpu x hx
      · rw [getD_set_ne true (hne x (hin x (by simp [hx]))).1]; exact hdu x hx
      · rw [getD_set_ne true (hne x (hsub x hx)).2]; exact hju x hx
      · rw [getD_set_ne true (hne x hx).2]; exact hjd x hx hnx
    -- something comes up
    have hsome : Region.ready .any ops listed ≠ [] := by
      by_cases hp : pa = []
      · by_cases hq : ps = []
        · subst hp hq
          cases f with
          | zero => simp at hm
          | succ f => exact h.1
        · obtain ⟨x, hx⟩ := List.exists_mem_of_ne_nil _ hq
          exact ready_some ok.down hsz x.j (ok.lt x (hsub x hx)).2.1 (hju x hx)
      · obtain ⟨x, hx⟩ := List.exists_mem_of_ne_nil _ hp
        exact ready_some ok.down hsz x.i (ok.lt x (hin x (by simp [hx]))).1 (hpu x hx)
    refine ⟨fun h0 => absurd h0 hsome, fun i hi => ?_⟩
    by_cases hia : ∃ x ∈ sps, i = x.i
    · obtain ⟨x, hxa, rfl⟩ := hia
      have hxp : x ∈ pa := by
        rcases hmem x hxa with h1 | h1
        · exact h1
        · have h2 := hdu x h1; rw [(mem_ready.1 hi).1] at h2; cases h2
      obtain ⟨l1, l2, hl⟩ := List.append_of_mem hxp
      have hpp : pa.Perm (x :: (l1 ++ l2)) := by rw [hl]; exact List.perm_middle
      have hxd : x ∉ A := fun h1 => by
        have := (List.nodup_append.1 hnd).2.2 x hxp x h1
        exact this rfl
      have hne : ∀ y ∈ A, y.i ≠ x.i := fun y hy h1 => by
        have := ok.ii y (hin y (by simp [hy])) x hxa h1
        subst this
        exact hxd hy
      have hSx : ¬ S x.i = true := fun h1 => (hS x hxa).1 h1 (hpas x hxp)
      refine ok.alloc x hxa _ w _ ?_
      have hD2 : Dw w0 (x :: A) (fun j => if j = x.i then w.heap.size else M j) S (w.alloc (.cells x.zero x.t)) := by
        have hb : Below w.heap.size w (w.alloc (.cells x.zero x.t)) := (Below.refl _ w).alloc (Nat.le_refl _) _
        have hst := hD.step hb
        refine ⟨hst.1, fun y hy => ?_, fun y hy z hz hyz => ?_⟩
        · rcases List.mem_cons.1 hy with rfl | hy
          · simp only [if_true, if_neg hSx]
            exact ⟨hD.1.size, Go.heap_alloc_new _ _⟩
          · simp only [if_neg (hne y hy)]
            exact hst.2.1 y hy
        · have low : ∀ y ∈ A, M y.i < w.heap.size := fun y hy => (Array.getElem?_eq_some_iff.1 (hD.2.1 y hy).2).1
          rcases List.mem_cons.1 hy with hy1 | hy1
          · rcases List.mem_cons.1 hz with hz1 | hz1
            · exact absurd (by rw [hy1, hz1]) hyz
            · rw [hy1]
              simp only [if_true, if_neg (hne z hz1)]
              have := low z hz1; omega
          · rcases List.mem_cons.1 hz with hz1 | hz1
            · rw [hz1]
              simp only [if_true, if_neg (hne y hy1)]
              have := low y hy1; omega
            · simp only [if_neg (hne y hy1), if_neg (hne z hz1)]
              exact hD.2.2 y hy1 z hz1 hyz
      have hE : (A.foldr (pS M) a).put (some x.d) (.pointer (some ⟨w.heap.size, 0, none⟩)) = (x :: A).foldr (pS (fun j => if j = x.i then w.heap.size else M j)) a := by
        simp only [List.foldr_cons]
        rw [foldr_congrS (M := fun j => if j = x.i then w.heap.size else M j) (N := M) A a (fun y hy => by simp [hne y hy])]
        unfold pS
        simp
      rw [hE]
      have hperm2 : ((l1 ++ l2) ++ (x :: A)).Perm (pa ++ A) := by
        refine List.perm_middle.trans ?_
        exact (hpp.symm.append_right A)
      have hyp : ∀ y, y ∈ l1 ++ l2 → y ∈ pa := fun y hy => by rw [hl]; simp only [List.mem_append, List.mem_cons] at hy ⊢; rcases hy with h1 | h1 <;> simp [h1]
      refine ih f (l1 ++ l2) ps (x :: A) _ S _ a _ ?_ (hperm2.trans hperm) (hperm2.nodup_iff.2 hnd) hpn hsub (fun y hy => hpas y (hyp y hy)) hS hD2 (by simpa using hsz) hasz (fun y hy => ?_) (fun y hy => ?_) (fun y hy => ?_) (fun y hy hny => ?_) ?_
      · have := hpp.length_eq
        simp only [List.length_cons] at this
        omega
      · have hyx : x.i ≠ y.i := fun h1 => by
          have := ok.ii x hxa y (hin y (by simp [hyp y hy])) h1
          subst this
          have hnd2 := hpp.nodup_iff.1 (List.nodup_append.1 hnd).1
          exact (List.nodup_cons.1 hnd2).1 hy
        rw [getD_set_ne true hyx]; exact hpu y (hyp y hy)
      · have hxlt := (ok.lt x hxa).1
        rcases List.mem_cons.1 hy with rfl | hy
        · simp [hsz, hxlt]
        · by_cases hyx : x.i = y.i
          · rw [← hyx]
            simp [hsz, hxlt]
          · rw [getD_set_ne true hyx]; exact hdu y hy
      · rw [getD_set_ne true (ok.ij x hxa y (hsub y hy))]; exact hju y hy
      · rw [getD_set_ne true (ok.ij x hxa y hy)]; exact hjd y hy hny
      · rw [setI_set, ← setI_cons, ← setI_perm hpp]
        exact h
    · by_cases hja : ∃ x ∈ sps, i = x.j
      · obtain ⟨x, hxa, rfl⟩ := hja
        have hxp : x ∈ ps := by
          apply Classical.byContradiction
          intro hno
          have h2 := hjd x hxa hno
          rw [(mem_ready.1 hi).1] at h2
          cases h2
        obtain ⟨hw1, hw2⟩ := ok.waits x hxa
        have hxA : x ∈ A := by
          rcases hmem x hxa with h1 | h1
          · have h2 := waits_listed hw1 hi; rw [hpu x h1] at h2; cases h2
          · exact h1
        obtain ⟨ho, hg, hdst, hop, hinf, hzc, hone⟩ := ok.store x hxa
        -- the value
        obtain ⟨l', a', hLa, hend⟩ := upT_end (s := x.v) f _ a (fun p op hp hun hdp => by
          have h1 := waits_listed (hw2 p op hp hdp) hi
          rw [listed_setI pa (listed_setJ ps hun)] at h1
          cases h1) h
        have hval : (A.foldr (pS M) a).eval (.tmp x.v) = .agg x.cs := by
          have h1 := foldr_other (M := M) (s := x.v) A a (fun y hy => ok.dv y (hin y (by simp [hy])) x hxa)
          have h2 := hcs a' hLa.2 x hxa
          rw [hend] at h2
          show (A.foldr (pS M) a).tmps.getD x.v undef = _
          rw [Array.getD_eq_getD_getElem?, h1, h2]
          rfl
        have hptr : (A.foldr (pS M) a).eval (.tmp x.d) = .pointer (some ⟨M x.i, 0, none⟩) := by
          have h1 := foldr_own (M := M) (x := x) A a hxA (fun y hy hyd => ok.dd y (hin y (by simp [hy])) x hxa hyd) (by rw [hasz]; exact (ok.lt x hxa).2.2)
          show (A.foldr (pS M) a).tmps.getD x.d undef = _
          rw [Array.getD_eq_getD_getElem?, h1]
          rfl
        have hblk := hD.2.1 x hxA
        have hSx : ¬ S x.i = true := fun h1 => (hS x hxa).1 h1 hxp
        rw [if_neg hSx] at hblk
        unfold wpOp
        simp only [ho]
        rw [if_pos (by simp [Region.wanted, hg])]
        left
        refine wp_store_row x.ty _ _ hop (M x.i) x.cs hptr hval x.t x.zero hblk.2 hinf hzc hone ?_
        rw [hdst]
        show wpAny P .any ops Q' m (listed.setIfInBounds x.j true) (A.foldr (pS M) a) _
        obtain ⟨l1, l2, hl⟩ := List.append_of_mem hxp
        have hpp : ps.Perm (x :: (l1 ++ l2)) := by rw [hl]; exact List.perm_middle
        have hnd2 := hpp.nodup_iff.1 hpn
        have hyp : ∀ y, y ∈ l1 ++ l2 → y ∈ ps := fun y hy => by rw [hl]; simp only [List.mem_append, List.mem_cons] at hy ⊢; rcases hy with h1 | h1 <;> simp [h1]
        have hpx : ∀ y, y ∈ ps ↔ y = x ∨ y ∈ l1 ++ l2 := fun y => by rw [hpp.mem_iff, List.mem_cons]
        have hxn : x ∉ l1 ++ l2 := (List.nodup_cons.1 hnd2).1
        refine ih f pa (l1 ++ l2) A M (fun k => if k = x.i then true else S k) _ a _ ?_ hperm hnd (List.nodup_cons.1 hnd2).2 (fun y hy => hsub y (hyp y hy)) (fun y hy => ?_) (fun y hy => ?_) ?_ (by simpa using hsz) hasz (fun y hy => ?_) (fun y hy => ?_) (fun y hy => ?_) (fun y hy hny => ?_) ?_
        · have := hpp.length_eq
          simp only [List.length_cons] at this
          omega
        · rcases (hpx y).1 (hpas y hy) with rfl | h1
          · have h2 := (List.nodup_append.1 hnd).2.2 y hy y hxA
            exact absurd rfl h2
          · exact h1
        · by_cases hyx : y.i = x.i
          · have := ok.ii y hy x hxa hyx
            subst this
            simp [hxn]
          · have h1 := hS y hy
            rw [hpx y] at h1
            have hyne : y ≠ x := fun h2 => hyx (by rw [h2])
            simp only [if_neg hyx, h1, hyne, false_or]
        · refine ⟨below_setRow hD.1 hblk.1 _, fun y hy => ?_, hD.2.2⟩
          by_cases hyx : y.i = x.i
          · have := ok.ii y (hin y (by simp [hy])) x hxa hyx
            subst this
            simp only [if_true]
            exact ⟨hblk.1, setRow_heap _ _ _ _ _ _ hblk.2⟩
          · simp only [if_neg hyx]
            have h1 := hD.2.1 y hy
            refine ⟨h1.1, ?_⟩
            rw [setRow_other _ _ _ _ (hD.2.2 y hy x hxA hyx)]
            exact h1.2
        · rw [getD_set_ne true (fun h1 => ok.ij y (hin y (by simp [hy])) x hxa h1.symm)]; exact hpu y hy
        · by_cases hyx : x.j = y.i
          · exact absurd hyx.symm (ok.ij y (hin y (by simp [hy])) x hxa)
          · rw [getD_set_ne true hyx]; exact hdu y hy
        · have hyx : x.j ≠ y.j := fun h1 => by
            have := ok.jj x hxa y (hsub y (hyp y hy)) h1
            subst this
            exact hxn hy
          rw [getD_set_ne true hyx]; exact hju y (hyp y hy)
        · by_cases hyx : x.j = y.j
          · rw [← hyx]
            simp [hsz, (ok.lt x hxa).2.1]
          · rw [getD_set_ne true hyx]
            exact hjd y hy (fun h1 => by
              rcases (hpx y).1 h1 with rfl | h2
              · exact hyx rfl
              · exact hny h2)
        · rw [setI_set, setJ_set, ← setJ_cons, ← setJ_perm hpp]
          exact h
      · have hne : ∀ x ∈ sps, i ≠ x.i ∧ i ≠ x.j := fun x hx => ⟨fun h1 => hia ⟨x, hx, h1⟩, fun h1 => hja ⟨x, hx, h1⟩⟩
        have hi' := ready_setJ ps (ready_setI pa hi (fun x hx => (hne x (hin x (by simp [hx]))).1)) (fun x hx => (hne x (hsub x hx)).2)
        cases f with
        | zero => rw [h.1] at hi'; cases hi'
        | succ f =>
          obtain ⟨oi, v, ho, hy, hrest⟩ := h.2 i hi'
          exact other i oi v f rfl hi hne ho hy hrest
def spB (ops : Array Oper) (sps : List Sp) (sz : Nat) (is : List Nat) : Bool :=
  Region.noSelect ops && ixT ops is (setJ sps (setI sps (Array.replicate ops.size false))) && decide (is.length + sps.length + sps.length = ops.size) && decide ((sps.map (·.i)).Nodup) && decide ((sps.map (·.j)).Nodup) &&
  (sps.all fun x => sps.all fun y => decide (x.i ≠ y.j) && decide (x.d ≠ y.v) && (decide (x.d ≠ y.d) || decide (x.i = y.i))) &&
  (sps.all fun x => decide (x.i < ops.size) && decide (x.j < ops.size) && decide (x.d < sz) && x.o.after.all (fun b => !Region.binds .any b) && Region.waitsFor .any ops x.j x.i &&
    (List.range ops.size).all fun p => (match ops[p]? with | some op => decide (op.dst ≠ some x.v) || Region.waitsFor .any ops x.j p | none => true)) &&
  ((List.range ops.size).all fun j => match ops[j]? with
    | some oj => (oj.after.all fun b => !Region.binds .any b || decide (b.on < j)) && (sps.any (fun x => j == x.i || j == x.j) || sps.all fun x => !(oj.looksAt ops).contains x.d && decide (oj.dst ≠ some x.d))
    | none => true)
theorem nodup_inj {g : Sp → Nat} {l : List Sp} (h : (l.map g).Nodup) {x y : Sp} (hx : x ∈ l) (hy : y ∈ l) (hxy : g x = g y) : x = y := by
  induction l with
  | nil => cases hx
  | cons z l ih =>
    rw [List.map_cons, List.nodup_cons] at h
    rcases List.mem_cons.1 hx with hx1 | hx1
    · rcases List.mem_cons.1 hy with hy1 | hy1
      · exact hx1.trans hy1.symm
      · exact absurd (List.mem_map.2 ⟨y, hy1, by rw [← hxy, hx1]⟩) h.1
    · rcases List.mem_cons.1 hy with hy1 | hy1
      · exact absurd (List.mem_map.2 ⟨x, hx1, by rw [hxy, hy1]⟩) h.1
      · exact ih h.2 hx1 hy1
/-- A whole statement. -/
theorem wp_region_whole {id : Nat} {Q : Exit → Act → World → Prop} {a : Act} {w : World} {l : List Oper} (is : List Nat) (sps : List Sp) (er : List Nat) (hm : P.follows .mixedOrders = true) (hB : spB l.toArray sps a.tmps.size is = true)
    (hrun : ∀ x ∈ sps, (l.toArray[x.i]? = some x.o ∧ x.o.guard = none ∧ x.o.dst = some x.d ∧ ∀ (a : Act) w, (execOp a.eval x.o).run P w = .ok (.value (.pointer (some ⟨w.heap.size, 0, none⟩))) (w.alloc (.cells x.zero x.t))) ∧
      l.toArray[x.j]? = some x.so ∧ x.so.guard = none ∧ x.so.dst = none ∧ x.so.op = .store x.ty (.tmp x.d) (.tmp x.v) ∧ (P.info? x.ty).map (·.size) = some x.cs.size ∧ x.zero.size = x.cs.size ∧ x.cs.all (·.oneCell') = true)
    (his : is.map (fun i => l.toArray[i]?) = (er.foldl (fun l i => l.eraseIdx i) l).map some)
    (hw : upW P l.toArray w (fun a' => (∀ x ∈ sps, a'.tmps[x.v]? = some (.agg x.cs)) ∧ ∀ (M : Nat → Nat) w', (∀ x ∈ sps, w.heap.size ≤ M x.i ∧ w'.heap[M x.i]? = some (.cells x.cs x.t (0, 0))) → (∀ x ∈ sps, ∀ y ∈ sps, x.i ≠ y.i → M x.i ≠ M y.i) → Below w.heap.size w w' → Q .normal (sps.foldr (pS M) a') w') (er.foldl (fun l i => l.eraseIdx i) l) a) : (Code.region id l.toArray true).wp P Q a w := by
  have h := upIx_of_W is _ a his hw
  simp only [spB, Bool.and_eq_true, decide_eq_true_eq] at hB
  obtain ⟨⟨⟨⟨⟨⟨⟨hsel, hix⟩, hlen⟩, hni⟩, hnj⟩, hxy⟩, hone⟩, hops⟩ := hB
  have H := upT_lex hsel is _ a hix h
  have hxy2 : ∀ x ∈ sps, ∀ y ∈ sps, x.i ≠ y.j ∧ x.d ≠ y.v ∧ (x.d = y.d → x.i = y.i) := fun x hx y hy => by
    have h1 := List.all_eq_true.1 (List.all_eq_true.1 hxy x hx) y hy
    simp only [Bool.and_eq_true, decide_eq_true_eq, Bool.or_eq_true] at h1
    exact ⟨h1.1.1, h1.1.2, fun hd => h1.2.resolve_left (fun h2 => h2 hd)⟩
  have hone2 : ∀ x ∈ sps, x.i < l.toArray.size ∧ x.j < l.toArray.size ∧ x.d < a.tmps.size ∧ (∀ b ∈ x.o.after, Region.binds .any b = false) ∧ Region.waitsFor .any l.toArray x.j x.i = true ∧ ∀ p op, l.toArray[p]? = some op → op.dst = some x.v → Region.waitsFor .any l.toArray x.j p = true := fun x hx => by
    have h1 := List.all_eq_true.1 hone x hx
    simp only [Bool.and_eq_true, decide_eq_true_eq] at h1
    obtain ⟨⟨⟨⟨⟨h2, h3⟩, h4⟩, h5⟩, h6⟩, h7⟩ := h1
    refine ⟨h2, h3, h4, fun b hb => by simpa using Array.all_eq_true_iff_forall_mem.1 h5 b hb, h6, fun p op hp hd => ?_⟩
    have h8 := List.all_eq_true.1 h7 p (List.mem_range.2 (Array.getElem?_eq_some_iff.1 hp).1)
    rw [hp] at h8
    simpa [hd] using h8
  have ok : SpOk P l.toArray Q sps a.tmps.size := by
    refine ⟨fun x hx y hy he => nodup_inj hni hx hy he, fun x hx y hy he => nodup_inj hnj hx hy he, fun x hx y hy => (hxy2 x hx y hy).1, fun x hx y hy => (hxy2 x hx y hy).2.2, fun x hx y hy => (hxy2 x hx y hy).2.1, fun x hx => ⟨(hone2 x hx).1, (hone2 x hx).2.1, (hone2 x hx).2.2.1⟩, fun x hx a w K hK => ?_, fun x hx listed hun => ?_, fun x hx => (hrun x hx).2, fun x hx => (hone2 x hx).2.2.2.2, fun j oj hj b hb hbi => ?_, fun j oj hj hne x hx => ?_⟩
    · obtain ⟨⟨h1, h2, h3, h4⟩, _⟩ := hrun x hx
      exact wpOp_of_run h1 h2 (h4 a w) (by rw [h3]; exact hK)
    · exact mem_ready.2 ⟨hun, x.o, (hrun x hx).1.1, fun b hb hbi => by rw [(hone2 x hx).2.2.2.1 b hb] at hbi; cases hbi⟩
    · have h1 := List.all_eq_true.1 hops j (List.mem_range.2 (Array.getElem?_eq_some_iff.1 hj).1)
      rw [hj] at h1
      simp only [Bool.and_eq_true] at h1
      have h2 := Array.all_eq_true_iff_forall_mem.1 h1.1 b hb
      rw [hbi] at h2
      simpa using h2
    · have h1 := List.all_eq_true.1 hops j (List.mem_range.2 (Array.getElem?_eq_some_iff.1 hj).1)
      rw [hj] at h1
      simp only [Bool.and_eq_true, Bool.or_eq_true] at h1
      rcases h1.2 with h2 | h2
      · obtain ⟨y, hy, h3⟩ := List.any_eq_true.1 h2
        simp only [Bool.or_eq_true, beq_iff_eq] at h3
        rcases h3 with h3 | h3
        · exact absurd h3 (hne y hy).1
        · exact absurd h3 (hne y hy).2
      · have h3 := List.all_eq_true.1 h2 x hx
        simp only [Bool.and_eq_true, decide_eq_true_eq, Bool.not_eq_true', ] at h3
        exact ⟨fun h4 => (by have h5 := List.contains_iff_mem.2 h4; rw [h3.1] at h5; cases h5), h3.2⟩
  have hfalse : ∀ k, k < l.toArray.size → (Array.replicate l.toArray.size false).getD k true = false := fun k hk => getD_in (by rw [Array.size_replicate]; exact hk) (getD_replicate_false _ _)
  refine wp_region_any hm ?_
  have := wpAny_whole (Q' := Q) hsel ok (fun a' h x hx => h.1 x hx) (fun A M S a' w' hperm hS hD hLq => by
      have hE : A.foldr (pS M) a' = sps.foldr (pS M) a' := hperm.foldr_eq' (fun x hx y hy z => by
        by_cases hxy : x.i = y.i
        · rw [nodup_inj hni (hperm.mem_iff.1 hx) (hperm.mem_iff.1 hy) hxy]
        · exact Act.put_comm _ _ _ (fun d hd h2 => hxy ((hxy2 x (hperm.mem_iff.1 hx) y (hperm.mem_iff.1 hy)).2.2 ((Option.some.inj hd).trans (Option.some.inj h2).symm)))) a'
      rw [hE]
      refine hLq.2 M w' (fun x hx => ?_) (fun x hx y hy => hD.2.2 x (hperm.mem_iff.2 hx) y (hperm.mem_iff.2 hy)) hD.1
      have h1 := hD.2.1 x (hperm.mem_iff.2 hx)
      rw [if_pos (hS x hx)] at h1
      exact h1) (is.length + sps.length + sps.length) is.length sps sps [] (fun _ => 0) (fun _ => false) (Array.replicate l.toArray.size false) a { w with drawn := w.drawn + 1 } rfl (by simp) (by
        rw [List.append_nil]
        exact (List.pairwise_map.1 hni).imp (fun {x y} hxy h1 => hxy (by rw [h1]))) ((List.pairwise_map.1 hni).imp (fun {x y} hxy h1 => hxy (by rw [h1]))) (fun x hx => hx) (fun x hx => hx) (fun x hx => by simp [hx]) ⟨(Below.refl _ w).drew, fun x hx => (by cases hx), fun x hx => (by cases hx)⟩ (by rw [Array.size_replicate]) rfl (fun x hx => hfalse _ (hone2 x hx).1) (fun x hx => (by cases hx)) (fun x hx => hfalse _ (hone2 x hx).2.1) (fun x hx hnx => absurd hx hnx) H
  rw [hlen] at this
  exact this
end
end Go.Proofs.Ytfmclkmmkceldaa
