/-
  The same, where several of the first operations make blocks; statements whose order is fixed, by the same walk.
  Conditions: none.
-/
import Derived.Test.YtfmclkmmkceldaaUp
namespace Go.Proofs.Ytfmclkmmkceldaa
open Go.RowKit

/-- An operation that makes a block: its number, itself, the block. -/
structure Al where
  i : Nat
  o : Oper
  obj : Obj
def pA (M : Nat → Nat) (x : Al) (a : Act) : Act := a.put x.o.dst (.pointer (some ⟨M x.i, 0, none⟩))
def setAll (l : List Al) (listed : Array Bool) : Array Bool := l.foldr (fun x s => s.setIfInBounds x.i true) listed
section
variable {P : Program} {ops : Array Oper} {w0 : World}

theorem setAll_cons (x : Al) (l : List Al) (s : Array Bool) : setAll (x :: l) s = (setAll l s).setIfInBounds x.i true := rfl
theorem set_comm (s : Array Bool) (i j : Nat) : (s.setIfInBounds i true).setIfInBounds j true = (s.setIfInBounds j true).setIfInBounds i true := by
  by_cases h : i = j
  · subst h; rfl
  · exact Array.setIfInBounds_comm _ _ h
theorem setAll_set (l : List Al) (s : Array Bool) (i : Nat) : setAll l (s.setIfInBounds i true) = (setAll l s).setIfInBounds i true := by
  induction l with
  | nil => rfl
  | cons x l ih => rw [setAll_cons, setAll_cons, ih, set_comm]
theorem setAll_perm {l m : List Al} (h : l.Perm m) (s : Array Bool) : setAll l s = setAll m s := by
  unfold setAll
  exact h.foldr_eq' (fun x _ y _ z => set_comm z x.i y.i) s
theorem ready_setAll {i : Nat} {s : Array Bool} : ∀ (l : List Al), i ∈ Region.ready .any ops s → (∀ x ∈ l, i ≠ x.i) → i ∈ Region.ready .any ops (setAll l s)
  | [], h, _ => h
  | x :: l, h, hne => by
    rw [setAll_cons]
    exact ready_mono (ready_setAll l h (fun y hy => hne y (List.mem_cons_of_mem _ hy))) (hne x (List.mem_cons_self ..))
theorem foldr_congr_mem {M N : Nat → Nat} (l : List Al) (a : Act) (h : ∀ x ∈ l, M x.i = N x.i) : l.foldr (pA M) a = l.foldr (pA N) a := by
  induction l with
  | nil => rfl
  | cons x l ih =>
    simp only [List.foldr_cons]
    rw [ih (fun y hy => h y (List.mem_cons_of_mem _ hy))]
    unfold pA
    rw [h x (List.mem_cons_self ..)]
/-- What the blocks' slots hold makes no difference to an operation apart from all of them. -/
def awayB (ops : Array Oper) (als : List Al) (oj : Oper) : Prop := ∀ x ∈ als, (∀ s, x.o.dst = some s → s ∉ oj.looksAt ops) ∧ (∀ s, x.o.dst = some s → oj.dst ≠ some s)
theorem away_up {j : Nat} {oj : Oper} {v : Value} {M : Nat → Nat} (hsel : Region.noSelect ops = true) (hoj : ops[j]? = some oj) : ∀ (l : List Al) (a : Act), awayB ops l oj → UpG P ops w0 oj v a → UpG P ops w0 oj v (l.foldr (pA M) a)
  | [], _, _, h => h
  | x :: l, a, hw, h => by
    have ih := away_up (M := M) hsel hoj l a (fun y hy => hw y (List.mem_cons_of_mem _ hy)) h
    obtain ⟨q1, _⟩ := hw x (List.mem_cons_self ..)
    exact ih.of_same (execOp_put oj (fun cs b => Region.noSelect_spec hsel j oj cs b hoj) _ _ _ q1) (wanted_put oj _ _ _ q1)
theorem away_put {oj : Oper} {v : Value} {M : Nat → Nat} : ∀ (l : List Al) (a : Act), awayB ops l oj → (l.foldr (pA M) a).put oj.dst v = l.foldr (pA M) (a.put oj.dst v)
  | [], _, _ => rfl
  | x :: l, a, hw => by
    have ih := away_put (v := v) (M := M) l a (fun y hy => hw y (List.mem_cons_of_mem _ hy))
    obtain ⟨_, q2⟩ := hw x (List.mem_cons_self ..)
    simp only [List.foldr_cons]
    unfold pA at *
    rw [Act.put_comm _ _ v q2, ih]
/-- The worlds in which these blocks lie as they were made. -/
def Dm (w0 : World) (done : List Al) (M : Nat → Nat) (w : World) : Prop := Below w0.heap.size w0 w ∧ (∀ x ∈ done, w0.heap.size ≤ M x.i ∧ w.heap[M x.i]? = some x.obj) ∧ (∀ x ∈ done, ∀ y ∈ done, x.i ≠ y.i → M x.i ≠ M y.i)
theorem Dm.step {done : List Al} {M : Nat → Nat} {w w' : World} (h : Dm w0 done M w) (hb : Below w.heap.size w w') : Dm w0 done M w' :=
  ⟨h.1.trans (hb.mono h.1.size), fun x hx => ⟨(h.2.1 x hx).1, by rw [hb.block _ (Array.getElem?_eq_some_iff.1 (h.2.1 x hx).2).1]; exact (h.2.1 x hx).2⟩, h.2.2⟩
theorem wpAny_of_upM {n e g : Nat} {als : List Al} {L : Array Bool → Act → Prop} {Q' : Exit → Act → World → Prop} (hsel : Region.noSelect ops = true) (hQ : ∀ c (a : Act) dst v w, Q' (.panic c) (a.put dst v) w → Q' (.panic c) a w)
    (hs : wB ops n e = true) (hc : Region.chainB .any ops n = true)
    (hal : ∀ x ∈ als, x.i < n ∧ x.i ≠ e ∧ x.i < ops.size ∧ (∀ listed : Array Bool, listed.getD x.i true = false → x.i ∈ Region.ready .any ops listed))
    (hidx : ∀ x ∈ als, ∀ y ∈ als, x.i = y.i → x = y)
    (haw : ∀ j oj, ops[j]? = some oj → j < n → (∀ x ∈ als, j ≠ x.i) → awayB ops als oj)
    (hdone : ∀ listed a, L listed a → ∀ j ∈ Region.ready .any ops listed, n ≤ j)
    (halloc : ∀ x ∈ als, ∀ (a : Act) (w : World) (K : Act → World → Prop), K (a.put x.o.dst (.pointer (some ⟨w.heap.size, 0, none⟩))) (w.alloc x.obj) → wpOp P ops Q' x.i K a w)
    (hL : ∀ done M listed a w, done.Perm als → Dm w0 done M w → L listed a → wpAny P .any ops Q' g listed (done.foldr (pA M) a) w) :
    ∀ (m : Nat) (f : Nat) (pend done : List Al) (M : Nat → Nat) (listed : Array Bool) (a : Act) (w : World), m = f + pend.length → (pend ++ done).Perm als → (pend ++ done).Nodup → Dm w0 done M w → listed.size = ops.size → HeadInv .any ops n listed →
      (∀ x ∈ pend, listed.getD x.i true = false) → (∀ x ∈ done, listed.getD x.i true = true) → upL P ops w0 n e L f (setAll pend listed) a → wpAny P .any ops Q' (m + g) listed (done.foldr (pA M) a) w := by
  intro m
  induction m with
  | zero =>
    intro f pend done M listed a w hm hperm hnd hD hsz inv hpu hdu h
    obtain rfl : f = 0 := by omega
    obtain rfl : pend = [] := List.eq_nil_of_length_eq_zero (by omega)
    rw [Nat.zero_add]
    exact hL done M listed a w (by simpa using hperm) hD h
  | succ m ih =>
    intro f pend done M listed a w hm hperm hnd hD hsz inv hpu hdu h
    have hsub : ∀ x, x ∈ pend ++ done → x ∈ als := fun x hx => hperm.mem_iff.1 hx
    have hmem : ∀ x ∈ als, x ∈ pend ∨ x ∈ done := fun x hx => by simpa using hperm.mem_iff.2 hx
    rw [show m + 1 + g = (m + g) + 1 by omega]
    -- a step of another operation
    have other : ∀ i oi v (f' : Nat), f = f' + 1 → i < n → i ∈ Region.ready .any ops listed → (∀ x ∈ als, i ≠ x.i) → ops[i]? = some oi → UpG P ops w0 oi v a → upL P ops w0 n e L f' ((setAll pend listed).setIfInBounds i true) (a.put oi.dst v) →
        wpOp P ops Q' i (wpAny P .any ops Q' (m + g) (listed.setIfInBounds i true)) (done.foldr (pA M) a) w := by
      intro i oi v f' hf hin hi hne ho hy hrest
      have haway : awayB ops done oi := fun x hx => haw i oi ho hin hne x (hsub x (by simp [hx]))
      have hq : qOp P ops (Dm w0 done M) i (fun a' => a' = (done.foldr (pA M) a).put oi.dst v) (done.foldr (pA M) a) := ((away_up hsel ho done a haway hy).yields (fun _ h => h.1) (fun w1 w2 h1 h2 => h1.step h2)).qOp ho rfl
      refine wpOp_of_qOp hD (fun a' w' hw' ha => ?_) hq
      subst ha
      rw [away_put done a haway]
      refine ih f' pend done M _ _ w' (by omega) hperm hnd hw' (by simpa using hsz) (inv.set hi hin) (fun x hx => ?_) (fun x hx => ?_) (by rw [setAll_set]; exact hrest)
      · rw [getD_set_ne true (hne x (hsub x (by simp [hx])))]; exact hpu x hx
      · rw [getD_set_ne true (hne x (hsub x (by simp [hx])))]; exact hdu x hx
    by_cases hp : pend = []
    · subst hp
      obtain ⟨f', rfl⟩ : ∃ f', f = f' + 1 := ⟨m, by simp at hm; omega⟩
      have hne : ∀ i, i ∈ Region.ready .any ops listed → ∀ x ∈ als, i ≠ x.i := fun i hi x hx hix => by
        subst hix
        have h1 := hdu x (by simpa using hmem x hx)
        rw [(mem_ready.1 hi).1] at h1
        cases h1
      rcases h with ⟨hnil, hall⟩ | ⟨h0, hen, he, oe, v, hoe, hye, hl, hfree, hLe⟩
      · refine ⟨fun h0 => absurd h0 hnil, fun i hi => ?_⟩
        obtain ⟨hin, oi, v, ho, hy, hrest⟩ := hall i hi
        exact other i oi v f' rfl hin hi (hne i hi) ho hy hrest
      · subst h0
        have haway : awayB ops done oe := fun x hx => haw e oe hoe hen (hne e he) x (hsub x (by simp [hx]))
        have hy' := away_up (M := M) hsel hoe done a haway hye
        obtain rfl : m = 0 := by simp at hm; omega
        refine wpAny_first hoe (Region.noSelect_spec hsel) (fun c a w h => hQ c a _ _ w h) (0 + g) listed _ w hfree he (hy'.2 hl) ?_
        rw [away_put done a haway, Nat.zero_add]
        exact hL done M _ _ w (by simpa using hperm) hD hLe
    · obtain ⟨x0, hx0⟩ := List.exists_mem_of_ne_nil _ hp
      have hx0a := hal x0 (hsub x0 (by simp [hx0]))
      refine ⟨fun h0 => (by have := hx0a.2.2.2 listed (hpu x0 hx0); rw [h0] at this; cases this), fun i hi => ?_⟩
      have hin : i < n := by
        rcases Nat.lt_or_ge i n with h1 | h1
        · exact h1
        · exact absurd hi (waits hs hc inv hx0a.1 hx0a.2.1 (hpu x0 hx0) i h1)
      by_cases hia : ∃ x ∈ als, i = x.i
      · obtain ⟨x, hxa, rfl⟩ := hia
        have hxp : x ∈ pend := by
          rcases hmem x hxa with h1 | h1
          · exact h1
          · have h2 := hdu x h1; rw [(mem_ready.1 hi).1] at h2; cases h2
        obtain ⟨l1, l2, hl⟩ := List.append_of_mem hxp
        have hpp : pend.Perm (x :: (l1 ++ l2)) := by rw [hl]; exact List.perm_middle
        have hxd : x ∉ done := fun h1 => by
          have := (List.nodup_append.1 hnd).2.2 x hxp x h1
          exact this rfl
        refine halloc x hxa _ w _ ?_
        have hD2 : Dm w0 (x :: done) (fun j => if j = x.i then w.heap.size else M j) (w.alloc x.obj) := by
          have hne : ∀ y ∈ done, y.i ≠ x.i := fun y hy h1 => by
            have := hidx y (hsub y (by simp [hy])) x hxa h1
            subst this
            exact hxd hy
          have hb : Below w.heap.size w (w.alloc x.obj) := (Below.refl _ w).alloc (Nat.le_refl _) _
          have hst := hD.step hb
          refine ⟨hst.1, fun y hy => ?_, fun y hy z hz hyz => ?_⟩
          · rcases List.mem_cons.1 hy with rfl | hy
            · simp only [if_true]
              exact ⟨hD.1.size, Go.heap_alloc_new _ _⟩
            · simp only [if_neg (hne y hy)]
              exact hst.2.1 y hy
          · have low : ∀ y ∈ done, M y.i < w.heap.size := fun y hy => (Array.getElem?_eq_some_iff.1 (hD.2.1 y hy).2).1
            rcases List.mem_cons.1 hy with hy1 | hy1
            · rcases List.mem_cons.1 hz with hz1 | hz1
              · exact absurd (by rw [hy1, hz1]) hyz
              · rw [hy1]
                simp only [if_true, if_neg (hne z hz1)]
                have := low z hz1; omega
            · rcases List.mem_cons.1 hz with hz1 | hz1
              · rw [hz1]
                simp only [if_true, if_neg (hne y hy1)]
                have := low y hy1; omega
              · simp only [if_neg (hne y hy1), if_neg (hne z hz1)]
                exact hD.2.2 y hy1 z hz1 hyz
        have hE : (done.foldr (pA M) a).put x.o.dst (.pointer (some ⟨w.heap.size, 0, none⟩)) = (x :: done).foldr (pA (fun j => if j = x.i then w.heap.size else M j)) a := by
          simp only [List.foldr_cons]
          rw [foldr_congr_mem (M := fun j => if j = x.i then w.heap.size else M j) (N := M) done a (fun y hy => by
            have : y.i ≠ x.i := fun h1 => by
              have := hidx y (hsub y (by simp [hy])) x hxa h1
              subst this
              exact hxd hy
            simp [this])]
          unfold pA
          simp
        rw [hE]
        have hperm2 : ((l1 ++ l2) ++ (x :: done)).Perm (pend ++ done) := by
          refine List.perm_middle.trans ?_
          exact (hpp.symm.append_right done)
        refine ih f (l1 ++ l2) (x :: done) _ _ a _ ?_ (hperm2.trans hperm) (hperm2.nodup_iff.2 hnd) hD2 (by simpa using hsz) (inv.set hi hin) (fun y hy => ?_) (fun y hy => ?_) ?_
        · have := hpp.length_eq
          simp only [List.length_cons] at this
          omega
        · have hyp : y ∈ pend := by rw [hl]; simp only [List.mem_append, List.mem_cons] at hy ⊢; rcases hy with h1 | h1 <;> simp [h1]
          have hyx : x.i ≠ y.i := fun h1 => by
            have := hidx x hxa y (hsub y (by simp [hyp])) h1
            subst this
            have hnd2 := hpp.nodup_iff.1 (List.nodup_append.1 hnd).1
            exact (List.nodup_cons.1 hnd2).1 hy
          rw [getD_set_ne true hyx]; exact hpu y hyp
        · rcases List.mem_cons.1 hy with rfl | hy
          · have := (hal y hxa).2.2.1
            simp [hsz, this]
          · by_cases hyx : x.i = y.i
            · rw [← hyx]
              have := (hal x hxa).2.2.1
              simp [hsz, this]
            · rw [getD_set_ne true hyx]; exact hdu y hy
        · rw [setAll_set, ← setAll_cons, ← setAll_perm hpp]
          exact h
      · have hne : ∀ x ∈ als, i ≠ x.i := fun x hx h1 => hia ⟨x, hx, h1⟩
        have hi' := ready_setAll pend hi (fun x hx => hne x (hsub x (by simp [hx])))
        cases f with
        | zero => exact absurd (hdone _ _ h i hi') (by omega)
        | succ f =>
          have hch : ∃ oi v, ops[i]? = some oi ∧ UpG P ops w0 oi v a ∧ upL P ops w0 n e L f ((setAll pend listed).setIfInBounds i true) (a.put oi.dst v) := by
            rcases h with ⟨_, hall⟩ | ⟨h0, _, _, oe, v, hoe, hye, _, _, hLe⟩
            · exact (hall i hi').2
            · subst h0
              by_cases hie : i = e
              · subst hie
                exact ⟨oe, v, hoe, hye, hLe⟩
              · exact absurd (hdone _ _ hLe i (ready_mono hi' hie)) (by omega)
          obtain ⟨oi, v, ho, hy, hrest⟩ := hch
          exact other i oi v f rfl hin hi hne ho hy hrest
theorem getD_setAll {s : Array Bool} {j : Nat} : ∀ l : List Al, (∀ x ∈ l, x.i ≠ j) → (setAll l s).getD j true = s.getD j true
  | [], _ => rfl
  | x :: l, h => by rw [setAll_cons, getD_set_ne true (h x (List.mem_cons_self ..)), getD_setAll l (fun y hy => h y (List.mem_cons_of_mem _ hy))]
theorem inv_setAll {n : Nat} {s : Array Bool} (inv : HeadInv .any ops n s) : ∀ l : List Al, (l.map (·.i)).Nodup → (∀ x ∈ l, x.i < n ∧ s.getD x.i true = false ∧ (∀ listed : Array Bool, listed.getD x.i true = false → x.i ∈ Region.ready .any ops listed)) → HeadInv .any ops n (setAll l s)
  | [], _, _ => inv
  | x :: l, hnd, h => by
    rw [List.map_cons, List.nodup_cons] at hnd
    have ih := inv_setAll inv l hnd.2 (fun y hy => h y (List.mem_cons_of_mem _ hy))
    obtain ⟨h1, h2, h3⟩ := h x (List.mem_cons_self ..)
    rw [setAll_cons]
    refine ih.set (h3 _ ?_) h1
    rw [getD_setAll l (fun y hy hyx => hnd.1 (List.mem_map.2 ⟨y, hy, hyx⟩))]
    exact h2
def upMB (ops : Array Oper) (n e : Nat) (is : List Nat) (als : List Al) : Bool :=
  Region.noSelect ops && decide (n < ops.size) && wB ops n e && Region.chainB .any ops n && lateB ops n e && decide (is.length + als.length = n) && decide ((als.map (·.i)).Nodup) &&
  (als.all fun x => decide (x.i < n) && decide (x.i ≠ e) && x.o.after.all (fun b => !Region.binds .any b)) &&
  ((List.range n).all fun j => als.any (fun y => y.i == j) || (match ops[j]? with | some oj => als.all fun x => x.o.apart ops oj | none => false)) &&
  (als.all fun x => als.all fun y => x.i == y.i || (match x.o.dst with | some d => decide (y.o.dst ≠ some d) | none => true)) &&
  ixB ops n (ops.size - n) is (setAll als (Array.replicate ops.size false))
/-- A statement of calls and reads among which several blocks are made, whose last operations come in their order. -/
theorem wp_region_upM {id : Nat} {Q : Exit → Act → World → Prop} {a : Act} {w : World} {l : List Oper} (n e : Nat) (is : List Nat) (als : List Al) (hm : P.follows .mixedOrders = true) (hB : upMB l.toArray n e is als = true)
    (hQ : ∀ c (a : Act) dst v w, Q (.panic c) (a.put dst v) w → Q (.panic c) a w)
    (hrun : ∀ x ∈ als, l.toArray[x.i]? = some x.o ∧ x.o.guard = none ∧ ∀ (a : Act) w, (execOp a.eval x.o).run P w = .ok (.value (.pointer (some ⟨w.heap.size, 0, none⟩))) (w.alloc x.obj))
    (his : is.map (fun i => l.toArray[i]?) = (als.foldr (fun x l => l.eraseIdx x.i) (l.take n)).map some)
    (hw : upW P l.toArray w (fun a' => ∀ (M : Nat → Nat) w', (∀ x ∈ als, w.heap.size ≤ M x.i ∧ w'.heap[M x.i]? = some x.obj) → (∀ x ∈ als, ∀ y ∈ als, x.i ≠ y.i → M x.i ≠ M y.i) → Below w.heap.size w w' → wpList P l.toArray Q (l.drop n) (als.foldr (pA M) a') w') (als.foldr (fun x l => l.eraseIdx x.i) (l.take n)) a) : (Code.region id l.toArray true).wp P Q a w := by
  have h := upIx_of_W is _ a his hw
  simp only [upMB, Bool.and_eq_true, decide_eq_true_eq] at hB
  obtain ⟨⟨⟨⟨⟨⟨⟨⟨⟨⟨hsel, hn⟩, hs⟩, hc⟩, hel⟩, hlen⟩, hnd⟩, hals⟩, haw⟩, hdst⟩, hix⟩ := hB
  have hdl : (l.drop n).length = l.toArray.size - n := by simp
  have hals2 : ∀ x ∈ als, x.i < n ∧ x.i ≠ e ∧ x.i < l.toArray.size ∧ (∀ listed : Array Bool, listed.getD x.i true = false → x.i ∈ Region.ready .any l.toArray listed) := fun x hx => by
    have h1 := List.all_eq_true.1 hals x hx
    simp only [Bool.and_eq_true, decide_eq_true_eq] at h1
    refine ⟨h1.1.1, h1.1.2, by have := h1.1.1; omega, fun listed hun => mem_ready.2 ⟨hun, x.o, (hrun x hx).1, fun b hb hbi => ?_⟩⟩
    have := Array.all_eq_true_iff_forall_mem.1 h1.2 b hb
    rw [hbi] at this
    cases this
  have hidx : ∀ x ∈ als, ∀ y ∈ als, x.i = y.i → x = y := by
    intro x hx y hy hxy
    have hp := List.pairwise_map.1 hnd
    apply Classical.byContradiction
    intro hne
    have key : ∀ (l : List Al), List.Pairwise (fun a b : Al => a.i ≠ b.i) l → x ∈ l → y ∈ l → False := by
      intro l
      induction l with
      | nil => intro _ h _; cases h
      | cons z l ih =>
        intro hp hx hy
        obtain ⟨h1, h2⟩ := List.pairwise_cons.1 hp
        rcases List.mem_cons.1 hx with hx1 | hx1
        · rcases List.mem_cons.1 hy with hy1 | hy1
          · exact hne (hx1.trans hy1.symm)
          · exact h1 y hy1 (by rw [← hx1]; exact hxy)
        · rcases List.mem_cons.1 hy with hy1 | hy1
          · exact h1 x hx1 (by rw [← hy1]; exact hxy.symm)
          · exact ih h2 hx1 hy1
    exact key als hp hx hy
  have hun0 : ∀ x ∈ als, (Array.replicate l.toArray.size false).getD x.i true = false := fun x hx => getD_in (by rw [Array.size_replicate]; exact (hals2 x hx).2.2.1) (getD_replicate_false _ _)
  have inv := inv_setAll (head0 l.toArray n) als hnd (fun x hx => ⟨(hals2 x hx).1, hun0 x hx, (hals2 x hx).2.2.2⟩)
  have H := upL_lex (g := l.toArray.size - n) hsel hs hc (lateB_spec hel) is _ a inv hix h
  refine wp_region_any hm ?_
  have := wpAny_of_upM (Q' := Q) (g := l.toArray.size - n) (als := als) hsel hQ hs hc hals2 hidx
    (fun j oj hj hjn hne x hx => by
      have h1 := List.all_eq_true.1 haw j (List.mem_range.2 hjn)
      rw [hj] at h1
      simp only [Bool.or_eq_true] at h1
      rcases h1 with h1 | h1
      · obtain ⟨y, hy, hyj⟩ := List.any_eq_true.1 h1
        exact absurd (by simpa using hyj : y.i = j).symm (hne y hy)
      · obtain ⟨p1, p2, _⟩ := Oper.apart_spec (List.all_eq_true.1 h1 x hx)
        exact ⟨p1, p2⟩)
    (fun listed' a' hL => seqB_ready hL.1)
    (fun x hx a w K hK => wpOp_of_run (hrun x hx).1 (hrun x hx).2.1 ((hrun x hx).2.2 a w) hK)
    (fun done M listed a' w' hperm hD hL => by
      have hE : done.foldr (pA M) a' = als.foldr (pA M) a' := hperm.foldr_eq' (fun x hx y hy z => by
        unfold pA
        by_cases hxy : x.i = y.i
        · rw [hidx x (hperm.mem_iff.1 hx) y (hperm.mem_iff.1 hy) hxy]
        · refine Act.put_comm _ _ _ (fun d hd => ?_)
          have h1 := List.all_eq_true.1 (List.all_eq_true.1 hdst x (hperm.mem_iff.1 hx)) y (hperm.mem_iff.1 hy)
          rw [hd] at h1
          simpa [hxy] using h1) a'
      rw [hE]
      have := wpAny_of_seq (md := .any) (Q' := Q) (l.drop n) n listed (als.foldr (pA M) a') w' (fun j => by simp [List.getElem?_drop]) (by rw [hdl]; exact hL.1) (hL.2 M w' (fun x hx => hD.2.1 x (hperm.mem_iff.2 hx)) (fun x hx y hy => hD.2.2 x (hperm.mem_iff.2 hx) y (hperm.mem_iff.2 hy)) hD.1)
      rwa [hdl] at this) _ is.length als [] (fun _ => 0) _ a { w with drawn := w.drawn + 1 } rfl (by simp) (by
        rw [List.append_nil]
        exact (List.pairwise_map.1 hnd).imp (fun {x y} hxy h1 => hxy (by rw [h1]))) ⟨(Below.refl _ w).drew, fun x hx => (by cases hx), fun x hx => (by cases hx)⟩ (by rw [Array.size_replicate]) (head0 l.toArray n) hun0 (fun x hx => by cases hx) H
  rw [hlen, show n + (l.toArray.size - n) = l.toArray.size by omega] at this
  exact this
/-- A statement whose order is fixed, by the same walk. -/
theorem wpList_of_up {Q : Exit → Act → World → Prop} {rest : List Oper} : ∀ (l : List Oper) (a : Act) (w : World), Below w0.heap.size w0 w → upW P ops w0 (fun a' => ∀ w', Below w0.heap.size w0 w' → wpList P ops Q rest a' w') l a → wpList P ops Q (l ++ rest) a w
  | [], _, w, hw, h => h w hw
  | o :: l, a, w, hw, h => by
    obtain ⟨v, hy, hr⟩ := h
    show if Region.wanted o (yielded ops a.tmps) then o.wp P a w (wpList P ops Q (l ++ rest)) Q ∨ (o.asks P a w ∧ LetsOut Q) else wpList P ops Q (l ++ rest) (a.put o.dst undef) w
    rcases hy.1 with ⟨h1, h2⟩ | ⟨h1, rfl⟩
    · rw [if_pos h1]
      left
      have hq : o.quiet P a (fun w' => Below w0.heap.size w0 w') (fun a' => a' = a.put o.dst v) := ⟨v, fun w' hw' => quietAt_mono (fun w2 hb => hw'.trans (hb.mono hw'.size)) (h2 ⟨w', hw'⟩), rfl⟩
      exact Oper.wp_of_quiet (C := fun w' => Below w0.heap.size w0 w') hw (fun a' w' hw' ha => by subst ha; exact wpList_of_up l _ w' hw' hr) hq
    · rw [if_neg (by rw [h1]; exact Bool.false_ne_true)]
      exact wpList_of_up l _ w hw hr
theorem wp_region_seq {id : Nat} {Q : Exit → Act → World → Prop} {a : Act} {w : World} {l : List Oper} (n : Nat)
    (h : upW P l.toArray w (fun a' => ∀ w', Below w.heap.size w w' → wpList P l.toArray Q (l.drop n) a' w') (l.take n) a) : (Code.region id l.toArray false).wp P Q a w := by
  refine wp_region_lit ?_
  have := wpList_of_up (rest := l.drop n) (l.take n) a w (Below.refl _ _) h
  rwa [List.take_append_drop] at this
end
end Go.Proofs.Ytfmclkmmkceldaa
