/-
  A statement whose order Go leaves open, with calls that make memory, one new block of its own, and stores at its end: walked once.
  The same, where several of the first operations make blocks; statements whose order is fixed, by the same walk.
  A whole statement of calls and reads, with blocks of its own that are made and filled once, in whatever order: walked once.
  The same walk for long statements: what each operation writes, looks at and waits for, as a table that is looked at once.
  Regions that draw their order, once more: a 'move' too may stay till the end.
  Conditions: none.
-/
import Derived.StillTail
import Derived.Deep.QuietTactic
import Derived.BigQuiet
import Derived.Below
import Derived.WalkKit
import Derived.Laws.Tables
namespace Go.Proofs.YtlpchgoaoglhcaaDoor
open Go.RowKit
/-- A world in which all that lay in w lies as it lay. -/
structure Ext (w : World) where
  x : World
  h : Below w.heap.size w x
instance (w : World) : Inhabited (Ext w) := ⟨⟨w, Below.refl _ _⟩⟩
def Ext.of {w w' : World} (h : Below w.heap.size w w') : Ext w := ⟨w', h⟩
section
variable {P : Program} {ops : Array Oper} {w0 : World}
theorem quietAt_mono {o : Oper} {a : Act} {C D : World → Prop} {w : World} {v : Value} (h : ∀ w', C w' → D w') (hq : o.quietAt P a C w v) : o.quietAt P a D w v := by
  unfold Oper.quietAt at *
  generalize (execOp a.eval o).run P w = r at *
  cases r with
  | ok n w' =>
    cases n <;> simp only [Oper.quietUpon] at *
    case value u => exact hq
    case skip => exact hq
    case enter f args => exact ⟨hq.1, hq.2.mono fun e w'' he => ⟨he.1, h _ he.2⟩⟩
  | halt x w' => simp only [Oper.quietUpon] at hq
/-- In each world that holds what lay in w0 the operation yields v, and a call leaves alone what lies there. -/
def Up (P : Program) (w0 : World) (o : Oper) (a : Act) (v : Value) : Prop := ∀ p : Ext w0, o.quietAt P a (fun w' => Below p.x.heap.size p.x w') p.x v
/-- An operation that hangs on no memory at all. -/
def late (o : Oper) : Bool :=
  match o.op with
  | .extract _ _ => true
  | _ => false
def UpG (P : Program) (ops : Array Oper) (w0 : World) (o : Oper) (v : Value) (a : Act) : Prop :=
  ((Region.wanted o (yielded ops a.tmps) = true ∧ Up P w0 o a v) ∨ (Region.wanted o (yielded ops a.tmps) = false ∧ v = undef)) ∧ (late o = true → Yields P ops o v a)
theorem UpG.of_same {o : Oper} {v : Value} {a a' : Act} (hy : UpG P ops w0 o v a) (he : execOp a'.eval o = execOp a.eval o)
    (hw : Region.wanted o (yielded ops a'.tmps) = Region.wanted o (yielded ops a.tmps)) : UpG P ops w0 o v a' := by
  unfold UpG Up Yields Oper.quietAt at *
  rw [he, hw]
  exact hy
theorem UpG.yields {o : Oper} {v : Value} {a : Act} {D : World → Prop} (hD : ∀ w, D w → Below w0.heap.size w0 w) (hc : ∀ w w', D w → Below w.heap.size w w' → D w') (h : UpG P ops w0 o v a) : YieldsIn P ops D o v a := by
  rcases h.1 with ⟨h1, h2⟩ | h
  · exact .inl ⟨h1, fun w hw => quietAt_mono (fun w' hb => hc w w' hw hb) (h2 ⟨w, hD w hw⟩)⟩
  · exact .inr h
theorem UpG.put {j : Nat} {oi oj : Oper} {u v : Value} {a : Act} (hsel : ∀ (j : Nat) (o : Oper) cs b, ops[j]? = some o → o.op ≠ .select cs b) (hoj : ops[j]? = some oj) (hap : oi.apart ops oj = true) (hyj : UpG P ops w0 oj u (a.put oi.dst v)) : UpG P ops w0 oj u a := by
  obtain ⟨p1, _, _⟩ := Oper.apart_spec hap
  exact hyj.of_same (execOp_put oj (fun cs b => hsel j oj cs b hoj) a oi.dst v p1).symm (wanted_put oj a oi.dst v p1).symm
/-- j waits for i, by way of others too. -/
def wT (ops : Array Oper) (n : Nat) : Nat → Nat → Nat → Bool
  | 0, j, i => Region.waitsFor .any ops j i
  | f + 1, j, i => Region.waitsFor .any ops j i || (List.range n).any fun k => Region.waitsFor .any ops j k && wT ops n f k i
theorem wT_closed {n m : Nat} {listed : Array Bool} (inv : HeadInv .any ops m listed) {i : Nat} : ∀ (f j : Nat), wT ops n f j i = true → listed.getD j false = true → listed.getD i false = true
  | 0, j, h, hj => by
    obtain ⟨oj, hoj, y, hy, hyb, hyon⟩ := Region.waitsFor_spec h
    have h3 := inv.closed j oj hoj hj y hy hyb
    rwa [hyon] at h3
  | f + 1, j, h, hj => by
    simp only [wT, Bool.or_eq_true] at h
    rcases h with h | h
    · obtain ⟨oj, hoj, y, hy, hyb, hyon⟩ := Region.waitsFor_spec h
      have h3 := inv.closed j oj hoj hj y hy hyb
      rwa [hyon] at h3
    · obtain ⟨k, _, hk⟩ := List.any_eq_true.1 h
      simp only [Bool.and_eq_true] at hk
      obtain ⟨oj, hoj, y, hy, hyb, hyon⟩ := Region.waitsFor_spec hk.1
      have h3 := inv.closed j oj hoj hj y hy hyb
      rw [hyon] at h3
      exact wT_closed inv f k hk.2 h3
/-- The first that comes behind waits for each of the first n but one. -/
def wB (ops : Array Oper) (n e : Nat) : Bool := (List.range n).all fun i => i == e || (Region.waitsFor .any ops n i || (List.range n).any fun j => Region.waitsFor .any ops n j && wT ops n 3 j i)
theorem waits {n e : Nat} {listed : Array Bool} (hw : wB ops n e = true) (hc : Region.chainB .any ops n = true) (inv : HeadInv .any ops n listed) {i : Nat} (hi : i < n) (hie : i ≠ e) (hun : listed.getD i true = false) : ∀ t, n ≤ t → t ∉ Region.ready .any ops listed := by
  intro t ht hr
  obtain ⟨_, ot, hot, hall⟩ := mem_ready.1 hr
  have htlt : t < ops.size := (Array.getElem?_eq_some_iff.1 hot).1
  by_cases htn : t = n
  · subst htn
    have h1 := List.all_eq_true.1 hw i (List.mem_range.2 hi)
    simp only [Bool.or_eq_true, beq_iff_eq] at h1
    rcases h1 with h1 | h1 | h1
    · exact hie h1
    · obtain ⟨o', ho', x, hx, hb, hon⟩ := Region.waitsFor_spec h1
      obtain rfl : o' = ot := Option.some.inj (ho'.symm.trans hot)
      have h2 := hall x hx hb
      rw [hon, getD_both hun] at h2
      cases h2
    · obtain ⟨j, _, hj⟩ := List.any_eq_true.1 h1
      simp only [Bool.and_eq_true] at hj
      obtain ⟨o', ho', x, hx, hb, hon⟩ := Region.waitsFor_spec hj.1
      obtain rfl : o' = ot := Option.some.inj (ho'.symm.trans hot)
      have h2 := hall x hx hb
      rw [hon] at h2
      have h3 := wT_closed inv 3 j hj.2 h2
      rw [getD_both hun] at h3
      cases h3
  · have h1 := List.all_eq_true.1 hc t (List.mem_range.2 htlt)
    simp only [Bool.or_eq_true, decide_eq_true_eq] at h1
    rcases h1 with h1 | h1
    · omega
    · obtain ⟨o', ho', x, hx, hb, hon⟩ := Region.waitsFor_spec h1
      obtain rfl : o' = ot := Option.some.inj (ho'.symm.trans hot)
      have h2 := hall x hx hb
      rw [hon, getD_both (inv.tail (t - 1) (by omega) (by omega))] at h2
      cases h2
/-- Whatever comes up among the first n, so often; e, one that hangs on no memory, may stay till the end. -/
def upL (P : Program) (ops : Array Oper) (w0 : World) (n e : Nat) (L : Array Bool → Act → Prop) : Nat → Array Bool → Act → Prop
  | 0, listed, a => L listed a
  | f + 1, listed, a =>
    (Region.ready .any ops listed ≠ [] ∧ ∀ i ∈ Region.ready .any ops listed, i < n ∧ ∃ oi v, ops[i]? = some oi ∧ UpG P ops w0 oi v a ∧ upL P ops w0 n e L f (listed.setIfInBounds i true) (a.put oi.dst v)) ∨
    (f = 0 ∧ e < n ∧ e ∈ Region.ready .any ops listed ∧ ∃ oe v, ops[e]? = some oe ∧ UpG P ops w0 oe v a ∧ late oe = true ∧
      (∀ j oj, ops[j]? = some oj → j ≠ e → listed.getD j true = false → (∀ x ∈ oj.after, Region.binds .any x = true → x.on ≠ e) → oe.apart ops oj = true) ∧ L (listed.setIfInBounds e true) (a.put oe.dst v))
theorem upL_first {n e : Nat} {L : Array Bool → Act → Prop} (hsel : ∀ (j : Nat) (o : Oper) cs b, ops[j]? = some o → o.op ≠ .select cs b)
    (hs : wB ops n e = true) (hc : Region.chainB .any ops n = true) (hel : ∀ oe, ops[e]? = some oe → e < n → late oe = true)
    (hdone : ∀ listed a, L listed a → ∀ j ∈ Region.ready .any ops listed, n ≤ j) {i : Nat} {oi : Oper} {v : Value} (hi : ops[i]? = some oi) (hin : i < n) :
    ∀ (f : Nat) (listed : Array Bool) (a : Act), HeadInv .any ops n listed →
      (∀ j oj, ops[j]? = some oj → j ≠ i → listed.getD j true = false → (∀ x ∈ oj.after, Region.binds .any x = true → x.on ≠ i) → oi.apart ops oj = true) →
      i ∈ Region.ready .any ops listed → UpG P ops w0 oi v a → upL P ops w0 n e L f (listed.setIfInBounds i true) (a.put oi.dst v) → upL P ops w0 n e L (f + 1) listed a := by
  intro f
  induction f with
  | zero =>
    intro listed a inv hfree hr hy H
    have hun := (mem_ready.1 hr).1
    by_cases hie : i = e
    · subst hie
      exact .inr ⟨rfl, hin, hr, oi, v, hi, hy, hel oi hi hin, hfree, H⟩
    · refine .inl ⟨fun h => (by rw [h] at hr; cases hr), fun j hj => ?_⟩
      have hjn : j < n := by
        rcases Nat.lt_or_ge j n with h | h
        · exact h
        · exact absurd hj (waits hs hc inv hin hie hun j h)
      refine ⟨hjn, ?_⟩
      by_cases hji : j = i
      · subst hji
        exact ⟨oi, v, hi, hy, H⟩
      · exact absurd (hdone _ _ H j (ready_mono hj hji)) (by omega)
  | succ f ih =>
    intro listed a inv hfree hr hy H
    have hun := (mem_ready.1 hr).1
    have hisz : i < listed.size := by rw [inv.size]; exact (Array.getElem?_eq_some_iff.1 hi).1
    -- some other one is pending
    have hk : ∃ k, k < n ∧ k ≠ i ∧ listed.getD k true = false := by
      have key : ∀ k, k ∈ Region.ready .any ops (listed.setIfInBounds i true) → k ≠ i ∧ listed.getD k true = false := fun k hk => by
        have h1 := (mem_ready.1 hk).1
        by_cases hki : k = i
        · subst hki; simp [hisz] at h1
        · exact ⟨hki, by rw [getD_set_ne true (Ne.symm hki)] at h1; exact h1⟩
      rcases H with ⟨hne, hall⟩ | ⟨_, hen, he, _⟩
      · obtain ⟨k, hk⟩ := List.exists_mem_of_ne_nil _ hne
        exact ⟨k, (hall k hk).1, key k hk⟩
      · exact ⟨e, hen, key e he⟩
    refine .inl ⟨fun h => (by rw [h] at hr; cases hr), fun j hj => ?_⟩
    have hjn : j < n := by
      rcases Nat.lt_or_ge j n with h | h
      · exact h
      · obtain ⟨k, hkn, hki, hku⟩ := hk
        by_cases hie : i = e
        · exact absurd hj (waits hs hc inv hkn (fun h1 => hki (h1.trans hie.symm)) hku j h)
        · exact absurd hj (waits hs hc inv hin hie hun j h)
    refine ⟨hjn, ?_⟩
    by_cases hji : j = i
    · subst hji
      exact ⟨oi, v, hi, hy, H⟩
    · have hj' := ready_mono hj hji
      have hch : ∃ oj u, ops[j]? = some oj ∧ UpG P ops w0 oj u (a.put oi.dst v) ∧ upL P ops w0 n e L f ((listed.setIfInBounds i true).setIfInBounds j true) ((a.put oi.dst v).put oj.dst u) := by
        rcases H with ⟨_, hall⟩ | ⟨h0, _, he, oe, u, hoe, hye, _, _, hL⟩
        · exact (hall j hj').2
        · subst h0
          by_cases hje : j = e
          · subst hje
            exact ⟨oe, u, hoe, hye, hL⟩
          · exact absurd (hdone _ _ hL j (ready_mono hj' hje)) (by omega)
      obtain ⟨oj, u, hoj, hyj, hrest⟩ := hch
      obtain ⟨hjun, oj', hoj', hall⟩ := mem_ready.1 hj
      obtain rfl : oj' = oj := Option.some.inj (hoj'.symm.trans hoj)
      have hnot : ∀ x ∈ oj'.after, Region.binds .any x = true → x.on ≠ i := fun x hx hb heq => by
        have h1 := hall x hx hb
        rw [heq, getD_both hun] at h1
        cases h1
      have hapj := hfree j oj' hoj hji hjun hnot
      obtain ⟨p1, p2, p3⟩ := Oper.apart_spec hapj
      have hyj' : UpG P ops w0 oj' u a := UpG.put hsel hoj hapj hyj
      have hyi' : UpG P ops w0 oi v (a.put oj'.dst u) := hy.of_same (execOp_put oi (fun cs b => hsel i oi cs b hi) a oj'.dst u p3) (wanted_put oi a oj'.dst u p3)
      have hfree' : ∀ k ok, ops[k]? = some ok → k ≠ i → (listed.setIfInBounds j true).getD k true = false →
          (∀ x ∈ ok.after, Region.binds .any x = true → x.on ≠ i) → oi.apart ops ok = true := fun k ok hk hki hunk hno => by
        refine hfree k ok hk hki ?_ hno
        by_cases hjk : j = k
        · subst hjk; exact hjun
        · rw [getD_set_ne true hjk] at hunk; exact hunk
      refine ⟨oj', u, hoj, hyj', ih (listed.setIfInBounds j true) _ (inv.set hj hjn) hfree' (ready_mono hr (Ne.symm hji)) hyi' ?_⟩
      rw [Array.setIfInBounds_comm _ _ hji, ← Act.put_comm a v u p2]
      exact hrest
/-- The walk: so many operations, by their numbers, each with its value. -/
def upIx (P : Program) (ops : Array Oper) (w0 : World) (Lq : Act → Prop) : List Nat → Act → Prop
  | [], a => Lq a
  | i :: is, a => ∃ oi v, ops[i]? = some oi ∧ UpG P ops w0 oi v a ∧ upIx P ops w0 Lq is (a.put oi.dst v)
def ixB (ops : Array Oper) (n g : Nat) : List Nat → Array Bool → Bool
  | [], listed => Region.seqB .any ops g n listed
  | i :: is, listed => decide (i < n) && (Region.ready .any ops listed).contains i && Region.free .any ops listed i && ixB ops n g is (listed.setIfInBounds i true)
theorem upL_lex {n e g : Nat} {Lq : Act → Prop} (hsel : Region.noSelect ops = true) (hs : wB ops n e = true) (hc : Region.chainB .any ops n = true) (hel : ∀ oe, ops[e]? = some oe → e < n → late oe = true) :
    ∀ (is : List Nat) (listed : Array Bool) (a : Act), HeadInv .any ops n listed → ixB ops n g is listed = true → upIx P ops w0 Lq is a →
    upL P ops w0 n e (fun listed' a' => Region.seqB .any ops g n listed' = true ∧ Lq a') is.length listed a
  | [], listed, a, _, hB, h => ⟨by simpa [ixB] using hB, h⟩
  | i :: is, listed, a, inv, hB, h => by
    simp only [ixB, Bool.and_eq_true, decide_eq_true_eq] at hB
    obtain ⟨⟨⟨hin, hr⟩, hf⟩, hB'⟩ := hB
    have hr' : i ∈ Region.ready .any ops listed := by simpa using hr
    obtain ⟨oi, v, ho, hy, hrest⟩ := h
    exact upL_first (Region.noSelect_spec hsel) hs hc hel (fun listed' a' hL => seqB_ready hL.1) ho hin is.length listed a inv (Region.free_spec ho hf) hr' hy
      (upL_lex hsel hs hc hel is _ _ (inv.set hr' hin) hB' hrest)
/-- What else one slot holds makes no difference to those that neither read nor write it. -/
theorem wpAny_of_up {n e g ia : Nat} {d : Option Tmp} {pv : Value} {L : Array Bool → Act → Prop} {Q' : Exit → Act → World → Prop} {D : World → Prop} (hsel : Region.noSelect ops = true) (hQ : ∀ c (a : Act) dst v w, Q' (.panic c) (a.put dst v) w → Q' (.panic c) a w) (hD : ∀ w, D w → Below w0.heap.size w0 w) (hc : ∀ w w', D w → Below w.heap.size w w' → D w')
    (hap : ∀ j oj, ops[j]? = some oj → j < n → j ≠ ia → (∀ s, d = some s → s ∉ oj.looksAt ops) ∧ (∀ s, d = some s → oj.dst ≠ some s))
    (hL : ∀ listed a w, D w → L listed a → wpAny P .any ops Q' g listed (a.put d pv) w) :
    ∀ (f : Nat) (listed : Array Bool) (a : Act) (w : World), D w → (ia = n ∨ listed.getD ia true = true) → upL P ops w0 n e L f listed a → wpAny P .any ops Q' (f + g) listed (a.put d pv) w
  | 0, listed, a, w, hw, _, h => by rw [Nat.zero_add]; exact hL _ _ _ hw h
  | f + 1, listed, a, w, hw, hia, h => by
    rw [show f + 1 + g = (f + g) + 1 by omega]
    have hne : ∀ i, i < n → i ∈ Region.ready .any ops listed → i ≠ ia := by
      rintro i hin hi rfl
      rcases hia with h1 | h1
      · omega
      · rw [(mem_ready.1 hi).1] at h1; cases h1
    rcases h with ⟨hnil, hall⟩ | ⟨h0, hen, he, oe, v, hoe, hye, hl, hfree, hLe⟩
    · refine ⟨fun h0 => absurd h0 hnil, fun i hi => ?_⟩
      obtain ⟨hin, oi, v, ho, hy, hrest⟩ := hall i hi
      obtain ⟨q1, q2⟩ := hap i oi ho hin (hne i hin hi)
      have hy' : UpG P ops w0 oi v (a.put d pv) := hy.of_same (execOp_put oi (fun cs b => Region.noSelect_spec hsel i oi cs b ho) a d pv q1) (wanted_put oi a d pv q1)
      have hq : qOp P ops D i (fun a' => a' = (a.put d pv).put oi.dst v) (a.put d pv) := (hy'.yields hD hc).qOp ho rfl
      refine wpOp_of_qOp hw (fun a' w' hw' ha => ?_) hq
      subst ha
      rw [Act.put_comm a pv v q2]
      refine wpAny_of_up hsel hQ hD hc hap hL f _ _ w' hw' ?_ hrest
      rcases hia with h1 | h1
      · exact .inl h1
      · exact .inr (by rw [getD_set_ne true (hne i hin hi)]; exact h1)
    · subst h0
      obtain ⟨q1, q2⟩ := hap e oe hoe hen (hne e hen he)
      have hy' : UpG P ops w0 oe v (a.put d pv) := hye.of_same (execOp_put oe (fun cs b => Region.noSelect_spec hsel e oe cs b hoe) a d pv q1) (wanted_put oe a d pv q1)
      refine wpAny_first hoe (Region.noSelect_spec hsel) (fun c a w h => hQ c a _ _ w h) (0 + g) listed (a.put d pv) w hfree he (hy'.2 hl) ?_
      rw [Act.put_comm a pv v q2, Nat.zero_add]
      exact hL _ _ _ hw hLe
/-- A block of its own is made among them, at whichever time. -/
theorem wpAny_of_upA {n e g ia : Nat} {oa : Oper} {obj : Obj} {L : Array Bool → Act → Prop} {Q' : Exit → Act → World → Prop} (hsel : Region.noSelect ops = true) (hQ : ∀ c (a : Act) dst v w, Q' (.panic c) (a.put dst v) w → Q' (.panic c) a w)
    (hs : wB ops n e = true) (hc : Region.chainB .any ops n = true) (hian : ia < n) (hiae : ia ≠ e)
    (hrdy : ∀ listed : Array Bool, listed.getD ia true = false → ia ∈ Region.ready .any ops listed)
    (hap : ∀ j oj, ops[j]? = some oj → j < n → j ≠ ia → (∀ s, oa.dst = some s → s ∉ oj.looksAt ops) ∧ (∀ s, oa.dst = some s → oj.dst ≠ some s))
    (hdone : ∀ listed a, L listed a → ∀ j ∈ Region.ready .any ops listed, n ≤ j)
    (halloc : ∀ (a : Act) (w : World) (K : Act → World → Prop), K (a.put oa.dst (.pointer (some ⟨w.heap.size, 0, none⟩))) (w.alloc obj) → wpOp P ops Q' ia K a w)
    (hL : ∀ M listed a w, w0.heap.size ≤ M → Below w0.heap.size w0 w → w.heap[M]? = some obj → L listed a → wpAny P .any ops Q' g listed (a.put oa.dst (.pointer (some ⟨M, 0, none⟩))) w) :
    ∀ (f : Nat) (listed : Array Bool) (a : Act) (w : World), Below w0.heap.size w0 w → ia < listed.size → HeadInv .any ops n listed → listed.getD ia true = false → upL P ops w0 n e L f (listed.setIfInBounds ia true) a → wpAny P .any ops Q' (f + 1 + g) listed a w
  | f, listed, a, w, hw, hsz, inv, hun, h => by
    rw [show f + 1 + g = (f + g) + 1 by omega]
    refine ⟨fun h0 => (by have := hrdy listed hun; rw [h0] at this; cases this), fun i hi => ?_⟩
    by_cases hii : i = ia
    · subst hii
      refine halloc a w _ ?_
      refine wpAny_of_up (ia := i) (D := fun w' => Below w0.heap.size w0 w' ∧ w'.heap[w.heap.size]? = some obj) hsel hQ (fun _ h => h.1) (fun w1 w2 h1 h2 => ⟨h1.1.trans (h2.mono h1.1.size), ?_⟩) hap (fun listed a w' hw' hl => hL w.heap.size listed a w' hw.size hw'.1 hw'.2 hl) f _ a _ ⟨hw.alloc hw.size _, Go.heap_alloc_new _ _⟩ (.inr ?_) h
      · rw [h2.block _ (by
          rcases Nat.lt_or_ge w.heap.size w1.heap.size with h3 | h3
          · exact h3
          · have := h1.2; rw [Array.getElem?_eq_none h3] at this; cases this)]
        exact h1.2
      · simp [hsz]
    · have hi' := ready_mono hi hii
      have hin : i < n := by
        rcases Nat.lt_or_ge i n with h1 | h1
        · exact h1
        · exact absurd hi (waits hs hc inv hian hiae hun i h1)
      cases f with
      | zero => exact absurd (hdone _ _ h i hi') (by omega)
      | succ f =>
        have hch : ∃ oi v, ops[i]? = some oi ∧ UpG P ops w0 oi v a ∧ upL P ops w0 n e L f ((listed.setIfInBounds ia true).setIfInBounds i true) (a.put oi.dst v) := by
          rcases h with ⟨_, hall⟩ | ⟨h0, _, _, oe, v, hoe, hye, _, _, hLe⟩
          · exact (hall i hi').2
          · subst h0
            by_cases hie : i = e
            · subst hie
              exact ⟨oe, v, hoe, hye, hLe⟩
            · exact absurd (hdone _ _ hLe i (ready_mono hi' hie)) (by omega)
        obtain ⟨oi, v, ho, hy, hrest⟩ := hch
        have hq : qOp P ops (fun w' => Below w0.heap.size w0 w') i (fun a' => a' = a.put oi.dst v) a := (hy.yields (fun _ h => h) (fun w1 w2 h1 h2 => h1.trans (h2.mono h1.size))).qOp ho rfl
        refine wpOp_of_qOp hw (fun a' w' hw' ha => ?_) hq
        subst ha
        refine wpAny_of_upA hsel hQ hs hc hian hiae hrdy hap hdone halloc hL f _ _ w' hw' (by simpa using hsz) (inv.set hi hin) ?_ ?_
        · rw [getD_set_ne true hii]; exact hun
        · rw [Array.setIfInBounds_comm _ _ hii]; exact hrest
  termination_by f => f
/-- The walk by the operations themselves. -/
def upW (P : Program) (ops : Array Oper) (w0 : World) (Lq : Act → Prop) : List Oper → Act → Prop
  | [], a => Lq a
  | o :: l, a => ∃ v, UpG P ops w0 o v a ∧ upW P ops w0 Lq l (a.put o.dst v)
theorem upIx_of_W {Lq : Act → Prop} : ∀ (is : List Nat) (l : List Oper) (a : Act), is.map (fun i => ops[i]?) = l.map some → upW P ops w0 Lq l a → upIx P ops w0 Lq is a
  | [], [], _, _, h => h
  | [], _ :: _, _, he, _ => by cases he
  | _ :: _, [], _, he, _ => by cases he
  | i :: is, o :: l, a, he, h => by
    simp only [List.map_cons, List.cons.injEq] at he
    obtain ⟨v, hy, hr⟩ := h
    exact ⟨o, v, he.1, hy, upIx_of_W is l _ he.2 hr⟩
def lateB (ops : Array Oper) (n e : Nat) : Bool := !decide (e < n) || (match ops[e]? with | some o => late o | none => true)
theorem lateB_spec {n e : Nat} (h : lateB ops n e = true) : ∀ oe, ops[e]? = some oe → e < n → late oe = true := by
  intro oe hoe hen
  unfold lateB at h
  rw [hoe] at h
  simpa [hen] using h
def upB (ops : Array Oper) (n e : Nat) (is : List Nat) : Bool :=
  Region.noSelect ops && decide (n < ops.size) && wB ops n e && Region.chainB .any ops n && lateB ops n e && ixB ops n (ops.size - n) is (Array.replicate ops.size false)
theorem head0 (ops : Array Oper) (n : Nat) : HeadInv .any ops n (Array.replicate ops.size false) :=
  ⟨by simp, fun j oj _ hl => (by rw [getD_replicate_false] at hl; cases hl), fun t _ ht => getD_in (by simpa using ht) (getD_replicate_false _ _)⟩
/-- A statement of calls and reads, whose last operations come in their order. -/
theorem wp_region_up {id : Nat} {Q : Exit → Act → World → Prop} {a : Act} {w : World} {l : List Oper} (n e : Nat) (hm : P.follows .mixedOrders = true) (hB : upB l.toArray n e (List.range n) = true) (hQ : ∀ c (a : Act) dst v w, Q (.panic c) (a.put dst v) w → Q (.panic c) a w)
    (hw : upW P l.toArray w (fun a' => ∀ w', Below w.heap.size w w' → wpList P l.toArray Q (l.drop n) a' w') (l.take n) a) : (Code.region id l.toArray true).wp P Q a w := by
  simp only [upB, Bool.and_eq_true, decide_eq_true_eq] at hB
  have h := upIx_of_W (List.range n) (l.take n) a (by
    have hn : n ≤ l.length := by have := hB.1.1.1.1.2; simp at this; omega
    apply List.ext_getElem?
    intro k
    simp only [List.getElem?_map, List.getElem?_take]
    by_cases hk : k < n
    · rw [if_pos hk]
      have : k < l.length := by omega
      simp [hk, this]
    · rw [if_neg hk]
      simp [hk]) hw
  obtain ⟨⟨⟨⟨⟨hsel, hn⟩, hs⟩, hc⟩, hel⟩, hix⟩ := hB
  have hdl : (l.drop n).length = l.toArray.size - n := by simp
  have H := upL_lex (g := l.toArray.size - n) hsel hs hc (lateB_spec hel) (List.range n) _ a (head0 l.toArray n) hix h
  refine wp_region_any hm ?_
  have := wpAny_of_up (Q' := Q) (g := l.toArray.size - n) (ia := n) (d := none) (pv := undef) (D := fun w' => Below w.heap.size w w') hsel hQ (fun _ h => h) (fun w1 w2 h1 h2 => h1.trans (h2.mono h1.size)) (fun j oj _ _ _ => ⟨fun s hs => (by cases hs), fun s hs => (by cases hs)⟩)
    (fun listed a' w' hw' hL => by
      have := wpAny_of_seq (md := .any) (Q' := Q) (l.drop n) n listed a' w' (fun j => by simp [List.getElem?_drop]) (by rw [hdl]; exact hL.1) (hL.2 w' hw')
      rwa [hdl] at this) _ _ a { w with drawn := w.drawn + 1 } ((Below.refl _ w).drew) (.inl rfl) H
  rw [List.length_range, show n + (l.toArray.size - n) = l.toArray.size by omega] at this
  exact this
def upAB (ops : Array Oper) (n e ia : Nat) (is : List Nat) : Bool :=
  Region.noSelect ops && decide (n < ops.size) && wB ops n e && Region.chainB .any ops n && lateB ops n e && decide (ia ≠ e) && decide (ia < n) && decide (is.length + 1 = n) &&
  (match ops[ia]? with
    | some oa => oa.after.all (fun e => !Region.binds .any e) && (List.range n).all fun j => j == ia || (match ops[j]? with | some oj => oa.apart ops oj | none => false)
    | none => false) && (Region.ready .any ops (Array.replicate ops.size false)).contains ia && ixB ops n (ops.size - n) is ((Array.replicate ops.size false).setIfInBounds ia true)
/-- The same, where one of the first operations makes a block. -/
theorem wp_region_upA {id : Nat} {Q : Exit → Act → World → Prop} {a : Act} {w : World} {l : List Oper} (n e ia : Nat) (is : List Nat) (oa : Oper) (obj : Obj) (hm : P.follows .mixedOrders = true) (hB : upAB l.toArray n e ia is = true) (hQ : ∀ c (a : Act) dst v w, Q (.panic c) (a.put dst v) w → Q (.panic c) a w) (hoa : l.toArray[ia]? = some oa)
    (halloc : ∀ (a : Act) (w : World) (K : Act → World → Prop), K (a.put oa.dst (.pointer (some ⟨w.heap.size, 0, none⟩))) (w.alloc obj) → wpOp P l.toArray Q ia K a w)
    (his : is.map (fun i => l.toArray[i]?) = ((l.take n).eraseIdx ia).map some)
    (hw : upW P l.toArray w (fun a' => ∀ M w', w.heap.size ≤ M → Below w.heap.size w w' → w'.heap[M]? = some obj → wpList P l.toArray Q (l.drop n) (a'.put oa.dst (.pointer (some ⟨M, 0, none⟩))) w') ((l.take n).eraseIdx ia) a) : (Code.region id l.toArray true).wp P Q a w := by
  have h := upIx_of_W is _ a his hw
  simp only [upAB, Bool.and_eq_true, decide_eq_true_eq] at hB
  obtain ⟨⟨⟨⟨⟨⟨⟨⟨⟨⟨hsel, hn⟩, hs⟩, hc⟩, hel⟩, hiae⟩, hian⟩, hlen⟩, hap⟩, hr0⟩, hix⟩ := hB
  rw [hoa] at hap
  simp only [Bool.and_eq_true] at hap
  obtain ⟨haf, hap⟩ := hap
  have hdl : (l.drop n).length = l.toArray.size - n := by simp
  have hr0' : ia ∈ Region.ready .any l.toArray (Array.replicate l.toArray.size false) := by simpa using hr0
  have H := upL_lex (g := l.toArray.size - n) hsel hs hc (lateB_spec hel) is _ a ((head0 l.toArray n).set hr0' hian) hix h
  refine wp_region_any hm ?_
  have := wpAny_of_upA (Q' := Q) (g := l.toArray.size - n) (obj := obj) hsel hQ hs hc hian hiae
    (fun listed hun => mem_ready.2 ⟨hun, oa, hoa, fun e he hb => by
      have := Array.all_eq_true_iff_forall_mem.1 haf e he
      rw [hb] at this
      cases this⟩)
    (fun j oj hj hjn hne => by
      have := List.all_eq_true.1 hap j (List.mem_range.2 hjn)
      rw [hj] at this
      simp only [Bool.or_eq_true, beq_iff_eq] at this
      rcases this with h1 | h1
      · exact absurd h1 hne
      · obtain ⟨p1, p2, _⟩ := Oper.apart_spec h1
        exact ⟨p1, p2⟩)
    (fun listed' a' hL => seqB_ready hL.1) halloc
    (fun M listed a' w' hM hw' hblk hL => by
      have := wpAny_of_seq (md := .any) (Q' := Q) (l.drop n) n listed (a'.put oa.dst (.pointer (some ⟨M, 0, none⟩))) w' (fun j => by simp [List.getElem?_drop]) (by rw [hdl]; exact hL.1) (hL.2 M w' hM hw' hblk)
      rwa [hdl] at this) _ _ a { w with drawn := w.drawn + 1 } ((Below.refl _ w).drew) (by rw [Array.size_replicate]; omega) (head0 l.toArray n) (getD_in (by rw [Array.size_replicate]; omega) (getD_replicate_false _ _)) H
  rw [hlen, show n + (l.toArray.size - n) = l.toArray.size by omega] at this
  exact this
/-! ### Single operations -/

/-- An operation that calls nothing. -/
def Oper.calm (o : Oper) : Bool :=
  match o.op with
  | .move _ | .assign _ | .load _ _ | .build _ _ | .binOp _ _ _ _ _ | .unOp _ _ _ | .convert _ _ _ | .slice _ _ _ _ _ | .fieldAddr _ _ _ | .field _ _ _ | .indexAddr _ _ _ | .index _ _ _ | .extract _ _ | .pick _ _ _ => true
  | _ => false
theorem quietAt_calm {o : Oper} {a : Act} {C D : World → Prop} {w : World} {v : Value} (hc : Oper.calm o = true) (hq : o.quietAt P a C w v) : o.quietAt P a D w v := by
  have key : ∀ s : Sem Value, Oper.quietUpon P C w v ((do pure (Next.value (← s)) : Sem Next).run P w) → Oper.quietUpon P D w v ((do pure (Next.value (← s)) : Sem Next).run P w) := by
    intro s h
    rw [Sem.run_bind] at h ⊢
    cases hs : s.run P w with
    | ok x w' => rw [hs] at h; simpa only [Result.andThen_ok, Sem.run_pure, Oper.quietUpon] using h
    | halt x w' => rw [hs] at h; simp only [Result.andThen, Oper.quietUpon] at h
  unfold Oper.quietAt at *
  unfold execOp at *
  unfold Oper.calm at hc
  cases ho : o.op <;> simp only [ho] at hc hq ⊢ <;> first
    | exact key _ hq
    | (simp only [Sem.run_pure, Oper.quietUpon] at hq ⊢; exact hq)
    | (simp only [Sem.run_pure, Oper.quietUpon] at hq; done)
    | (cases hc; done)
    | skip
  case pick c x y =>
    rw [Sem.run_bind] at hq ⊢
    cases hs : (asBool (a.eval c)).run P w with
    | ok b w' => rw [hs] at hq; simpa only [Result.andThen_ok, Sem.run_pure, Oper.quietUpon] using hq
    | halt x w' => rw [hs] at hq; simp only [Result.andThen, Oper.quietUpon] at hq
theorem upW_nil {Lq : Act → Prop} {a : Act} (h : Lq a) : upW P ops w0 Lq [] a := h
theorem upW_val {Lq : Act → Prop} {l : List Oper} {a : Act} {o : Oper} (hw : Region.wanted o (yielded ops a.tmps) = true) (hc : Oper.calm o = true) (hn : late o = false)
    (h : ∀ K : Act → Prop, (∀ a', upW P ops w0 Lq l a' → K a') → o.quiet P a (fun w' => ∃ p : Ext w0, w' = p.x) K) : upW P ops w0 Lq (o :: l) a := by
  obtain ⟨v, h1, h2⟩ := h _ (fun _ h => h)
  exact ⟨v, ⟨.inl ⟨hw, fun p => quietAt_calm hc (h1 p.x ⟨p, rfl⟩)⟩, fun h => by rw [hn] at h; cases h⟩, h2⟩
theorem upW_skip {Lq : Act → Prop} {l : List Oper} {a : Act} {o : Oper} (hw : Region.wanted o (yielded ops a.tmps) = false)
    (h : upW P ops w0 Lq l (a.put o.dst undef)) : upW P ops w0 Lq (o :: l) a :=
  ⟨undef, ⟨.inr ⟨hw, rfl⟩, fun _ => .inr ⟨hw, rfl⟩⟩, h⟩
theorem upW_call {Lq : Act → Prop} {l : List Oper} {a : Act} {o : Oper} (hw : Region.wanted o (yielded ops a.tmps) = true) (hn : late o = false) (v : Value) (d : Tmp) (hd : o.dst = some d) (hs : d < a.tmps.size)
    (h : ∀ p : Ext w0, o.quiet P a (fun w' => ∃ q : Ext p.x, w' = q.x) (fun a' => a' = a.put o.dst v)) (hr : upW P ops w0 Lq l (a.put o.dst v)) : upW P ops w0 Lq (o :: l) a := by
  refine ⟨v, ⟨.inl ⟨hw, fun p => ?_⟩, fun h => by rw [hn] at h; cases h⟩, hr⟩
  obtain ⟨u, h1, h2⟩ := h p
  have : u = v := by
    rw [hd] at h2
    have h3 := congrArg (fun b : Act => b.tmps[d]?) h2
    simpa [Act.put, hs] using h3
  subst this
  exact quietAt_mono (fun w' ⟨q, hq⟩ => by rw [hq]; exact q.h) (h1 p.x ⟨⟨p.x, Below.refl _ _⟩, rfl⟩)
theorem upW_late {Lq : Act → Prop} {l : List Oper} {a : Act} {o : Oper} (hw : Region.wanted o (yielded ops a.tmps) = true) (v : Value) (h : ∀ w, (execOp a.eval o).run P w = .ok (.value v) w) (hr : upW P ops w0 Lq l (a.put o.dst v)) : upW P ops w0 Lq (o :: l) a :=
  ⟨v, ⟨.inl ⟨hw, fun p => by unfold Oper.quietAt; rw [h]; exact ⟨rfl, rfl⟩⟩, fun _ => .inl ⟨hw, h⟩⟩, hr⟩
theorem quiet_load_row {o : Oper} {a : Act} {K : Act → Prop} (ty : TypeId) (x : Operand) (ho : o.op = .load ty x) (g : Nat) (hx : a.eval x = .pointer (some ⟨g, 0, none⟩)) (t : TypeId) (cs : Array Value) (fr : Nat × Nat) (d : TypeDesc) (hg : w0.heap[g]? = some (.cells cs t fr))
    (hu : P.underlying ty = some d) (hd : (match d with | .struct _ | .array _ _ => true | _ => false) = true) (hi : (P.info? ty).map (·.size) = some cs.size) (h : K (a.put o.dst (.agg cs))) :
    o.quiet P a (fun w' => ∃ p : Ext w0, w' = p.x) K := by
  refine ⟨_, fun w ⟨p, hp⟩ => ?_, h⟩
  subst hp
  have hgp : p.x.heap[g]? = some (.cells cs t fr) := by rw [p.h.block g (Array.getElem?_eq_some_iff.1 hg).1]; exact hg
  unfold Oper.quietAt execOp
  simp only [ho, hx, Instr.loadAt, Instr.sureAddr, Sem.run_bind, Sem.run_pure, Result.andThen_ok, run_loadVar_row p.x g t ty cs fr d hgp hu hd hi, Oper.quietUpon]
  exact ⟨trivial, trivial⟩
theorem Ext.cell {b i : Nat} {v : Value} (h : w0.cell? ⟨b, i, none⟩ = some v) (p : Ext w0) : p.x.cell? ⟨b, i, none⟩ = some v := by
  rw [World.cell?_of_block (p.h.block b (block_lt_of_cell h))]; exact h
theorem wpOp_of_run {i : Nat} {o : Oper} {a : Act} {w w1 : World} {K : Act → World → Prop} {Q' : Exit → Act → World → Prop} {v : Value} (hi : ops[i]? = some o) (hg : o.guard = none) (hr : (execOp a.eval o).run P w = .ok (.value v) w1) (hK : K (a.put o.dst v) w1) : wpOp P ops Q' i K a w := by
  unfold wpOp
  simp only [hi]
  rw [if_pos (by simp [Region.wanted, hg])]
  left
  unfold Oper.wp
  rw [hr, Oper.upon_value]
  exact hK
theorem Calls.ext_of {f : FuncId} {args : Array Value} {p : Ext w0} {v : Value} (h : Calls P f args p.x fun e w' => e = .returned v ∧ Below p.x.heap.size p.x w') :
    Calls P f args p.x fun e w'' => e = .returned v ∧ ∃ q : Ext w0, w'' = q.x := h.mono fun _ w' ⟨he, hb⟩ => ⟨he, ⟨w', p.h.trans (hb.mono p.h.size)⟩, rfl⟩
end
end Go.Proofs.YtlpchgoaoglhcaaDoor
namespace Go.Proofs.YtlpchgoaoglhcaaDoor
open Go.RowKit
/-- An operation that makes a block: its number, itself, the block. -/
structure Al where
  i : Nat
  o : Oper
  obj : Obj
section
variable {P : Program} {ops : Array Oper} {w0 : World}
theorem set_comm (s : Array Bool) (i j : Nat) : (s.setIfInBounds i true).setIfInBounds j true = (s.setIfInBounds j true).setIfInBounds i true := by
  by_cases h : i = j
  · subst h; rfl
  · exact Array.setIfInBounds_comm _ _ h
/-- The worlds in which these blocks lie as they were made. -/
def Dm (w0 : World) (done : List Al) (M : Nat → Nat) (w : World) : Prop := Below w0.heap.size w0 w ∧ (∀ x ∈ done, w0.heap.size ≤ M x.i ∧ w.heap[M x.i]? = some x.obj) ∧ (∀ x ∈ done, ∀ y ∈ done, x.i ≠ y.i → M x.i ≠ M y.i)
theorem Dm.step {done : List Al} {M : Nat → Nat} {w w' : World} (h : Dm w0 done M w) (hb : Below w.heap.size w w') : Dm w0 done M w' :=
  ⟨h.1.trans (hb.mono h.1.size), fun x hx => ⟨(h.2.1 x hx).1, by rw [hb.block _ (Array.getElem?_eq_some_iff.1 (h.2.1 x hx).2).1]; exact (h.2.1 x hx).2⟩, h.2.2⟩
/-- A statement whose order is fixed, by the same walk. -/
theorem wpList_of_up {Q : Exit → Act → World → Prop} {rest : List Oper} : ∀ (l : List Oper) (a : Act) (w : World), Below w0.heap.size w0 w → upW P ops w0 (fun a' => ∀ w', Below w0.heap.size w0 w' → wpList P ops Q rest a' w') l a → wpList P ops Q (l ++ rest) a w
  | [], _, w, hw, h => h w hw
  | o :: l, a, w, hw, h => by
    obtain ⟨v, hy, hr⟩ := h
    show if Region.wanted o (yielded ops a.tmps) then o.wp P a w (wpList P ops Q (l ++ rest)) Q ∨ (o.asks P a w ∧ LetsOut Q) else wpList P ops Q (l ++ rest) (a.put o.dst undef) w
    rcases hy.1 with ⟨h1, h2⟩ | ⟨h1, rfl⟩
    · rw [if_pos h1]
      left
      have hq : o.quiet P a (fun w' => Below w0.heap.size w0 w') (fun a' => a' = a.put o.dst v) := ⟨v, fun w' hw' => quietAt_mono (fun w2 hb => hw'.trans (hb.mono hw'.size)) (h2 ⟨w', hw'⟩), rfl⟩
      exact Oper.wp_of_quiet (C := fun w' => Below w0.heap.size w0 w') hw (fun a' w' hw' ha => by subst ha; exact wpList_of_up l _ w' hw' hr) hq
    · rw [if_neg (by rw [h1]; exact Bool.false_ne_true)]
      exact wpList_of_up l _ w hw hr
theorem wp_region_seq {id : Nat} {Q : Exit → Act → World → Prop} {a : Act} {w : World} {l : List Oper} (n : Nat)
    (h : upW P l.toArray w (fun a' => ∀ w', Below w.heap.size w w' → wpList P l.toArray Q (l.drop n) a' w') (l.take n) a) : (Code.region id l.toArray false).wp P Q a w := by
  refine wp_region_lit ?_
  have := wpList_of_up (rest := l.drop n) (l.take n) a w (Below.refl _ _) h
  rwa [List.take_append_drop] at this
end
end Go.Proofs.YtlpchgoaoglhcaaDoor
namespace Go.Proofs.YtlpchgoaoglhcaaDoor
open Go.RowKit
theorem below_setRow {B g : Nat} {u v : World} (h : Below B u v) (hg : B ≤ g) (cs : Array Value) : Below B u (v.setRow g cs) :=
  ⟨h.os, h.tape, h.output, by rw [setRow_size]; exact h.size, fun k hk => by rw [setRow_other _ _ _ _ (by omega)]; exact h.block k hk⟩
/-- A block that is made (by operation i, its address in slot d) and filled once (by operation j, with the value in slot v). -/
structure Sp where
  i : Nat
  o : Oper
  t : TypeId
  zero : Array Value
  d : Tmp
  j : Nat
  so : Oper
  ty : TypeId
  v : Tmp
  cs : Array Value
def pS (M : Nat → Nat) (x : Sp) (a : Act) : Act := a.put (some x.d) (.pointer (some ⟨M x.i, 0, none⟩))
def setI (l : List Sp) (s : Array Bool) : Array Bool := l.foldr (fun x s => s.setIfInBounds x.i true) s
def setJ (l : List Sp) (s : Array Bool) : Array Bool := l.foldr (fun x s => s.setIfInBounds x.j true) s
section
variable {P : Program} {ops : Array Oper} {w0 : World}
theorem setI_cons (x : Sp) (l : List Sp) (s : Array Bool) : setI (x :: l) s = (setI l s).setIfInBounds x.i true := rfl
theorem setJ_cons (x : Sp) (l : List Sp) (s : Array Bool) : setJ (x :: l) s = (setJ l s).setIfInBounds x.j true := rfl
theorem setI_set (l : List Sp) (s : Array Bool) (i : Nat) : setI l (s.setIfInBounds i true) = (setI l s).setIfInBounds i true := by
  induction l with
  | nil => rfl
  | cons x l ih => rw [setI_cons, setI_cons, ih, set_comm]
theorem setJ_set (l : List Sp) (s : Array Bool) (i : Nat) : setJ l (s.setIfInBounds i true) = (setJ l s).setIfInBounds i true := by
  induction l with
  | nil => rfl
  | cons x l ih => rw [setJ_cons, setJ_cons, ih, set_comm]
theorem setI_perm {l m : List Sp} (h : l.Perm m) (s : Array Bool) : setI l s = setI m s := by
  unfold setI
  exact h.foldr_eq' (fun x _ y _ z => set_comm z x.i y.i) s
theorem setJ_perm {l m : List Sp} (h : l.Perm m) (s : Array Bool) : setJ l s = setJ m s := by
  unfold setJ
  exact h.foldr_eq' (fun x _ y _ z => set_comm z x.j y.j) s
theorem ready_setI {i : Nat} {s : Array Bool} : ∀ (l : List Sp), i ∈ Region.ready .any ops s → (∀ x ∈ l, i ≠ x.i) → i ∈ Region.ready .any ops (setI l s)
  | [], h, _ => h
  | x :: l, h, hne => by
    rw [setI_cons]
    exact ready_mono (ready_setI l h (fun y hy => hne y (List.mem_cons_of_mem _ hy))) (hne x (List.mem_cons_self ..))
theorem ready_setJ {i : Nat} {s : Array Bool} : ∀ (l : List Sp), i ∈ Region.ready .any ops s → (∀ x ∈ l, i ≠ x.j) → i ∈ Region.ready .any ops (setJ l s)
  | [], h, _ => h
  | x :: l, h, hne => by
    rw [setJ_cons]
    exact ready_mono (ready_setJ l h (fun y hy => hne y (List.mem_cons_of_mem _ hy))) (hne x (List.mem_cons_self ..))
theorem listed_set {s : Array Bool} {i k : Nat} (h : (s.setIfInBounds i true).getD k true = false) : s.getD k true = false := by
  by_cases hik : i = k
  · subst hik
    rcases Nat.lt_or_ge i s.size with h' | h'
    · simp [h'] at h
    · simp [h'] at h
  · rwa [getD_set_ne true hik] at h
theorem listed_setI {s : Array Bool} {k : Nat} : ∀ l : List Sp, (setI l s).getD k true = false → s.getD k true = false
  | [], h => h
  | x :: l, h => by rw [setI_cons] at h; exact listed_setI l (listed_set h)
theorem listed_setJ {s : Array Bool} {k : Nat} : ∀ l : List Sp, (setJ l s).getD k true = false → s.getD k true = false
  | [], h => h
  | x :: l, h => by rw [setJ_cons] at h; exact listed_setJ l (listed_set h)
/-- Whatever comes up, so often. -/
def upT (P : Program) (ops : Array Oper) (w0 : World) (L : Array Bool → Act → Prop) : Nat → Array Bool → Act → Prop
  | 0, listed, a => L listed a
  | f + 1, listed, a => Region.ready .any ops listed ≠ [] ∧ ∀ i ∈ Region.ready .any ops listed, ∃ oi v, ops[i]? = some oi ∧ UpG P ops w0 oi v a ∧ upT P ops w0 L f (listed.setIfInBounds i true) (a.put oi.dst v)
theorem upT_first {L : Array Bool → Act → Prop} (hsel : ∀ (j : Nat) (o : Oper) cs b, ops[j]? = some o → o.op ≠ .select cs b) (hdone : ∀ listed a, L listed a → Region.ready .any ops listed = []) {i : Nat} {oi : Oper} {v : Value} (hi : ops[i]? = some oi) :
    ∀ (f : Nat) (listed : Array Bool) (a : Act),
      (∀ j oj, ops[j]? = some oj → j ≠ i → listed.getD j true = false → (∀ x ∈ oj.after, Region.binds .any x = true → x.on ≠ i) → oi.apart ops oj = true) →
      i ∈ Region.ready .any ops listed → UpG P ops w0 oi v a → upT P ops w0 L f (listed.setIfInBounds i true) (a.put oi.dst v) → upT P ops w0 L (f + 1) listed a := by
  intro f
  induction f with
  | zero =>
    intro listed a hfree hr hy H
    refine ⟨fun h => (by rw [h] at hr; cases hr), fun j hj => ?_⟩
    by_cases hji : j = i
    · subst hji; exact ⟨oi, v, hi, hy, H⟩
    · have := ready_mono hj hji
      rw [hdone _ _ H] at this
      cases this
  | succ f ih =>
    intro listed a hfree hr hy H
    have hun := (mem_ready.1 hr).1
    refine ⟨fun h => (by rw [h] at hr; cases hr), fun j hj => ?_⟩
    by_cases hji : j = i
    · subst hji; exact ⟨oi, v, hi, hy, H⟩
    · obtain ⟨oj, u, hoj, hyj, hrest⟩ := H.2 j (ready_mono hj hji)
      obtain ⟨hjun, oj', hoj', hall⟩ := mem_ready.1 hj
      obtain rfl : oj' = oj := Option.some.inj (hoj'.symm.trans hoj)
      have hnot : ∀ x ∈ oj'.after, Region.binds .any x = true → x.on ≠ i := fun x hx hb heq => by
        have h1 := hall x hx hb
        rw [heq, getD_both hun] at h1
        cases h1
      have hapj := hfree j oj' hoj hji hjun hnot
      obtain ⟨p1, p2, p3⟩ := Oper.apart_spec hapj
      have hyj' : UpG P ops w0 oj' u a := UpG.put hsel hoj hapj hyj
      have hyi' : UpG P ops w0 oi v (a.put oj'.dst u) := hy.of_same (execOp_put oi (fun cs b => hsel i oi cs b hi) a oj'.dst u p3) (wanted_put oi a oj'.dst u p3)
      have hfree' : ∀ k ok, ops[k]? = some ok → k ≠ i → (listed.setIfInBounds j true).getD k true = false →
          (∀ x ∈ ok.after, Region.binds .any x = true → x.on ≠ i) → oi.apart ops ok = true := fun k ok hk hki hunk hno => hfree k ok hk hki (listed_set hunk) hno
      refine ⟨oj', u, hoj, hyj', ih (listed.setIfInBounds j true) _ hfree' (ready_mono hr (Ne.symm hji)) hyi' ?_⟩
      rw [Array.setIfInBounds_comm _ _ hji, ← Act.put_comm a v u p2]
      exact hrest
def ixT (ops : Array Oper) : List Nat → Array Bool → Bool
  | [], listed => (Region.ready .any ops listed).isEmpty
  | i :: is, listed => (Region.ready .any ops listed).contains i && Region.free .any ops listed i && ixT ops is (listed.setIfInBounds i true)
theorem upT_lex {Lq : Act → Prop} (hsel : Region.noSelect ops = true) : ∀ (is : List Nat) (listed : Array Bool) (a : Act), ixT ops is listed = true → upIx P ops w0 Lq is a →
    upT P ops w0 (fun listed' a' => Region.ready .any ops listed' = [] ∧ Lq a') is.length listed a
  | [], listed, a, hB, h => ⟨by simpa [ixT] using hB, h⟩
  | i :: is, listed, a, hB, h => by
    simp only [ixT, Bool.and_eq_true] at hB
    obtain ⟨⟨hr, hf⟩, hB'⟩ := hB
    have hr' : i ∈ Region.ready .any ops listed := by simpa using hr
    obtain ⟨oi, v, ho, hy, hrest⟩ := h
    exact upT_first (Region.noSelect_spec hsel) (fun _ _ h => h.1) ho is.length listed a (Region.free_spec ho hf) hr' hy (upT_lex hsel is _ _ hB' hrest)
/-- What a slot holds whose operations are all done it holds at the end. -/
theorem upT_end {L : Array Bool → Act → Prop} {s : Tmp} : ∀ (f : Nat) (listed : Array Bool) (a : Act), (∀ j oj, ops[j]? = some oj → listed.getD j true = false → oj.dst ≠ some s) → upT P ops w0 L f listed a → ∃ listed' a', L listed' a' ∧ a'.tmps[s]? = a.tmps[s]?
  | 0, listed, a, _, h => ⟨listed, a, h, rfl⟩
  | f + 1, listed, a, hno, h => by
    obtain ⟨i, hi⟩ := List.exists_mem_of_ne_nil _ h.1
    obtain ⟨oi, v, ho, _, hrest⟩ := h.2 i hi
    obtain ⟨l', a', hL, he⟩ := upT_end f _ _ (fun j oj hj hun => hno j oj hj (listed_set hun)) hrest
    refine ⟨l', a', hL, he.trans ?_⟩
    have hne := hno i oi ho (mem_ready.1 hi).1
    unfold Act.put
    split
    · rename_i d hd
      have : d ≠ s := fun h1 => hne (by rw [hd, h1])
      simp [Array.getElem?_setIfInBounds_ne this]
    · rfl
def awayS (ops : Array Oper) (sps : List Sp) (oj : Oper) : Prop := ∀ x ∈ sps, x.d ∉ oj.looksAt ops ∧ oj.dst ≠ some x.d
theorem away_upS {j : Nat} {oj : Oper} {v : Value} {M : Nat → Nat} (hsel : Region.noSelect ops = true) (hoj : ops[j]? = some oj) : ∀ (l : List Sp) (a : Act), awayS ops l oj → UpG P ops w0 oj v a → UpG P ops w0 oj v (l.foldr (pS M) a)
  | [], _, _, h => h
  | x :: l, a, hw, h => by
    have ih := away_upS (M := M) hsel hoj l a (fun y hy => hw y (List.mem_cons_of_mem _ hy)) h
    obtain ⟨q1, _⟩ := hw x (List.mem_cons_self ..)
    have q : ∀ d, some x.d = some d → d ∉ oj.looksAt ops := fun d hd => by rw [← Option.some.inj hd]; exact q1
    exact ih.of_same (execOp_put oj (fun cs b => Region.noSelect_spec hsel j oj cs b hoj) _ _ _ q) (wanted_put oj _ _ _ q)
theorem away_putS {oj : Oper} {v : Value} {M : Nat → Nat} : ∀ (l : List Sp) (a : Act), awayS ops l oj → (l.foldr (pS M) a).put oj.dst v = l.foldr (pS M) (a.put oj.dst v)
  | [], _, _ => rfl
  | x :: l, a, hw => by
    have ih := away_putS (v := v) (M := M) l a (fun y hy => hw y (List.mem_cons_of_mem _ hy))
    obtain ⟨_, q2⟩ := hw x (List.mem_cons_self ..)
    simp only [List.foldr_cons]
    unfold pS at *
    rw [Act.put_comm _ _ v (fun d hd => by rw [← Option.some.inj hd]; exact q2), ih]
theorem pS_size (M : Nat → Nat) (x : Sp) (a : Act) : (pS M x a).tmps.size = a.tmps.size := by simp [pS, Act.put]
theorem pS_other (M : Nat → Nat) (x : Sp) (a : Act) (s : Tmp) (h : x.d ≠ s) : (pS M x a).tmps[s]? = a.tmps[s]? := by
  simp only [pS, Act.put]
  exact Array.getElem?_setIfInBounds_ne h
theorem pS_own (M : Nat → Nat) (x : Sp) (a : Act) (h : x.d < a.tmps.size) : (pS M x a).tmps[x.d]? = some (.pointer (some ⟨M x.i, 0, none⟩)) := by
  simp only [pS, Act.put]
  exact Array.getElem?_setIfInBounds_self_of_lt h
theorem foldr_size {M : Nat → Nat} (l : List Sp) (a : Act) : (l.foldr (pS M) a).tmps.size = a.tmps.size := by
  induction l with
  | nil => rfl
  | cons x l ih => rw [List.foldr_cons, pS_size, ih]
theorem foldr_other {M : Nat → Nat} {s : Tmp} (l : List Sp) (a : Act) (h : ∀ x ∈ l, x.d ≠ s) : (l.foldr (pS M) a).tmps[s]? = a.tmps[s]? := by
  induction l with
  | nil => rfl
  | cons x l ih => rw [List.foldr_cons, pS_other M x _ s (h x (List.mem_cons_self ..)), ih (fun y hy => h y (List.mem_cons_of_mem _ hy))]
theorem foldr_own {M : Nat → Nat} {x : Sp} (l : List Sp) (a : Act) (hx : x ∈ l) (hd : ∀ y ∈ l, y.d = x.d → y.i = x.i) (hs : x.d < a.tmps.size) : (l.foldr (pS M) a).tmps[x.d]? = some (.pointer (some ⟨M x.i, 0, none⟩)) := by
  induction l with
  | nil => cases hx
  | cons y l ih =>
    rw [List.foldr_cons]
    by_cases hyx : y.d = x.d
    · have hyi := hd y (List.mem_cons_self ..) hyx
      have := pS_own M y (l.foldr (pS M) a) (by rw [foldr_size, hyx]; exact hs)
      rw [hyx, hyi] at this
      exact this
    · have hxl : x ∈ l := by
        rcases List.mem_cons.1 hx with rfl | h1
        · exact absurd rfl hyx
        · exact h1
      rw [pS_other M y _ _ hyx]
      exact ih hxl (fun z hz => hd z (List.mem_cons_of_mem _ hz))
theorem foldr_congrS {M N : Nat → Nat} (l : List Sp) (a : Act) (h : ∀ x ∈ l, M x.i = N x.i) : l.foldr (pS M) a = l.foldr (pS N) a := by
  induction l with
  | nil => rfl
  | cons x l ih =>
    simp only [List.foldr_cons]
    rw [ih (fun y hy => h y (List.mem_cons_of_mem _ hy))]
    unfold pS
    rw [h x (List.mem_cons_self ..)]
/-- The worlds in which the blocks lie, filled or not. -/
def Dw (w0 : World) (A : List Sp) (M : Nat → Nat) (S : Nat → Bool) (w : World) : Prop :=
  Below w0.heap.size w0 w ∧ (∀ x ∈ A, w0.heap.size ≤ M x.i ∧ w.heap[M x.i]? = some (.cells (if S x.i = true then x.cs else x.zero) x.t (0, 0))) ∧ (∀ x ∈ A, ∀ y ∈ A, x.i ≠ y.i → M x.i ≠ M y.i)
theorem Dw.step {A : List Sp} {M : Nat → Nat} {S : Nat → Bool} {w w' : World} (h : Dw w0 A M S w) (hb : Below w.heap.size w w') : Dw w0 A M S w' :=
  ⟨h.1.trans (hb.mono h.1.size), fun x hx => ⟨(h.2.1 x hx).1, by rw [hb.block _ (Array.getElem?_eq_some_iff.1 (h.2.1 x hx).2).1]; exact (h.2.1 x hx).2⟩, h.2.2⟩
/-- What is asked of the blocks' operations. -/
structure SpOk (P : Program) (ops : Array Oper) (Q' : Exit → Act → World → Prop) (sps : List Sp) (sz : Nat) : Prop where
  ii : ∀ x ∈ sps, ∀ y ∈ sps, x.i = y.i → x = y
  jj : ∀ x ∈ sps, ∀ y ∈ sps, x.j = y.j → x = y
  ij : ∀ x ∈ sps, ∀ y ∈ sps, x.i ≠ y.j
  dd : ∀ x ∈ sps, ∀ y ∈ sps, x.d = y.d → x.i = y.i
  dv : ∀ x ∈ sps, ∀ y ∈ sps, x.d ≠ y.v
  lt : ∀ x ∈ sps, x.i < ops.size ∧ x.j < ops.size ∧ x.d < sz
  alloc : ∀ x ∈ sps, ∀ (a : Act) (w : World) (K : Act → World → Prop), K (a.put (some x.d) (.pointer (some ⟨w.heap.size, 0, none⟩))) (w.alloc (.cells x.zero x.t)) → wpOp P ops Q' x.i K a w
  rdy : ∀ x ∈ sps, ∀ listed : Array Bool, listed.getD x.i true = false → x.i ∈ Region.ready .any ops listed
  store : ∀ x ∈ sps, ops[x.j]? = some x.so ∧ x.so.guard = none ∧ x.so.dst = none ∧ x.so.op = .store x.ty (.tmp x.d) (.tmp x.v) ∧ (P.info? x.ty).map (·.size) = some x.cs.size ∧ x.zero.size = x.cs.size ∧ x.cs.all (·.oneCell') = true
  waits : ∀ x ∈ sps, Region.waitsFor .any ops x.j x.i = true ∧ ∀ p op, ops[p]? = some op → op.dst = some x.v → Region.waitsFor .any ops x.j p = true
  down : ∀ j oj, ops[j]? = some oj → ∀ b ∈ oj.after, Region.binds .any b = true → b.on < j
  away : ∀ j oj, ops[j]? = some oj → (∀ x ∈ sps, j ≠ x.i ∧ j ≠ x.j) → awayS ops sps oj
theorem waits_listed {j p : Nat} {listed : Array Bool} (hw : Region.waitsFor .any ops j p = true) (hj : j ∈ Region.ready .any ops listed) : listed.getD p true = true := by
  obtain ⟨o, ho, b, hb, hbi, hon⟩ := Region.waitsFor_spec hw
  obtain ⟨_, o', ho', hall⟩ := mem_ready.1 hj
  obtain rfl : o' = o := Option.some.inj (ho'.symm.trans ho)
  have h1 := hall b hb hbi
  rw [hon] at h1
  cases h2 : listed.getD p true with
  | true => rfl
  | false => rw [getD_both h2] at h1; cases h1
theorem ready_some (hdown : ∀ j oj, ops[j]? = some oj → ∀ b ∈ oj.after, Region.binds .any b = true → b.on < j) {listed : Array Bool} (hsz : listed.size = ops.size) : ∀ k, k < ops.size → listed.getD k true = false → Region.ready .any ops listed ≠ [] := by
  intro k
  induction k using Nat.strongRecOn with
  | ind k ih =>
    intro hk hun hnil
    have ho : ops[k]? = some ops[k] := Array.getElem?_eq_getElem hk
    by_cases hall : ∀ b ∈ ops[k].after, Region.binds .any b = true → listed.getD b.on false = true
    · have : k ∈ Region.ready .any ops listed := mem_ready.2 ⟨hun, _, ho, hall⟩
      rw [hnil] at this
      cases this
    · have : ∃ b, b ∈ ops[k].after ∧ Region.binds .any b = true ∧ listed.getD b.on false = false := by
        apply Classical.byContradiction
        intro hno
        exact hall fun b hb hbi => by
          cases h : listed.getD b.on false with
          | true => rfl
          | false => exact absurd ⟨b, hb, hbi, h⟩ hno
      obtain ⟨b, hb, hbi, hf⟩ := this
      have hlt := hdown k _ ho b hb hbi
      exact ih b.on hlt (by omega) (getD_in (by omega) hf) hnil
theorem wpAny_whole {sps : List Sp} {sz : Nat} {Lq : Act → Prop} {Q' : Exit → Act → World → Prop} (hsel : Region.noSelect ops = true) (ok : SpOk P ops Q' sps sz)
    (hcs : ∀ a, Lq a → ∀ x ∈ sps, a.tmps[x.v]? = some (.agg x.cs))
    (hL : ∀ A M S a w, A.Perm sps → (∀ x ∈ sps, S x.i = true) → Dw w0 A M S w → Lq a → Q' .normal (A.foldr (pS M) a) w) :
    ∀ (m : Nat) (f : Nat) (pa ps A : List Sp) (M : Nat → Nat) (S : Nat → Bool) (listed : Array Bool) (a : Act) (w : World), m = f + pa.length + ps.length → (pa ++ A).Perm sps → (pa ++ A).Nodup → ps.Nodup → (∀ x ∈ ps, x ∈ sps) → (∀ x ∈ pa, x ∈ ps) → (∀ x ∈ sps, S x.i = true ↔ x ∉ ps) →
      Dw w0 A M S w → listed.size = ops.size → a.tmps.size = sz → (∀ x ∈ pa, listed.getD x.i true = false) → (∀ x ∈ A, listed.getD x.i true = true) → (∀ x ∈ ps, listed.getD x.j true = false) → (∀ x ∈ sps, x ∉ ps → listed.getD x.j true = true) →
      upT P ops w0 (fun listed' a' => Region.ready .any ops listed' = [] ∧ Lq a') f (setJ ps (setI pa listed)) a → wpAny P .any ops Q' m listed (A.foldr (pS M) a) w := by
  intro m
  induction m with
  | zero =>
    intro f pa ps A M S listed a w hm hperm hnd hpn hsub hpas hS hD hsz hasz hpu hdu hju hjd h
    obtain rfl : f = 0 := by omega
    obtain rfl : pa = [] := List.eq_nil_of_length_eq_zero (by omega)
    obtain rfl : ps = [] := List.eq_nil_of_length_eq_zero (by omega)
    exact ⟨h.1, hL A M S a w (by simpa using hperm) (fun x hx => (hS x hx).2 (by simp)) hD h.2⟩
  | succ m ih =>
    intro f pa ps A M S listed a w hm hperm hnd hpn hsub hpas hS hD hsz hasz hpu hdu hju hjd h
    have hin : ∀ x, x ∈ pa ++ A → x ∈ sps := fun x hx => hperm.mem_iff.1 hx
    have hmem : ∀ x ∈ sps, x ∈ pa ∨ x ∈ A := fun x hx => by simpa using hperm.mem_iff.2 hx
    -- a step of another operation
    have other : ∀ i oi v (f' : Nat), f = f' + 1 → i ∈ Region.ready .any ops listed → (∀ x ∈ sps, i ≠ x.i ∧ i ≠ x.j) → ops[i]? = some oi → UpG P ops w0 oi v a → upT P ops w0 (fun listed' a' => Region.ready .any ops listed' = [] ∧ Lq a') f' ((setJ ps (setI pa listed)).setIfInBounds i true) (a.put oi.dst v) →
        wpOp P ops Q' i (wpAny P .any ops Q' m (listed.setIfInBounds i true)) (A.foldr (pS M) a) w := by
      intro i oi v f' hf hi hne ho hy hrest
      have haway : awayS ops A oi := fun x hx => ok.away i oi ho hne x (hin x (by simp [hx]))
      have hq : qOp P ops (Dw w0 A M S) i (fun a' => a' = (A.foldr (pS M) a).put oi.dst v) (A.foldr (pS M) a) := ((away_upS hsel ho A a haway hy).yields (fun _ h => h.1) (fun w1 w2 h1 h2 => h1.step h2)).qOp ho rfl
      refine wpOp_of_qOp hD (fun a' w' hw' ha => ?_) hq
      subst ha
      rw [away_putS A a haway]
      refine ih f' pa ps A M S _ _ w' (by omega) hperm hnd hpn hsub hpas hS hw' (by simpa using hsz) ?_ (fun x hx => ?_) (fun x hx => ?_) (fun x hx => ?_) (fun x hx hnx => ?_) (by rw [setI_set, setJ_set]; exact hrest)
      · unfold Act.put; split
        · simpa using hasz
        · exact hasz
      · rw [getD_set_ne true (hne x (hin x (by simp [hx]))).1]; exact hpu x hx
      · rw [getD_set_ne true (hne x (hin x (by simp [hx]))).1]; exact hdu x hx
      · rw [getD_set_ne true (hne x (hsub x hx)).2]; exact hju x hx
      · rw [getD_set_ne true (hne x hx).2]; exact hjd x hx hnx
    -- something comes up
    have hsome : Region.ready .any ops listed ≠ [] := by
      by_cases hp : pa = []
      · by_cases hq : ps = []
        · subst hp hq
          cases f with
          | zero => simp at hm
          | succ f => exact h.1
        · obtain ⟨x, hx⟩ := List.exists_mem_of_ne_nil _ hq
          exact ready_some ok.down hsz x.j (ok.lt x (hsub x hx)).2.1 (hju x hx)
      · obtain ⟨x, hx⟩ := List.exists_mem_of_ne_nil _ hp
        exact ready_some ok.down hsz x.i (ok.lt x (hin x (by simp [hx]))).1 (hpu x hx)
    refine ⟨fun h0 => absurd h0 hsome, fun i hi => ?_⟩
    by_cases hia : ∃ x ∈ sps, i = x.i
    · obtain ⟨x, hxa, rfl⟩ := hia
      have hxp : x ∈ pa := by
        rcases hmem x hxa with h1 | h1
        · exact h1
        · have h2 := hdu x h1; rw [(mem_ready.1 hi).1] at h2; cases h2
      obtain ⟨l1, l2, hl⟩ := List.append_of_mem hxp
      have hpp : pa.Perm (x :: (l1 ++ l2)) := by rw [hl]; exact List.perm_middle
      have hxd : x ∉ A := fun h1 => by
        have := (List.nodup_append.1 hnd).2.2 x hxp x h1
        exact this rfl
      have hne : ∀ y ∈ A, y.i ≠ x.i := fun y hy h1 => by
        have := ok.ii y (hin y (by simp [hy])) x hxa h1
        subst this
        exact hxd hy
      have hSx : ¬ S x.i = true := fun h1 => (hS x hxa).1 h1 (hpas x hxp)
      refine ok.alloc x hxa _ w _ ?_
      have hD2 : Dw w0 (x :: A) (fun j => if j = x.i then w.heap.size else M j) S (w.alloc (.cells x.zero x.t)) := by
        have hb : Below w.heap.size w (w.alloc (.cells x.zero x.t)) := (Below.refl _ w).alloc (Nat.le_refl _) _
        have hst := hD.step hb
        refine ⟨hst.1, fun y hy => ?_, fun y hy z hz hyz => ?_⟩
        · rcases List.mem_cons.1 hy with rfl | hy
          · simp only [if_true, if_neg hSx]
            exact ⟨hD.1.size, Go.heap_alloc_new _ _⟩
          · simp only [if_neg (hne y hy)]
            exact hst.2.1 y hy
        · have low : ∀ y ∈ A, M y.i < w.heap.size := fun y hy => (Array.getElem?_eq_some_iff.1 (hD.2.1 y hy).2).1
          rcases List.mem_cons.1 hy with hy1 | hy1
          · rcases List.mem_cons.1 hz with hz1 | hz1
            · exact absurd (by rw [hy1, hz1]) hyz
            · rw [hy1]
              simp only [if_true, if_neg (hne z hz1)]
              have := low z hz1; omega
          · rcases List.mem_cons.1 hz with hz1 | hz1
            · rw [hz1]
              simp only [if_true, if_neg (hne y hy1)]
              have := low y hy1; omega
            · simp only [if_neg (hne y hy1), if_neg (hne z hz1)]
              exact hD.2.2 y hy1 z hz1 hyz
      have hE : (A.foldr (pS M) a).put (some x.d) (.pointer (some ⟨w.heap.size, 0, none⟩)) = (x :: A).foldr (pS (fun j => if j = x.i then w.heap.size else M j)) a := by
        simp only [List.foldr_cons]
        rw [foldr_congrS (M := fun j => if j = x.i then w.heap.size else M j) (N := M) A a (fun y hy => by simp [hne y hy])]
        unfold pS
        simp
      rw [hE]
      have hperm2 : ((l1 ++ l2) ++ (x :: A)).Perm (pa ++ A) := by
        refine List.perm_middle.trans ?_
        exact (hpp.symm.append_right A)
      have hyp : ∀ y, y ∈ l1 ++ l2 → y ∈ pa := fun y hy => by rw [hl]; simp only [List.mem_append, List.mem_cons] at hy ⊢; rcases hy with h1 | h1 <;> simp [h1]
      refine ih f (l1 ++ l2) ps (x :: A) _ S _ a _ ?_ (hperm2.trans hperm) (hperm2.nodup_iff.2 hnd) hpn hsub (fun y hy => hpas y (hyp y hy)) hS hD2 (by simpa using hsz) hasz (fun y hy => ?_) (fun y hy => ?_) (fun y hy => ?_) (fun y hy hny => ?_) ?_
      · have := hpp.length_eq
        simp only [List.length_cons] at this
        omega
      · have hyx : x.i ≠ y.i := fun h1 => by
          have := ok.ii x hxa y (hin y (by simp [hyp y hy])) h1
          subst this
          have hnd2 := hpp.nodup_iff.1 (List.nodup_append.1 hnd).1
          exact (List.nodup_cons.1 hnd2).1 hy
        rw [getD_set_ne true hyx]; exact hpu y (hyp y hy)
      · have hxlt := (ok.lt x hxa).1
        rcases List.mem_cons.1 hy with rfl | hy
        · simp [hsz, hxlt]
        · by_cases hyx : x.i = y.i
          · rw [← hyx]
            simp [hsz, hxlt]
          · rw [getD_set_ne true hyx]; exact hdu y hy
      · rw [getD_set_ne true (ok.ij x hxa y (hsub y hy))]; exact hju y hy
      · rw [getD_set_ne true (ok.ij x hxa y hy)]; exact hjd y hy hny
      · rw [setI_set, ← setI_cons, ← setI_perm hpp]
        exact h
    · by_cases hja : ∃ x ∈ sps, i = x.j
      · obtain ⟨x, hxa, rfl⟩ := hja
        have hxp : x ∈ ps := by
          apply Classical.byContradiction
          intro hno
          have h2 := hjd x hxa hno
          rw [(mem_ready.1 hi).1] at h2
          cases h2
        obtain ⟨hw1, hw2⟩ := ok.waits x hxa
        have hxA : x ∈ A := by
          rcases hmem x hxa with h1 | h1
          · have h2 := waits_listed hw1 hi; rw [hpu x h1] at h2; cases h2
          · exact h1
        obtain ⟨ho, hg, hdst, hop, hinf, hzc, hone⟩ := ok.store x hxa
        -- the value
        obtain ⟨l', a', hLa, hend⟩ := upT_end (s := x.v) f _ a (fun p op hp hun hdp => by
          have h1 := waits_listed (hw2 p op hp hdp) hi
          rw [listed_setI pa (listed_setJ ps hun)] at h1
          cases h1) h
        have hval : (A.foldr (pS M) a).eval (.tmp x.v) = .agg x.cs := by
          have h1 := foldr_other (M := M) (s := x.v) A a (fun y hy => ok.dv y (hin y (by simp [hy])) x hxa)
          have h2 := hcs a' hLa.2 x hxa
          rw [hend] at h2
          show (A.foldr (pS M) a).tmps.getD x.v undef = _
          rw [Array.getD_eq_getD_getElem?, h1, h2]
          rfl
        have hptr : (A.foldr (pS M) a).eval (.tmp x.d) = .pointer (some ⟨M x.i, 0, none⟩) := by
          have h1 := foldr_own (M := M) (x := x) A a hxA (fun y hy hyd => ok.dd y (hin y (by simp [hy])) x hxa hyd) (by rw [hasz]; exact (ok.lt x hxa).2.2)
          show (A.foldr (pS M) a).tmps.getD x.d undef = _
          rw [Array.getD_eq_getD_getElem?, h1]
          rfl
        have hblk := hD.2.1 x hxA
        have hSx : ¬ S x.i = true := fun h1 => (hS x hxa).1 h1 hxp
        rw [if_neg hSx] at hblk
        unfold wpOp
        simp only [ho]
        rw [if_pos (by simp [Region.wanted, hg])]
        left
        refine wp_store_row x.ty _ _ hop (M x.i) x.cs hptr hval x.t x.zero hblk.2 hinf hzc hone ?_
        rw [hdst]
        show wpAny P .any ops Q' m (listed.setIfInBounds x.j true) (A.foldr (pS M) a) _
        obtain ⟨l1, l2, hl⟩ := List.append_of_mem hxp
        have hpp : ps.Perm (x :: (l1 ++ l2)) := by rw [hl]; exact List.perm_middle
        have hnd2 := hpp.nodup_iff.1 hpn
        have hyp : ∀ y, y ∈ l1 ++ l2 → y ∈ ps := fun y hy => by rw [hl]; simp only [List.mem_append, List.mem_cons] at hy ⊢; rcases hy with h1 | h1 <;> simp [h1]
        have hpx : ∀ y, y ∈ ps ↔ y = x ∨ y ∈ l1 ++ l2 := fun y => by rw [hpp.mem_iff, List.mem_cons]
        have hxn : x ∉ l1 ++ l2 := (List.nodup_cons.1 hnd2).1
        refine ih f pa (l1 ++ l2) A M (fun k => if k = x.i then true else S k) _ a _ ?_ hperm hnd (List.nodup_cons.1 hnd2).2 (fun y hy => hsub y (hyp y hy)) (fun y hy => ?_) (fun y hy => ?_) ?_ (by simpa using hsz) hasz (fun y hy => ?_) (fun y hy => ?_) (fun y hy => ?_) (fun y hy hny => ?_) ?_
        · have := hpp.length_eq
          simp only [List.length_cons] at this
          omega
        · rcases (hpx y).1 (hpas y hy) with rfl | h1
          · have h2 := (List.nodup_append.1 hnd).2.2 y hy y hxA
            exact absurd rfl h2
          · exact h1
        · by_cases hyx : y.i = x.i
          · have := ok.ii y hy x hxa hyx
            subst this
            simp [hxn]
          · have h1 := hS y hy
            rw [hpx y] at h1
            have hyne : y ≠ x := fun h2 => hyx (by rw [h2])
            simp only [if_neg hyx, h1, hyne, false_or]
        · refine ⟨below_setRow hD.1 hblk.1 _, fun y hy => ?_, hD.2.2⟩
          by_cases hyx : y.i = x.i
          · have := ok.ii y (hin y (by simp [hy])) x hxa hyx
            subst this
            simp only [if_true]
            exact ⟨hblk.1, setRow_heap _ _ _ _ _ _ hblk.2⟩
          · simp only [if_neg hyx]
            have h1 := hD.2.1 y hy
            refine ⟨h1.1, ?_⟩
            rw [setRow_other _ _ _ _ (hD.2.2 y hy x hxA hyx)]
            exact h1.2
        · rw [getD_set_ne true (fun h1 => ok.ij y (hin y (by simp [hy])) x hxa h1.symm)]; exact hpu y hy
        · by_cases hyx : x.j = y.i
          · exact absurd hyx.symm (ok.ij y (hin y (by simp [hy])) x hxa)
          · rw [getD_set_ne true hyx]; exact hdu y hy
        · have hyx : x.j ≠ y.j := fun h1 => by
            have := ok.jj x hxa y (hsub y (hyp y hy)) h1
            subst this
            exact hxn hy
          rw [getD_set_ne true hyx]; exact hju y (hyp y hy)
        · by_cases hyx : x.j = y.j
          · rw [← hyx]
            simp [hsz, (ok.lt x hxa).2.1]
          · rw [getD_set_ne true hyx]
            exact hjd y hy (fun h1 => by
              rcases (hpx y).1 h1 with rfl | h2
              · exact hyx rfl
              · exact hny h2)
        · rw [setI_set, setJ_set, ← setJ_cons, ← setJ_perm hpp]
          exact h
      · have hne : ∀ x ∈ sps, i ≠ x.i ∧ i ≠ x.j := fun x hx => ⟨fun h1 => hia ⟨x, hx, h1⟩, fun h1 => hja ⟨x, hx, h1⟩⟩
        have hi' := ready_setJ ps (ready_setI pa hi (fun x hx => (hne x (hin x (by simp [hx]))).1)) (fun x hx => (hne x (hsub x hx)).2)
        cases f with
        | zero => rw [h.1] at hi'; cases hi'
        | succ f =>
          obtain ⟨oi, v, ho, hy, hrest⟩ := h.2 i hi'
          exact other i oi v f rfl hi hne ho hy hrest
def spB (ops : Array Oper) (sps : List Sp) (sz : Nat) (is : List Nat) : Bool :=
  Region.noSelect ops && ixT ops is (setJ sps (setI sps (Array.replicate ops.size false))) && decide (is.length + sps.length + sps.length = ops.size) && decide ((sps.map (·.i)).Nodup) && decide ((sps.map (·.j)).Nodup) &&
  (sps.all fun x => sps.all fun y => decide (x.i ≠ y.j) && decide (x.d ≠ y.v) && (decide (x.d ≠ y.d) || decide (x.i = y.i))) &&
  (sps.all fun x => decide (x.i < ops.size) && decide (x.j < ops.size) && decide (x.d < sz) && x.o.after.all (fun b => !Region.binds .any b) && Region.waitsFor .any ops x.j x.i &&
    (List.range ops.size).all fun p => (match ops[p]? with | some op => decide (op.dst ≠ some x.v) || Region.waitsFor .any ops x.j p | none => true)) &&
  ((List.range ops.size).all fun j => match ops[j]? with
    | some oj => (oj.after.all fun b => !Region.binds .any b || decide (b.on < j)) && (sps.any (fun x => j == x.i || j == x.j) || sps.all fun x => !(oj.looksAt ops).contains x.d && decide (oj.dst ≠ some x.d))
    | none => true)
theorem nodup_inj {g : Sp → Nat} {l : List Sp} (h : (l.map g).Nodup) {x y : Sp} (hx : x ∈ l) (hy : y ∈ l) (hxy : g x = g y) : x = y := by
  induction l with
  | nil => cases hx
  | cons z l ih =>
    rw [List.map_cons, List.nodup_cons] at h
    rcases List.mem_cons.1 hx with hx1 | hx1
    · rcases List.mem_cons.1 hy with hy1 | hy1
      · exact hx1.trans hy1.symm
      · exact absurd (List.mem_map.2 ⟨y, hy1, by rw [← hxy, hx1]⟩) h.1
    · rcases List.mem_cons.1 hy with hy1 | hy1
      · exact absurd (List.mem_map.2 ⟨x, hx1, by rw [hxy, hy1]⟩) h.1
      · exact ih h.2 hx1 hy1
/-- A whole statement. -/
theorem wp_region_whole {id : Nat} {Q : Exit → Act → World → Prop} {a : Act} {w : World} {l : List Oper} (is : List Nat) (sps : List Sp) (er : List Nat) (hm : P.follows .mixedOrders = true) (hB : spB l.toArray sps a.tmps.size is = true)
    (hrun : ∀ x ∈ sps, (l.toArray[x.i]? = some x.o ∧ x.o.guard = none ∧ x.o.dst = some x.d ∧ ∀ (a : Act) w, (execOp a.eval x.o).run P w = .ok (.value (.pointer (some ⟨w.heap.size, 0, none⟩))) (w.alloc (.cells x.zero x.t))) ∧
      l.toArray[x.j]? = some x.so ∧ x.so.guard = none ∧ x.so.dst = none ∧ x.so.op = .store x.ty (.tmp x.d) (.tmp x.v) ∧ (P.info? x.ty).map (·.size) = some x.cs.size ∧ x.zero.size = x.cs.size ∧ x.cs.all (·.oneCell') = true)
    (his : is.map (fun i => l.toArray[i]?) = (er.foldl (fun l i => l.eraseIdx i) l).map some)
    (hw : upW P l.toArray w (fun a' => (∀ x ∈ sps, a'.tmps[x.v]? = some (.agg x.cs)) ∧ ∀ (M : Nat → Nat) w', (∀ x ∈ sps, w.heap.size ≤ M x.i ∧ w'.heap[M x.i]? = some (.cells x.cs x.t (0, 0))) → (∀ x ∈ sps, ∀ y ∈ sps, x.i ≠ y.i → M x.i ≠ M y.i) → Below w.heap.size w w' → Q .normal (sps.foldr (pS M) a') w') (er.foldl (fun l i => l.eraseIdx i) l) a) : (Code.region id l.toArray true).wp P Q a w := by
  have h := upIx_of_W is _ a his hw
  simp only [spB, Bool.and_eq_true, decide_eq_true_eq] at hB
  obtain ⟨⟨⟨⟨⟨⟨⟨hsel, hix⟩, hlen⟩, hni⟩, hnj⟩, hxy⟩, hone⟩, hops⟩ := hB
  have H := upT_lex hsel is _ a hix h
  have hxy2 : ∀ x ∈ sps, ∀ y ∈ sps, x.i ≠ y.j ∧ x.d ≠ y.v ∧ (x.d = y.d → x.i = y.i) := fun x hx y hy => by
    have h1 := List.all_eq_true.1 (List.all_eq_true.1 hxy x hx) y hy
    simp only [Bool.and_eq_true, decide_eq_true_eq, Bool.or_eq_true] at h1
    exact ⟨h1.1.1, h1.1.2, fun hd => h1.2.resolve_left (fun h2 => h2 hd)⟩
  have hone2 : ∀ x ∈ sps, x.i < l.toArray.size ∧ x.j < l.toArray.size ∧ x.d < a.tmps.size ∧ (∀ b ∈ x.o.after, Region.binds .any b = false) ∧ Region.waitsFor .any l.toArray x.j x.i = true ∧ ∀ p op, l.toArray[p]? = some op → op.dst = some x.v → Region.waitsFor .any l.toArray x.j p = true := fun x hx => by
    have h1 := List.all_eq_true.1 hone x hx
    simp only [Bool.and_eq_true, decide_eq_true_eq] at h1
    obtain ⟨⟨⟨⟨⟨h2, h3⟩, h4⟩, h5⟩, h6⟩, h7⟩ := h1
    refine ⟨h2, h3, h4, fun b hb => by simpa using Array.all_eq_true_iff_forall_mem.1 h5 b hb, h6, fun p op hp hd => ?_⟩
    have h8 := List.all_eq_true.1 h7 p (List.mem_range.2 (Array.getElem?_eq_some_iff.1 hp).1)
    rw [hp] at h8
    simpa [hd] using h8
  have ok : SpOk P l.toArray Q sps a.tmps.size := by
    refine ⟨fun x hx y hy he => nodup_inj hni hx hy he, fun x hx y hy he => nodup_inj hnj hx hy he, fun x hx y hy => (hxy2 x hx y hy).1, fun x hx y hy => (hxy2 x hx y hy).2.2, fun x hx y hy => (hxy2 x hx y hy).2.1, fun x hx => ⟨(hone2 x hx).1, (hone2 x hx).2.1, (hone2 x hx).2.2.1⟩, fun x hx a w K hK => ?_, fun x hx listed hun => ?_, fun x hx => (hrun x hx).2, fun x hx => (hone2 x hx).2.2.2.2, fun j oj hj b hb hbi => ?_, fun j oj hj hne x hx => ?_⟩
    · obtain ⟨⟨h1, h2, h3, h4⟩, _⟩ := hrun x hx
      exact wpOp_of_run h1 h2 (h4 a w) (by rw [h3]; exact hK)
    · exact mem_ready.2 ⟨hun, x.o, (hrun x hx).1.1, fun b hb hbi => by rw [(hone2 x hx).2.2.2.1 b hb] at hbi; cases hbi⟩
    · have h1 := List.all_eq_true.1 hops j (List.mem_range.2 (Array.getElem?_eq_some_iff.1 hj).1)
      rw [hj] at h1
      simp only [Bool.and_eq_true] at h1
      have h2 := Array.all_eq_true_iff_forall_mem.1 h1.1 b hb
      rw [hbi] at h2
      simpa using h2
    · have h1 := List.all_eq_true.1 hops j (List.mem_range.2 (Array.getElem?_eq_some_iff.1 hj).1)
      rw [hj] at h1
      simp only [Bool.and_eq_true, Bool.or_eq_true] at h1
      rcases h1.2 with h2 | h2
      · obtain ⟨y, hy, h3⟩ := List.any_eq_true.1 h2
        simp only [Bool.or_eq_true, beq_iff_eq] at h3
        rcases h3 with h3 | h3
        · exact absurd h3 (hne y hy).1
        · exact absurd h3 (hne y hy).2
      · have h3 := List.all_eq_true.1 h2 x hx
        simp only [Bool.and_eq_true, decide_eq_true_eq, Bool.not_eq_true', ] at h3
        exact ⟨fun h4 => (by have h5 := List.contains_iff_mem.2 h4; rw [h3.1] at h5; cases h5), h3.2⟩
  have hfalse : ∀ k, k < l.toArray.size → (Array.replicate l.toArray.size false).getD k true = false := fun k hk => getD_in (by rw [Array.size_replicate]; exact hk) (getD_replicate_false _ _)
  refine wp_region_any hm ?_
  have := wpAny_whole (Q' := Q) hsel ok (fun a' h x hx => h.1 x hx) (fun A M S a' w' hperm hS hD hLq => by
      have hE : A.foldr (pS M) a' = sps.foldr (pS M) a' := hperm.foldr_eq' (fun x hx y hy z => by
        by_cases hxy : x.i = y.i
        · rw [nodup_inj hni (hperm.mem_iff.1 hx) (hperm.mem_iff.1 hy) hxy]
        · exact Act.put_comm _ _ _ (fun d hd h2 => hxy ((hxy2 x (hperm.mem_iff.1 hx) y (hperm.mem_iff.1 hy)).2.2 ((Option.some.inj hd).trans (Option.some.inj h2).symm)))) a'
      rw [hE]
      refine hLq.2 M w' (fun x hx => ?_) (fun x hx y hy => hD.2.2 x (hperm.mem_iff.2 hx) y (hperm.mem_iff.2 hy)) hD.1
      have h1 := hD.2.1 x (hperm.mem_iff.2 hx)
      rw [if_pos (hS x hx)] at h1
      exact h1) (is.length + sps.length + sps.length) is.length sps sps [] (fun _ => 0) (fun _ => false) (Array.replicate l.toArray.size false) a { w with drawn := w.drawn + 1 } rfl (by simp) (by
        rw [List.append_nil]
        exact (List.pairwise_map.1 hni).imp (fun {x y} hxy h1 => hxy (by rw [h1]))) ((List.pairwise_map.1 hni).imp (fun {x y} hxy h1 => hxy (by rw [h1]))) (fun x hx => hx) (fun x hx => hx) (fun x hx => by simp [hx]) ⟨(Below.refl _ w).drew, fun x hx => (by cases hx), fun x hx => (by cases hx)⟩ (by rw [Array.size_replicate]) rfl (fun x hx => hfalse _ (hone2 x hx).1) (fun x hx => (by cases hx)) (fun x hx => hfalse _ (hone2 x hx).2.1) (fun x hx hnx => absurd hx hnx) H
  rw [hlen] at this
  exact this
end
end Go.Proofs.YtlpchgoaoglhcaaDoor
namespace Go.Proofs.YtlpchgoaoglhcaaDoor
open Go.RowKit
abbrev Row3 := Option Nat × List Nat × List Nat
/-- What an operation writes, looks at, waits for. -/
def rowOf (ops : Array Oper) (o : Oper) : Row3 := (o.dst, o.looksAt ops, (o.after.toList.filter (Region.binds .any)).map (·.on))
def memN (d : Nat) : List Nat → Bool
  | [] => false
  | x :: l => Nat.beq d x || memN d l
theorem memN_iff (d : Nat) : ∀ l : List Nat, memN d l = true ↔ d ∈ l
  | [] => by simp [memN]
  | x :: l => by rw [memN, Bool.or_eq_true, memN_iff d l, Nat.beq_eq, List.mem_cons]
def apT (r q : Row3) : Bool :=
  (match r.1 with
   | some d => !memN d q.2.1 && (match q.1 with | some e => !Nat.beq e d | none => true)
   | none => true) &&
  (match q.1 with
   | some d => !memN d r.2.1
   | none => true)
def lowN (k : Nat) : List Nat → Bool
  | [] => true
  | x :: l => Nat.blt x k && lowN k l
theorem lowN_spec {k : Nat} : ∀ {l : List Nat}, lowN k l = true → ∀ x ∈ l, x < k
  | [], _, x, hx => by cases hx
  | y :: l, h, x, hx => by
    rw [lowN, Bool.and_eq_true] at h
    rcases List.mem_cons.1 hx with rfl | hx
    · simpa [Nat.blt_eq] using h.1
    · exact lowN_spec h.2 x hx
def laterOk (k : Nat) (r : Row3) : List Row3 → Bool
  | [] => true
  | q :: l => (memN k q.2.2 || apT r q) && laterOk k r l
theorem laterOk_spec {k : Nat} {r : Row3} : ∀ {l : List Row3}, laterOk k r l = true → ∀ (j : Nat) q, l[j]? = some q → memN k q.2.2 = true ∨ apT r q = true
  | [], _, j, q, h => by simp at h
  | x :: l, h, j, q, hq => by
    rw [laterOk, Bool.and_eq_true, Bool.or_eq_true] at h
    cases j with
    | zero => obtain rfl : x = q := by simpa using hq
              exact h.1
    | succ j => exact laterOk_spec h.2 j q (by simpa using hq)
def rowsOk : Nat → List Row3 → Bool
  | _, [] => true
  | k, r :: l => lowN k r.2.2 && laterOk k r l && rowsOk (k + 1) l
theorem rowsOk_spec : ∀ {k : Nat} {l : List Row3}, rowsOk k l = true → ∀ (i : Nat) r, l[i]? = some r → (∀ x ∈ r.2.2, x < k + i) ∧ ∀ (j : Nat) q, i < j → l[j]? = some q → memN (k + i) q.2.2 = true ∨ apT r q = true
  | _, [], _, i, r, h => by simp at h
  | k, x :: l, h, i, r, hr => by
    simp only [rowsOk, Bool.and_eq_true] at h
    cases i with
    | zero =>
      obtain rfl : x = r := by simpa using hr
      refine ⟨lowN_spec h.1.1, fun j q hj hq => ?_⟩
      obtain ⟨j', rfl⟩ : ∃ j', j = j' + 1 := ⟨j - 1, by omega⟩
      exact laterOk_spec h.1.2 j' q (by simpa using hq)
    | succ i =>
      have h2 := rowsOk_spec h.2 i r (by simpa using hr)
      rw [show k + (i + 1) = k + 1 + i by omega]
      refine ⟨h2.1, fun j q hj hq => ?_⟩
      obtain ⟨j', rfl⟩ : ∃ j', j = j' + 1 := ⟨j - 1, by omega⟩
      exact h2.2 j' q (by omega) (by simpa using hq)
/-- The first so many are listed. -/
def lkT (s k : Nat) : Array Bool := ((List.range s).map fun i => Nat.blt i k).toArray
theorem lkT_getD (s k i : Nat) (b : Bool) (hi : i < s) : (lkT s k).getD i b = decide (i < k) := by
  unfold lkT
  rw [Array.getD_eq_getD_getElem?, List.getElem?_toArray, List.getElem?_map, List.getElem?_range hi]
  show Nat.blt i k = _
  rw [Bool.eq_iff_iff, Nat.blt_eq, decide_eq_true_eq]
theorem lkT_size (s k : Nat) : (lkT s k).size = s := by simp [lkT]
theorem lkT_zero (s : Nat) : lkT s 0 = Array.replicate s false := by
  apply Array.ext
  · simp [lkT]
  · intro i h1 h2
    have hi : i < s := by simpa [lkT] using h1
    have := lkT_getD s 0 i false hi
    rw [Array.getD_eq_getD_getElem?, Array.getElem?_eq_getElem h1] at this
    simpa using this
theorem lkT_set (s k : Nat) (_hk : k < s) : (lkT s k).setIfInBounds k true = lkT s (k + 1) := by
  apply Array.ext
  · simp [lkT]
  · intro i h1 h2
    have hi : i < s := by simpa [lkT] using h2
    have e1 := lkT_getD s k i false hi
    have e2 := lkT_getD s (k + 1) i false hi
    rw [Array.getD_eq_getD_getElem?, Array.getElem?_eq_getElem (by rw [lkT_size]; exact hi)] at e1
    rw [Array.getD_eq_getD_getElem?, Array.getElem?_eq_getElem h2] at e2
    simp only [Option.getD_some] at e1 e2
    rw [e2, Array.getElem_setIfInBounds (by rw [lkT_size]; exact hi), e1]
    by_cases h : k = i
    · subst h; simp
    · rw [if_neg h]
      by_cases h3 : i < k
      · simp [h3, show i < k + 1 by omega]
      · simp [h3, show ¬ i < k + 1 by omega]
theorem apT_spec {ops : Array Oper} {x y : Oper} (h : apT (rowOf ops x) (rowOf ops y) = true) : x.apart ops y = true := by
  unfold apT rowOf at h
  unfold Oper.apart
  simp only [Bool.and_eq_true] at h ⊢
  refine ⟨?_, ?_⟩
  · have h1 := h.1
    cases hd : x.dst with
    | none => rfl
    | some d =>
      rw [hd] at h1
      simp only [Bool.and_eq_true, Bool.not_eq_true'] at h1 ⊢
      refine ⟨?_, ?_⟩
      · rw [Bool.eq_false_iff]
        intro hc
        have := (memN_iff d (y.looksAt ops)).2 (by simpa using hc)
        rw [h1.1] at this
        cases this
      · cases hy : y.dst with
        | none => rfl
        | some e =>
          have h2 := h1.2
          rw [hy] at h2
          simp only [Bool.not_eq_true'] at h2
          simp only [bne_iff_ne, ne_eq, Option.some.injEq]
          intro he
          subst he
          rw [Nat.beq_refl] at h2
          cases h2
  · have h1 := h.2
    cases hd : y.dst with
    | none => rfl
    | some d =>
      rw [hd] at h1
      simp only [Bool.not_eq_true'] at h1 ⊢
      rw [Bool.eq_false_iff]
      intro hc
      have := (memN_iff d (x.looksAt ops)).2 (by simpa using hc)
      rw [h1] at this
      cases this
theorem ixB_rows {ops : Array Oper} {T : List Row3} {n g : Nat} (hT : ops.toList.map (rowOf ops) = T) (hok : rowsOk 0 T = true) (hn : n ≤ ops.size) (hend : Region.seqB .any ops g n (lkT ops.size n) = true) :
    ∀ m k, k + m = n → ixB ops n g (List.range' k m) (lkT ops.size k) = true
  | 0, k, hk => by
    obtain rfl : k = n := by omega
    exact hend
  | m + 1, k, hk => by
    have hks : k < ops.size := by omega
    have hTk : ∀ j oj, ops[j]? = some oj → T[j]? = some (rowOf ops oj) := fun j oj hj => by
      rw [← hT, List.getElem?_map, Array.getElem?_toList, hj]; rfl
    obtain ⟨ok, hokk⟩ : ∃ o, ops[k]? = some o := ⟨ops[k], Array.getElem?_eq_getElem hks⟩
    obtain ⟨hlow, hlater⟩ := rowsOk_spec hok k _ (hTk k ok hokk)
    rw [Nat.zero_add] at hlow hlater
    have hbind : ∀ (o : Oper) (e : Edge), e ∈ o.after → Region.binds .any e = true → e.on ∈ (rowOf ops o).2.2 := fun o e he hb => by
      show e.on ∈ (o.after.toList.filter (Region.binds .any)).map (·.on)
      exact List.mem_map.2 ⟨e, List.mem_filter.2 ⟨by simpa using he, hb⟩, rfl⟩
    show (decide (k < n) && (Region.ready .any ops (lkT ops.size k)).contains k && Region.free .any ops (lkT ops.size k) k && ixB ops n g (List.range' (k + 1) m) ((lkT ops.size k).setIfInBounds k true)) = true
    simp only [Bool.and_eq_true, decide_eq_true_eq]
    refine ⟨⟨⟨by omega, ?_⟩, ?_⟩, ?_⟩
    · have : k ∈ Region.ready .any ops (lkT ops.size k) := mem_ready.2 ⟨by rw [lkT_getD _ _ _ _ hks]; simp, ok, hokk, fun e he hb => by
        have h1 := hlow _ (hbind ok e he hb)
        rw [lkT_getD _ _ _ _ (by omega)]
        simpa using h1⟩
      simpa using this
    · unfold Region.free
      rw [hokk]
      simp only [List.all_eq_true, List.mem_range, Bool.or_eq_true, beq_iff_eq]
      intro j hj
      by_cases hjk : j ≤ k
      · left
        by_cases he : j = k
        · exact .inl he
        · right
          rw [lkT_getD _ _ _ _ hj]
          simp; omega
      · right
        obtain ⟨oj, hoj⟩ : ∃ o, ops[j]? = some o := ⟨ops[j], Array.getElem?_eq_getElem hj⟩
        rw [hoj]
        simp only [Bool.or_eq_true]
        rcases hlater j _ (by omega) (hTk j oj hoj) with h1 | h1
        · left
          have h2 := (memN_iff _ _).1 h1
          obtain ⟨e, he, hon⟩ := List.mem_map.1 (show k ∈ (oj.after.toList.filter (Region.binds .any)).map (·.on) from h2)
          obtain ⟨he1, he2⟩ := List.mem_filter.1 he
          rw [Array.any_eq_true']
          exact ⟨e, by simpa using he1, by simp [he2, hon]⟩
        · exact .inr (apT_spec h1)
    · rw [lkT_set _ _ hks]
      exact ixB_rows hT hok hn hend m (k + 1) (by omega)
def upTB (ops : Array Oper) (n : Nat) : Bool :=
  Region.noSelect ops && decide (n < ops.size) && wB ops n n && Region.chainB .any ops n && Region.seqB .any ops (ops.size - n) n (lkT ops.size n)
theorem upB_rows {ops : Array Oper} {T : List Row3} {n : Nat} (h : upTB ops n = true) (hT : ops.toList.map (rowOf ops) = T) (hok : rowsOk 0 T = true) : upB ops n n (List.range n) = true := by
  simp only [upTB, Bool.and_eq_true, decide_eq_true_eq] at h
  obtain ⟨⟨⟨⟨h1, h2⟩, h3⟩, h4⟩, h5⟩ := h
  unfold upB
  simp only [Bool.and_eq_true, decide_eq_true_eq]
  refine ⟨⟨⟨⟨⟨h1, h2⟩, h3⟩, h4⟩, by simp [lateB]⟩, ?_⟩
  rw [← lkT_zero, List.range_eq_range']
  exact ixB_rows hT hok (by omega) h5 n 0 (by omega)
/-- A long statement of calls and reads, whose last operations come in their order. -/
theorem wp_region_upT {P : Program} {id : Nat} {Q : Exit → Act → World → Prop} {a : Act} {w : World} {l : List Oper} (n : Nat) (T : List Row3) (hm : P.follows .mixedOrders = true) (hB : upTB l.toArray n = true) (hT : l.map (rowOf l.toArray) = T) (hok : rowsOk 0 T = true) (hQ : ∀ c (a : Act) dst v w, Q (.panic c) (a.put dst v) w → Q (.panic c) a w)
    (hw : upW P l.toArray w (fun a' => ∀ w', Below w.heap.size w w' → wpList P l.toArray Q (l.drop n) a' w') (l.take n) a) : (Code.region id l.toArray true).wp P Q a w :=
  wp_region_up n n hm (upB_rows hB hT hok) hQ hw
end Go.Proofs.YtlpchgoaoglhcaaDoor
namespace Go.Proofs.YtlpchgoaoglhcaaDoor
open Go.RowKit
namespace U2
section
variable {P : Program} {ops : Array Oper} {w0 : World}
/-- An operation that hangs on no memory at all. -/
def late (o : Oper) : Bool :=
  match o.op with
  | .extract _ _ => true
  | .move _ => true
  | _ => false
def UpG (P : Program) (ops : Array Oper) (w0 : World) (o : Oper) (v : Value) (a : Act) : Prop :=
  ((Region.wanted o (yielded ops a.tmps) = true ∧ Up P w0 o a v) ∨ (Region.wanted o (yielded ops a.tmps) = false ∧ v = undef)) ∧ (late o = true → Yields P ops o v a)
theorem UpG.of_same {o : Oper} {v : Value} {a a' : Act} (hy : UpG P ops w0 o v a) (he : execOp a'.eval o = execOp a.eval o)
    (hw : Region.wanted o (yielded ops a'.tmps) = Region.wanted o (yielded ops a.tmps)) : UpG P ops w0 o v a' := by
  unfold UpG Up Yields Oper.quietAt at *
  rw [he, hw]
  exact hy
theorem UpG.yields {o : Oper} {v : Value} {a : Act} {D : World → Prop} (hD : ∀ w, D w → Below w0.heap.size w0 w) (hc : ∀ w w', D w → Below w.heap.size w w' → D w') (h : UpG P ops w0 o v a) : YieldsIn P ops D o v a := by
  rcases h.1 with ⟨h1, h2⟩ | h
  · exact .inl ⟨h1, fun w hw => quietAt_mono (fun w' hb => hc w w' hw hb) (h2 ⟨w, hD w hw⟩)⟩
  · exact .inr h
theorem UpG.put {j : Nat} {oi oj : Oper} {u v : Value} {a : Act} (hsel : ∀ (j : Nat) (o : Oper) cs b, ops[j]? = some o → o.op ≠ .select cs b) (hoj : ops[j]? = some oj) (hap : oi.apart ops oj = true) (hyj : UpG P ops w0 oj u (a.put oi.dst v)) : UpG P ops w0 oj u a := by
  obtain ⟨p1, _, _⟩ := Oper.apart_spec hap
  exact hyj.of_same (execOp_put oj (fun cs b => hsel j oj cs b hoj) a oi.dst v p1).symm (wanted_put oj a oi.dst v p1).symm
/-- j waits for i, by way of others too. -/
def wT (ops : Array Oper) (n : Nat) : Nat → Nat → Nat → Bool
  | 0, j, i => Region.waitsFor .any ops j i
  | f + 1, j, i => Region.waitsFor .any ops j i || (List.range n).any fun k => Region.waitsFor .any ops j k && wT ops n f k i
theorem wT_closed {n m : Nat} {listed : Array Bool} (inv : HeadInv .any ops m listed) {i : Nat} : ∀ (f j : Nat), wT ops n f j i = true → listed.getD j false = true → listed.getD i false = true
  | 0, j, h, hj => by
    obtain ⟨oj, hoj, y, hy, hyb, hyon⟩ := Region.waitsFor_spec h
    have h3 := inv.closed j oj hoj hj y hy hyb
    rwa [hyon] at h3
  | f + 1, j, h, hj => by
    simp only [wT, Bool.or_eq_true] at h
    rcases h with h | h
    · obtain ⟨oj, hoj, y, hy, hyb, hyon⟩ := Region.waitsFor_spec h
      have h3 := inv.closed j oj hoj hj y hy hyb
      rwa [hyon] at h3
    · obtain ⟨k, _, hk⟩ := List.any_eq_true.1 h
      simp only [Bool.and_eq_true] at hk
      obtain ⟨oj, hoj, y, hy, hyb, hyon⟩ := Region.waitsFor_spec hk.1
      have h3 := inv.closed j oj hoj hj y hy hyb
      rw [hyon] at h3
      exact wT_closed inv f k hk.2 h3
/-- The first that comes behind waits for each of the first n but one. -/
def wB (ops : Array Oper) (n e : Nat) : Bool := (List.range n).all fun i => i == e || (Region.waitsFor .any ops n i || (List.range n).any fun j => Region.waitsFor .any ops n j && wT ops n 3 j i)
theorem waits {n e : Nat} {listed : Array Bool} (hw : wB ops n e = true) (hc : Region.chainB .any ops n = true) (inv : HeadInv .any ops n listed) {i : Nat} (hi : i < n) (hie : i ≠ e) (hun : listed.getD i true = false) : ∀ t, n ≤ t → t ∉ Region.ready .any ops listed := by
  intro t ht hr
  obtain ⟨_, ot, hot, hall⟩ := mem_ready.1 hr
  have htlt : t < ops.size := (Array.getElem?_eq_some_iff.1 hot).1
  by_cases htn : t = n
  · subst htn
    have h1 := List.all_eq_true.1 hw i (List.mem_range.2 hi)
    simp only [Bool.or_eq_true, beq_iff_eq] at h1
    rcases h1 with h1 | h1 | h1
    · exact hie h1
    · obtain ⟨o', ho', x, hx, hb, hon⟩ := Region.waitsFor_spec h1
      obtain rfl : o' = ot := Option.some.inj (ho'.symm.trans hot)
      have h2 := hall x hx hb
      rw [hon, getD_both hun] at h2
      cases h2
    · obtain ⟨j, _, hj⟩ := List.any_eq_true.1 h1
      simp only [Bool.and_eq_true] at hj
      obtain ⟨o', ho', x, hx, hb, hon⟩ := Region.waitsFor_spec hj.1
      obtain rfl : o' = ot := Option.some.inj (ho'.symm.trans hot)
      have h2 := hall x hx hb
      rw [hon] at h2
      have h3 := wT_closed inv 3 j hj.2 h2
      rw [getD_both hun] at h3
      cases h3
  · have h1 := List.all_eq_true.1 hc t (List.mem_range.2 htlt)
    simp only [Bool.or_eq_true, decide_eq_true_eq] at h1
    rcases h1 with h1 | h1
    · omega
    · obtain ⟨o', ho', x, hx, hb, hon⟩ := Region.waitsFor_spec h1
      obtain rfl : o' = ot := Option.some.inj (ho'.symm.trans hot)
      have h2 := hall x hx hb
      rw [hon, getD_both (inv.tail (t - 1) (by omega) (by omega))] at h2
      cases h2
/-- Whatever comes up among the first n, so often; e, one that hangs on no memory, may stay till the end. -/
def upL (P : Program) (ops : Array Oper) (w0 : World) (n e : Nat) (L : Array Bool → Act → Prop) : Nat → Array Bool → Act → Prop
  | 0, listed, a => L listed a
  | f + 1, listed, a =>
    (Region.ready .any ops listed ≠ [] ∧ ∀ i ∈ Region.ready .any ops listed, i < n ∧ ∃ oi v, ops[i]? = some oi ∧ UpG P ops w0 oi v a ∧ upL P ops w0 n e L f (listed.setIfInBounds i true) (a.put oi.dst v)) ∨
    (f = 0 ∧ e < n ∧ e ∈ Region.ready .any ops listed ∧ ∃ oe v, ops[e]? = some oe ∧ UpG P ops w0 oe v a ∧ late oe = true ∧
      (∀ j oj, ops[j]? = some oj → j ≠ e → listed.getD j true = false → (∀ x ∈ oj.after, Region.binds .any x = true → x.on ≠ e) → oe.apart ops oj = true) ∧ L (listed.setIfInBounds e true) (a.put oe.dst v))
theorem upL_first {n e : Nat} {L : Array Bool → Act → Prop} (hsel : ∀ (j : Nat) (o : Oper) cs b, ops[j]? = some o → o.op ≠ .select cs b)
    (hs : wB ops n e = true) (hc : Region.chainB .any ops n = true) (hel : ∀ oe, ops[e]? = some oe → e < n → late oe = true)
    (hdone : ∀ listed a, L listed a → ∀ j ∈ Region.ready .any ops listed, n ≤ j) {i : Nat} {oi : Oper} {v : Value} (hi : ops[i]? = some oi) (hin : i < n) :
    ∀ (f : Nat) (listed : Array Bool) (a : Act), HeadInv .any ops n listed →
      (∀ j oj, ops[j]? = some oj → j ≠ i → listed.getD j true = false → (∀ x ∈ oj.after, Region.binds .any x = true → x.on ≠ i) → oi.apart ops oj = true) →
      i ∈ Region.ready .any ops listed → UpG P ops w0 oi v a → upL P ops w0 n e L f (listed.setIfInBounds i true) (a.put oi.dst v) → upL P ops w0 n e L (f + 1) listed a := by
  intro f
  induction f with
  | zero =>
    intro listed a inv hfree hr hy H
    have hun := (mem_ready.1 hr).1
    by_cases hie : i = e
    · subst hie
      exact .inr ⟨rfl, hin, hr, oi, v, hi, hy, hel oi hi hin, hfree, H⟩
    · refine .inl ⟨fun h => (by rw [h] at hr; cases hr), fun j hj => ?_⟩
      have hjn : j < n := by
        rcases Nat.lt_or_ge j n with h | h
        · exact h
        · exact absurd hj (waits hs hc inv hin hie hun j h)
      refine ⟨hjn, ?_⟩
      by_cases hji : j = i
      · subst hji
        exact ⟨oi, v, hi, hy, H⟩
      · exact absurd (hdone _ _ H j (ready_mono hj hji)) (by omega)
  | succ f ih =>
    intro listed a inv hfree hr hy H
    have hun := (mem_ready.1 hr).1
    have hisz : i < listed.size := by rw [inv.size]; exact (Array.getElem?_eq_some_iff.1 hi).1
    -- some other one is pending
    have hk : ∃ k, k < n ∧ k ≠ i ∧ listed.getD k true = false := by
      have key : ∀ k, k ∈ Region.ready .any ops (listed.setIfInBounds i true) → k ≠ i ∧ listed.getD k true = false := fun k hk => by
        have h1 := (mem_ready.1 hk).1
        by_cases hki : k = i
        · subst hki; simp [hisz] at h1
        · exact ⟨hki, by rw [getD_set_ne true (Ne.symm hki)] at h1; exact h1⟩
      rcases H with ⟨hne, hall⟩ | ⟨_, hen, he, _⟩
      · obtain ⟨k, hk⟩ := List.exists_mem_of_ne_nil _ hne
        exact ⟨k, (hall k hk).1, key k hk⟩
      · exact ⟨e, hen, key e he⟩
    refine .inl ⟨fun h => (by rw [h] at hr; cases hr), fun j hj => ?_⟩
    have hjn : j < n := by
      rcases Nat.lt_or_ge j n with h | h
      · exact h
      · obtain ⟨k, hkn, hki, hku⟩ := hk
        by_cases hie : i = e
        · exact absurd hj (waits hs hc inv hkn (fun h1 => hki (h1.trans hie.symm)) hku j h)
        · exact absurd hj (waits hs hc inv hin hie hun j h)
    refine ⟨hjn, ?_⟩
    by_cases hji : j = i
    · subst hji
      exact ⟨oi, v, hi, hy, H⟩
    · have hj' := ready_mono hj hji
      have hch : ∃ oj u, ops[j]? = some oj ∧ UpG P ops w0 oj u (a.put oi.dst v) ∧ upL P ops w0 n e L f ((listed.setIfInBounds i true).setIfInBounds j true) ((a.put oi.dst v).put oj.dst u) := by
        rcases H with ⟨_, hall⟩ | ⟨h0, _, he, oe, u, hoe, hye, _, _, hL⟩
        · exact (hall j hj').2
        · subst h0
          by_cases hje : j = e
          · subst hje
            exact ⟨oe, u, hoe, hye, hL⟩
          · exact absurd (hdone _ _ hL j (ready_mono hj' hje)) (by omega)
      obtain ⟨oj, u, hoj, hyj, hrest⟩ := hch
      obtain ⟨hjun, oj', hoj', hall⟩ := mem_ready.1 hj
      obtain rfl : oj' = oj := Option.some.inj (hoj'.symm.trans hoj)
      have hnot : ∀ x ∈ oj'.after, Region.binds .any x = true → x.on ≠ i := fun x hx hb heq => by
        have h1 := hall x hx hb
        rw [heq, getD_both hun] at h1
        cases h1
      have hapj := hfree j oj' hoj hji hjun hnot
      obtain ⟨p1, p2, p3⟩ := Oper.apart_spec hapj
      have hyj' : UpG P ops w0 oj' u a := UpG.put hsel hoj hapj hyj
      have hyi' : UpG P ops w0 oi v (a.put oj'.dst u) := hy.of_same (execOp_put oi (fun cs b => hsel i oi cs b hi) a oj'.dst u p3) (wanted_put oi a oj'.dst u p3)
      have hfree' : ∀ k ok, ops[k]? = some ok → k ≠ i → (listed.setIfInBounds j true).getD k true = false →
          (∀ x ∈ ok.after, Region.binds .any x = true → x.on ≠ i) → oi.apart ops ok = true := fun k ok hk hki hunk hno => by
        refine hfree k ok hk hki ?_ hno
        by_cases hjk : j = k
        · subst hjk; exact hjun
        · rw [getD_set_ne true hjk] at hunk; exact hunk
      refine ⟨oj', u, hoj, hyj', ih (listed.setIfInBounds j true) _ (inv.set hj hjn) hfree' (ready_mono hr (Ne.symm hji)) hyi' ?_⟩
      rw [Array.setIfInBounds_comm _ _ hji, ← Act.put_comm a v u p2]
      exact hrest
/-- The walk: so many operations, by their numbers, each with its value. -/
def upIx (P : Program) (ops : Array Oper) (w0 : World) (Lq : Act → Prop) : List Nat → Act → Prop
  | [], a => Lq a
  | i :: is, a => ∃ oi v, ops[i]? = some oi ∧ UpG P ops w0 oi v a ∧ upIx P ops w0 Lq is (a.put oi.dst v)
def ixB (ops : Array Oper) (n g : Nat) : List Nat → Array Bool → Bool
  | [], listed => Region.seqB .any ops g n listed
  | i :: is, listed => decide (i < n) && (Region.ready .any ops listed).contains i && Region.free .any ops listed i && ixB ops n g is (listed.setIfInBounds i true)
theorem upL_lex {n e g : Nat} {Lq : Act → Prop} (hsel : Region.noSelect ops = true) (hs : wB ops n e = true) (hc : Region.chainB .any ops n = true) (hel : ∀ oe, ops[e]? = some oe → e < n → late oe = true) :
    ∀ (is : List Nat) (listed : Array Bool) (a : Act), HeadInv .any ops n listed → ixB ops n g is listed = true → upIx P ops w0 Lq is a →
    upL P ops w0 n e (fun listed' a' => Region.seqB .any ops g n listed' = true ∧ Lq a') is.length listed a
  | [], listed, a, _, hB, h => ⟨by simpa [ixB] using hB, h⟩
  | i :: is, listed, a, inv, hB, h => by
    simp only [ixB, Bool.and_eq_true, decide_eq_true_eq] at hB
    obtain ⟨⟨⟨hin, hr⟩, hf⟩, hB'⟩ := hB
    have hr' : i ∈ Region.ready .any ops listed := by simpa using hr
    obtain ⟨oi, v, ho, hy, hrest⟩ := h
    exact upL_first (Region.noSelect_spec hsel) hs hc hel (fun listed' a' hL => seqB_ready hL.1) ho hin is.length listed a inv (Region.free_spec ho hf) hr' hy
      (upL_lex hsel hs hc hel is _ _ (inv.set hr' hin) hB' hrest)
/-- What else one slot holds makes no difference to those that neither read nor write it. -/
theorem wpAny_of_up {n e g ia : Nat} {d : Option Tmp} {pv : Value} {L : Array Bool → Act → Prop} {Q' : Exit → Act → World → Prop} {D : World → Prop} (hsel : Region.noSelect ops = true) (hQ : ∀ c (a : Act) dst v w, Q' (.panic c) (a.put dst v) w → Q' (.panic c) a w) (hD : ∀ w, D w → Below w0.heap.size w0 w) (hc : ∀ w w', D w → Below w.heap.size w w' → D w')
    (hap : ∀ j oj, ops[j]? = some oj → j < n → j ≠ ia → (∀ s, d = some s → s ∉ oj.looksAt ops) ∧ (∀ s, d = some s → oj.dst ≠ some s))
    (hL : ∀ listed a w, D w → L listed a → wpAny P .any ops Q' g listed (a.put d pv) w) :
    ∀ (f : Nat) (listed : Array Bool) (a : Act) (w : World), D w → (ia = n ∨ listed.getD ia true = true) → upL P ops w0 n e L f listed a → wpAny P .any ops Q' (f + g) listed (a.put d pv) w
  | 0, listed, a, w, hw, _, h => by rw [Nat.zero_add]; exact hL _ _ _ hw h
  | f + 1, listed, a, w, hw, hia, h => by
    rw [show f + 1 + g = (f + g) + 1 by omega]
    have hne : ∀ i, i < n → i ∈ Region.ready .any ops listed → i ≠ ia := by
      rintro i hin hi rfl
      rcases hia with h1 | h1
      · omega
      · rw [(mem_ready.1 hi).1] at h1; cases h1
    rcases h with ⟨hnil, hall⟩ | ⟨h0, hen, he, oe, v, hoe, hye, hl, hfree, hLe⟩
    · refine ⟨fun h0 => absurd h0 hnil, fun i hi => ?_⟩
      obtain ⟨hin, oi, v, ho, hy, hrest⟩ := hall i hi
      obtain ⟨q1, q2⟩ := hap i oi ho hin (hne i hin hi)
      have hy' : UpG P ops w0 oi v (a.put d pv) := hy.of_same (execOp_put oi (fun cs b => Region.noSelect_spec hsel i oi cs b ho) a d pv q1) (wanted_put oi a d pv q1)
      have hq : qOp P ops D i (fun a' => a' = (a.put d pv).put oi.dst v) (a.put d pv) := (hy'.yields hD hc).qOp ho rfl
      refine wpOp_of_qOp hw (fun a' w' hw' ha => ?_) hq
      subst ha
      rw [Act.put_comm a pv v q2]
      refine wpAny_of_up hsel hQ hD hc hap hL f _ _ w' hw' ?_ hrest
      rcases hia with h1 | h1
      · exact .inl h1
      · exact .inr (by rw [getD_set_ne true (hne i hin hi)]; exact h1)
    · subst h0
      obtain ⟨q1, q2⟩ := hap e oe hoe hen (hne e hen he)
      have hy' : UpG P ops w0 oe v (a.put d pv) := hye.of_same (execOp_put oe (fun cs b => Region.noSelect_spec hsel e oe cs b hoe) a d pv q1) (wanted_put oe a d pv q1)
      refine wpAny_first hoe (Region.noSelect_spec hsel) (fun c a w h => hQ c a _ _ w h) (0 + g) listed (a.put d pv) w hfree he (hy'.2 hl) ?_
      rw [Act.put_comm a pv v q2, Nat.zero_add]
      exact hL _ _ _ hw hLe
/-- The walk by the operations themselves. -/
def upW (P : Program) (ops : Array Oper) (w0 : World) (Lq : Act → Prop) : List Oper → Act → Prop
  | [], a => Lq a
  | o :: l, a => ∃ v, UpG P ops w0 o v a ∧ upW P ops w0 Lq l (a.put o.dst v)
theorem upIx_of_W {Lq : Act → Prop} : ∀ (is : List Nat) (l : List Oper) (a : Act), is.map (fun i => ops[i]?) = l.map some → upW P ops w0 Lq l a → upIx P ops w0 Lq is a
  | [], [], _, _, h => h
  | [], _ :: _, _, he, _ => by cases he
  | _ :: _, [], _, he, _ => by cases he
  | i :: is, o :: l, a, he, h => by
    simp only [List.map_cons, List.cons.injEq] at he
    obtain ⟨v, hy, hr⟩ := h
    exact ⟨o, v, he.1, hy, upIx_of_W is l _ he.2 hr⟩
def lateB (ops : Array Oper) (n e : Nat) : Bool := !decide (e < n) || (match ops[e]? with | some o => late o | none => true)
theorem lateB_spec {n e : Nat} (h : lateB ops n e = true) : ∀ oe, ops[e]? = some oe → e < n → late oe = true := by
  intro oe hoe hen
  unfold lateB at h
  rw [hoe] at h
  simpa [hen] using h
def upB (ops : Array Oper) (n e : Nat) (is : List Nat) : Bool :=
  Region.noSelect ops && decide (n < ops.size) && wB ops n e && Region.chainB .any ops n && lateB ops n e && ixB ops n (ops.size - n) is (Array.replicate ops.size false)
theorem head0 (ops : Array Oper) (n : Nat) : HeadInv .any ops n (Array.replicate ops.size false) :=
  ⟨by simp, fun j oj _ hl => (by rw [getD_replicate_false] at hl; cases hl), fun t _ ht => getD_in (by simpa using ht) (getD_replicate_false _ _)⟩
/-- A statement of calls and reads, whose last operations come in their order. -/
theorem wp_region_up {id : Nat} {Q : Exit → Act → World → Prop} {a : Act} {w : World} {l : List Oper} (n e : Nat) (hm : P.follows .mixedOrders = true) (hB : upB l.toArray n e (List.range n) = true) (hQ : ∀ c (a : Act) dst v w, Q (.panic c) (a.put dst v) w → Q (.panic c) a w)
    (hw : upW P l.toArray w (fun a' => ∀ w', Below w.heap.size w w' → wpList P l.toArray Q (l.drop n) a' w') (l.take n) a) : (Code.region id l.toArray true).wp P Q a w := by
  simp only [upB, Bool.and_eq_true, decide_eq_true_eq] at hB
  have h := upIx_of_W (List.range n) (l.take n) a (by
    have hn : n ≤ l.length := by have := hB.1.1.1.1.2; simp at this; omega
    apply List.ext_getElem?
    intro k
    simp only [List.getElem?_map, List.getElem?_take]
    by_cases hk : k < n
    · rw [if_pos hk]
      have : k < l.length := by omega
      simp [hk, this]
    · rw [if_neg hk]
      simp [hk]) hw
  obtain ⟨⟨⟨⟨⟨hsel, hn⟩, hs⟩, hc⟩, hel⟩, hix⟩ := hB
  have hdl : (l.drop n).length = l.toArray.size - n := by simp
  have H := upL_lex (g := l.toArray.size - n) hsel hs hc (lateB_spec hel) (List.range n) _ a (head0 l.toArray n) hix h
  refine wp_region_any hm ?_
  have := wpAny_of_up (Q' := Q) (g := l.toArray.size - n) (ia := n) (d := none) (pv := undef) (D := fun w' => Below w.heap.size w w') hsel hQ (fun _ h => h) (fun w1 w2 h1 h2 => h1.trans (h2.mono h1.size)) (fun j oj _ _ _ => ⟨fun s hs => (by cases hs), fun s hs => (by cases hs)⟩)
    (fun listed a' w' hw' hL => by
      have := wpAny_of_seq (md := .any) (Q' := Q) (l.drop n) n listed a' w' (fun j => by simp [List.getElem?_drop]) (by rw [hdl]; exact hL.1) (hL.2 w' hw')
      rwa [hdl] at this) _ _ a { w with drawn := w.drawn + 1 } ((Below.refl _ w).drew) (.inl rfl) H
  rw [List.length_range, show n + (l.toArray.size - n) = l.toArray.size by omega] at this
  exact this
theorem upW_nil {Lq : Act → Prop} {a : Act} (h : Lq a) : upW P ops w0 Lq [] a := h
theorem upW_val {Lq : Act → Prop} {l : List Oper} {a : Act} {o : Oper} (hw : Region.wanted o (yielded ops a.tmps) = true) (hc : Oper.calm o = true) (hn : late o = false)
    (h : ∀ K : Act → Prop, (∀ a', upW P ops w0 Lq l a' → K a') → o.quiet P a (fun w' => ∃ p : Ext w0, w' = p.x) K) : upW P ops w0 Lq (o :: l) a := by
  obtain ⟨v, h1, h2⟩ := h _ (fun _ h => h)
  exact ⟨v, ⟨.inl ⟨hw, fun p => quietAt_calm hc (h1 p.x ⟨p, rfl⟩)⟩, fun h => by rw [hn] at h; cases h⟩, h2⟩
theorem upW_skip {Lq : Act → Prop} {l : List Oper} {a : Act} {o : Oper} (hw : Region.wanted o (yielded ops a.tmps) = false)
    (h : upW P ops w0 Lq l (a.put o.dst undef)) : upW P ops w0 Lq (o :: l) a :=
  ⟨undef, ⟨.inr ⟨hw, rfl⟩, fun _ => .inr ⟨hw, rfl⟩⟩, h⟩
theorem upW_call {Lq : Act → Prop} {l : List Oper} {a : Act} {o : Oper} (hw : Region.wanted o (yielded ops a.tmps) = true) (hn : late o = false) (v : Value) (d : Tmp) (hd : o.dst = some d) (hs : d < a.tmps.size)
    (h : ∀ p : Ext w0, o.quiet P a (fun w' => ∃ q : Ext p.x, w' = q.x) (fun a' => a' = a.put o.dst v)) (hr : upW P ops w0 Lq l (a.put o.dst v)) : upW P ops w0 Lq (o :: l) a := by
  refine ⟨v, ⟨.inl ⟨hw, fun p => ?_⟩, fun h => by rw [hn] at h; cases h⟩, hr⟩
  obtain ⟨u, h1, h2⟩ := h p
  have : u = v := by
    rw [hd] at h2
    have h3 := congrArg (fun b : Act => b.tmps[d]?) h2
    simpa [Act.put, hs] using h3
  subst this
  exact quietAt_mono (fun w' ⟨q, hq⟩ => by rw [hq]; exact q.h) (h1 p.x ⟨⟨p.x, Below.refl _ _⟩, rfl⟩)
theorem upW_late {Lq : Act → Prop} {l : List Oper} {a : Act} {o : Oper} (hw : Region.wanted o (yielded ops a.tmps) = true) (v : Value) (h : ∀ w, (execOp a.eval o).run P w = .ok (.value v) w) (hr : upW P ops w0 Lq l (a.put o.dst v)) : upW P ops w0 Lq (o :: l) a :=
  ⟨v, ⟨.inl ⟨hw, fun p => by unfold Oper.quietAt; rw [h]; exact ⟨rfl, rfl⟩⟩, fun _ => .inl ⟨hw, h⟩⟩, hr⟩
end
end U2
end Go.Proofs.YtlpchgoaoglhcaaDoor
