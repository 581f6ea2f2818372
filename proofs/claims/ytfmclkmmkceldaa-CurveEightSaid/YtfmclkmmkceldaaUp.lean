/-
  A statement whose order Go leaves open, with calls that make memory, one new block of its own, and stores at its end: walked once.
  Conditions: none.
-/
import Derived.StillTail
import Derived.Deep.QuietTactic
import Derived.BigQuiet
import Derived.Below
import Derived.WalkKit
namespace Go.Proofs.Ytfmclkmmkceldaa
open Go.RowKit

/-- A world in which all that lay in w lies as it lay. -/
structure Ext (w : World) where
  x : World
  h : Below w.heap.size w x
instance (w : World) : Inhabited (Ext w) := ⟨⟨w, Below.refl _ _⟩⟩
def Ext.of {w w' : World} (h : Below w.heap.size w w') : Ext w := ⟨w', h⟩

section
variable {P : Program} {ops : Array Oper} {w0 : World}

theorem quietAt_mono {o : Oper} {a : Act} {C D : World → Prop} {w : World} {v : Value} (h : ∀ w', C w' → D w') (hq : o.quietAt P a C w v) : o.quietAt P a D w v := by
  unfold Oper.quietAt at *
  generalize (execOp a.eval o).run P w = r at *
  cases r with
  | ok n w' =>
    cases n <;> simp only [Oper.quietUpon] at *
    case value u => exact hq
    case skip => exact hq
    case enter f args => exact ⟨hq.1, hq.2.mono fun e w'' he => ⟨he.1, h _ he.2⟩⟩
  | halt x w' => simp only [Oper.quietUpon] at hq
/-- In each world that holds what lay in w0 the operation yields v, and a call leaves alone what lies there. -/
def Up (P : Program) (w0 : World) (o : Oper) (a : Act) (v : Value) : Prop := ∀ p : Ext w0, o.quietAt P a (fun w' => Below p.x.heap.size p.x w') p.x v
/-- An operation that hangs on no memory at all. -/
def late (o : Oper) : Bool :=
  match o.op with
  | .extract _ _ => true
  | _ => false
def UpG (P : Program) (ops : Array Oper) (w0 : World) (o : Oper) (v : Value) (a : Act) : Prop :=
  ((Region.wanted o (yielded ops a.tmps) = true ∧ Up P w0 o a v) ∨ (Region.wanted o (yielded ops a.tmps) = false ∧ v = undef)) ∧ (late o = true → Yields P ops o v a)
theorem UpG.of_same {o : Oper} {v : Value} {a a' : Act} (hy : UpG P ops w0 o v a) (he : execOp a'.eval o = execOp a.eval o)
    (hw : Region.wanted o (yielded ops a'.tmps) = Region.wanted o (yielded ops a.tmps)) : UpG P ops w0 o v a' := by
  unfold UpG Up Yields Oper.quietAt at *
  rw [he, hw]
  exact hy
theorem UpG.yields {o : Oper} {v : Value} {a : Act} {D : World → Prop} (hD : ∀ w, D w → Below w0.heap.size w0 w) (hc : ∀ w w', D w → Below w.heap.size w w' → D w') (h : UpG P ops w0 o v a) : YieldsIn P ops D o v a := by
  rcases h.1 with ⟨h1, h2⟩ | h
  · exact .inl ⟨h1, fun w hw => quietAt_mono (fun w' hb => hc w w' hw hb) (h2 ⟨w, hD w hw⟩)⟩
  · exact .inr h
theorem UpG.put {j : Nat} {oi oj : Oper} {u v : Value} {a : Act} (hsel : ∀ (j : Nat) (o : Oper) cs b, ops[j]? = some o → o.op ≠ .select cs b) (hoj : ops[j]? = some oj) (hap : oi.apart ops oj = true) (hyj : UpG P ops w0 oj u (a.put oi.dst v)) : UpG P ops w0 oj u a := by
  obtain ⟨p1, _, _⟩ := Oper.apart_spec hap
  exact hyj.of_same (execOp_put oj (fun cs b => hsel j oj cs b hoj) a oi.dst v p1).symm (wanted_put oj a oi.dst v p1).symm
/-- j waits for i, by way of others too. -/
def wT (ops : Array Oper) (n : Nat) : Nat → Nat → Nat → Bool
  | 0, j, i => Region.waitsFor .any ops j i
  | f + 1, j, i => Region.waitsFor .any ops j i || (List.range n).any fun k => Region.waitsFor .any ops j k && wT ops n f k i
theorem wT_closed {n m : Nat} {listed : Array Bool} (inv : HeadInv .any ops m listed) {i : Nat} : ∀ (f j : Nat), wT ops n f j i = true → listed.getD j false = true → listed.getD i false = true
  | 0, j, h, hj => by
    obtain ⟨oj, hoj, y, hy, hyb, hyon⟩ := Region.waitsFor_spec h
    have h3 := inv.closed j oj hoj hj y hy hyb
    rwa [hyon] at h3
  | f + 1, j, h, hj => by
    simp only [wT, Bool.or_eq_true] at h
    rcases h with h | h
    · obtain ⟨oj, hoj, y, hy, hyb, hyon⟩ := Region.waitsFor_spec h
      have h3 := inv.closed j oj hoj hj y hy hyb
      rwa [hyon] at h3
    · obtain ⟨k, _, hk⟩ := List.any_eq_true.1 h
      simp only [Bool.and_eq_true] at hk
      obtain ⟨oj, hoj, y, hy, hyb, hyon⟩ := Region.waitsFor_spec hk.1
      have h3 := inv.closed j oj hoj hj y hy hyb
      rw [hyon] at h3
      exact wT_closed inv f k hk.2 h3
/-- The first that comes behind waits for each of the first n but one. -/
def wB (ops : Array Oper) (n e : Nat) : Bool := (List.range n).all fun i => i == e || (Region.waitsFor .any ops n i || (List.range n).any fun j => Region.waitsFor .any ops n j && wT ops n 3 j i)
theorem waits {n e : Nat} {listed : Array Bool} (hw : wB ops n e = true) (hc : Region.chainB .any ops n = true) (inv : HeadInv .any ops n listed) {i : Nat} (hi : i < n) (hie : i ≠ e) (hun : listed.getD i true = false) : ∀ t, n ≤ t → t ∉ Region.ready .any ops listed := by
  intro t ht hr
  obtain ⟨_, ot, hot, hall⟩ := mem_ready.1 hr
  have htlt : t < ops.size := (Array.getElem?_eq_some_iff.1 hot).1
  by_cases htn : t = n
  · subst htn
    have h1 := List.all_eq_true.1 hw i (List.mem_range.2 hi)
    simp only [Bool.or_eq_true, beq_iff_eq] at h1
    rcases h1 with h1 | h1 | h1
    · exact hie h1
    · obtain ⟨o', ho', x, hx, hb, hon⟩ := Region.waitsFor_spec h1
      obtain rfl : o' = ot := Option.some.inj (ho'.symm.trans hot)
      have h2 := hall x hx hb
      rw [hon, getD_both hun] at h2
      cases h2
    · obtain ⟨j, _, hj⟩ := List.any_eq_true.1 h1
      simp only [Bool.and_eq_true] at hj
      obtain ⟨o', ho', x, hx, hb, hon⟩ := Region.waitsFor_spec hj.1
      obtain rfl : o' = ot := Option.some.inj (ho'.symm.trans hot)
      have h2 := hall x hx hb
      rw [hon] at h2
      have h3 := wT_closed inv 3 j hj.2 h2
      rw [getD_both hun] at h3
      cases h3
  · have h1 := List.all_eq_true.1 hc t (List.mem_range.2 htlt)
    simp only [Bool.or_eq_true, decide_eq_true_eq] at h1
    rcases h1 with h1 | h1
    · omega
    · obtain ⟨o', ho', x, hx, hb, hon⟩ := Region.waitsFor_spec h1
      obtain rfl : o' = ot := Option.some.inj (ho'.symm.trans hot)
      have h2 := hall x hx hb
      rw [hon, getD_both (inv.tail (t - 1) (by omega) (by omega))] at h2
      cases h2
/-- Whatever comes up among the first n, so often; e, one that hangs on no memory, may stay till the end. -/
def upL (P : Program) (ops : Array Oper) (w0 : World) (n e : Nat) (L : Array Bool → Act → Prop) : Nat → Array Bool → Act → Prop
  | 0, listed, a => L listed a
  | f + 1, listed, a =>
    (Region.ready .any ops listed ≠ [] ∧ ∀ i ∈ Region.ready .any ops listed, i < n ∧ ∃ oi v, ops[i]? = some oi ∧ UpG P ops w0 oi v a ∧ upL P ops w0 n e L f (listed.setIfInBounds i true) (a.put oi.dst v)) ∨
    (f = 0 ∧ e < n ∧ e ∈ Region.ready .any ops listed ∧ ∃ oe v, ops[e]? = some oe ∧ UpG P ops w0 oe v a ∧ late oe = true ∧
      (∀ j oj, ops[j]? = some oj → j ≠ e → listed.getD j true = false → (∀ x ∈ oj.after, Region.binds .any x = true → x.on ≠ e) → oe.apart ops oj = true) ∧ L (listed.setIfInBounds e true) (a.put oe.dst v))
theorem upL_first {n e : Nat} {L : Array Bool → Act → Prop} (hsel : ∀ (j : Nat) (o : Oper) cs b, ops[j]? = some o → o.op ≠ .select cs b)
    (hs : wB ops n e = true) (hc : Region.chainB .any ops n = true) (hel : ∀ oe, ops[e]? = some oe → e < n → late oe = true)
    (hdone : ∀ listed a, L listed a → ∀ j ∈ Region.ready .any ops listed, n ≤ j) {i : Nat} {oi : Oper} {v : Value} (hi : ops[i]? = some oi) (hin : i < n) :
    ∀ (f : Nat) (listed : Array Bool) (a : Act), HeadInv .any ops n listed →
      (∀ j oj, ops[j]? = some oj → j ≠ i → listed.getD j true = false → (∀ x ∈ oj.after, Region.binds .any x = true → x.on ≠ i) → oi.apart ops oj = true) →
      i ∈ Region.ready .any ops listed → UpG P ops w0 oi v a → upL P ops w0 n e L f (listed.setIfInBounds i true) (a.put oi.dst v) → upL P ops w0 n e L (f + 1) listed a := by
  intro f
  induction f with
  | zero =>
    intro listed a inv hfree hr hy H
    have hun := (mem_ready.1 hr).1
    by_cases hie : i = e
    · subst hie
      exact .inr ⟨rfl, hin, hr, oi, v, hi, hy, hel oi hi hin, hfree, H⟩
    · refine .inl ⟨fun h => (by rw [h] at hr; cases hr), fun j hj => ?_⟩
      have hjn : j < n := by
        rcases Nat.lt_or_ge j n with h | h
        · exact h
        · exact absurd hj (waits hs hc inv hin hie hun j h)
      refine ⟨hjn, ?_⟩
      by_cases hji : j = i
      · subst hji
        exact ⟨oi, v, hi, hy, H⟩
      · exact absurd (hdone _ _ H j (ready_mono hj hji)) (by omega)
  | succ f ih =>
    intro listed a inv hfree hr hy H
    have hun := (mem_ready.1 hr).1
    have hisz : i < listed.size := by rw [inv.size]; exact (Array.getElem?_eq_some_iff.1 hi).1
    -- some other one is pending
    have hk : ∃ k, k < n ∧ k ≠ i ∧ listed.getD k true = false := by
      have key : ∀ k, k ∈ Region.ready .any ops (listed.setIfInBounds i true) → k ≠ i ∧ listed.getD k true = false := fun k hk => by
        have h1 := (mem_ready.1 hk).1
        by_cases hki : k = i
        · subst hki; simp [hisz] at h1
        · exact ⟨hki, by rw [getD_set_ne true (Ne.symm hki)] at h1; exact h1⟩
      rcases H with ⟨hne, hall⟩ | ⟨_, hen, he, _⟩
      · obtain ⟨k, hk⟩ := List.exists_mem_of_ne_nil _ hne
        exact ⟨k, (hall k hk).1, key k hk⟩
      · exact ⟨e, hen, key e he⟩
    refine .inl ⟨fun h => (by rw [h] at hr; cases hr), fun j hj => ?_⟩
    have hjn : j < n := by
      rcases Nat.lt_or_ge j n with h | h
      · exact h
      · obtain ⟨k, hkn, hki, hku⟩ := hk
        by_cases hie : i = e
        · exact absurd hj (waits hs hc inv hkn (fun h1 => hki (h1.trans hie.symm)) hku j h)
        · exact absurd hj (waits hs hc inv hin hie hun j h)
    refine ⟨hjn, ?_⟩
    by_cases hji : j = i
    · subst hji
      exact ⟨oi, v, hi, hy, H⟩
    · have hj' := ready_mono hj hji
      have hch : ∃ oj u, ops[j]? = some oj ∧ UpG P ops w0 oj u (a.put oi.dst v) ∧ upL P ops w0 n e L f ((listed.setIfInBounds i true).setIfInBounds j true) ((a.put oi.dst v).put oj.dst u) := by
        rcases H with ⟨_, hall⟩ | ⟨h0, _, he, oe, u, hoe, hye, _, _, hL⟩
        · exact (hall j hj').2
        · subst h0
          by_cases hje : j = e
          · subst hje
            exact ⟨oe, u, hoe, hye, hL⟩
          · exact absurd (hdone _ _ hL j (ready_mono hj' hje)) (by omega)
      obtain ⟨oj, u, hoj, hyj, hrest⟩ := hch
      obtain ⟨hjun, oj', hoj', hall⟩ := mem_ready.1 hj
      obtain rfl : oj' = oj := Option.some.inj (hoj'.symm.trans hoj)
      have hnot : ∀ x ∈ oj'.after, Region.binds .any x = true → x.on ≠ i := fun x hx hb heq => by
        have h1 := hall x hx hb
        rw [heq, getD_both hun] at h1
        cases h1
      have hapj := hfree j oj' hoj hji hjun hnot
      obtain ⟨p1, p2, p3⟩ := Oper.apart_spec hapj
      have hyj' : UpG P ops w0 oj' u a := UpG.put hsel hoj hapj hyj
      have hyi' : UpG P ops w0 oi v (a.put oj'.dst u) := hy.of_same (execOp_put oi (fun cs b => hsel i oi cs b hi) a oj'.dst u p3) (wanted_put oi a oj'.dst u p3)
      have hfree' : ∀ k ok, ops[k]? = some ok → k ≠ i → (listed.setIfInBounds j true).getD k true = false →
          (∀ x ∈ ok.after, Region.binds .any x = true → x.on ≠ i) → oi.apart ops ok = true := fun k ok hk hki hunk hno => by
        refine hfree k ok hk hki ?_ hno
        by_cases hjk : j = k
        · subst hjk; exact hjun
        · rw [getD_set_ne true hjk] at hunk; exact hunk
      refine ⟨oj', u, hoj, hyj', ih (listed.setIfInBounds j true) _ (inv.set hj hjn) hfree' (ready_mono hr (Ne.symm hji)) hyi' ?_⟩
      rw [Array.setIfInBounds_comm _ _ hji, ← Act.put_comm a v u p2]
      exact hrest
/-- The walk: so many operations, by their numbers, each with its value. -/
def upIx (P : Program) (ops : Array Oper) (w0 : World) (Lq : Act → Prop) : List Nat → Act → Prop
  | [], a => Lq a
  | i :: is, a => ∃ oi v, ops[i]? = some oi ∧ UpG P ops w0 oi v a ∧ upIx P ops w0 Lq is (a.put oi.dst v)
def ixB (ops : Array Oper) (n g : Nat) : List Nat → Array Bool → Bool
  | [], listed => Region.seqB .any ops g n listed
  | i :: is, listed => decide (i < n) && (Region.ready .any ops listed).contains i && Region.free .any ops listed i && ixB ops n g is (listed.setIfInBounds i true)
theorem upL_lex {n e g : Nat} {Lq : Act → Prop} (hsel : Region.noSelect ops = true) (hs : wB ops n e = true) (hc : Region.chainB .any ops n = true) (hel : ∀ oe, ops[e]? = some oe → e < n → late oe = true) :
    ∀ (is : List Nat) (listed : Array Bool) (a : Act), HeadInv .any ops n listed → ixB ops n g is listed = true → upIx P ops w0 Lq is a →
    upL P ops w0 n e (fun listed' a' => Region.seqB .any ops g n listed' = true ∧ Lq a') is.length listed a
  | [], listed, a, _, hB, h => ⟨by simpa [ixB] using hB, h⟩
  | i :: is, listed, a, inv, hB, h => by
    simp only [ixB, Bool.and_eq_true, decide_eq_true_eq] at hB
    obtain ⟨⟨⟨hin, hr⟩, hf⟩, hB'⟩ := hB
    have hr' : i ∈ Region.ready .any ops listed := by simpa using hr
    obtain ⟨oi, v, ho, hy, hrest⟩ := h
    exact upL_first (Region.noSelect_spec hsel) hs hc hel (fun listed' a' hL => seqB_ready hL.1) ho hin is.length listed a inv (Region.free_spec ho hf) hr' hy
      (upL_lex hsel hs hc hel is _ _ (inv.set hr' hin) hB' hrest)
/-- What else one slot holds makes no difference to those that neither read nor write it. -/
theorem wpAny_of_up {n e g ia : Nat} {d : Option Tmp} {pv : Value} {L : Array Bool → Act → Prop} {Q' : Exit → Act → World → Prop} {D : World → Prop} (hsel : Region.noSelect ops = true) (hQ : ∀ c (a : Act) dst v w, Q' (.panic c) (a.put dst v) w → Q' (.panic c) a w) (hD : ∀ w, D w → Below w0.heap.size w0 w) (hc : ∀ w w', D w → Below w.heap.size w w' → D w')
    (hap : ∀ j oj, ops[j]? = some oj → j < n → j ≠ ia → (∀ s, d = some s → s ∉ oj.looksAt ops) ∧ (∀ s, d = some s → oj.dst ≠ some s))
    (hL : ∀ listed a w, D w → L listed a → wpAny P .any ops Q' g listed (a.put d pv) w) :
    ∀ (f : Nat) (listed : Array Bool) (a : Act) (w : World), D w → (ia = n ∨ listed.getD ia true = true) → upL P ops w0 n e L f listed a → wpAny P .any ops Q' (f + g) listed (a.put d pv) w
  | 0, listed, a, w, hw, _, h => by rw [Nat.zero_add]; exact hL _ _ _ hw h
  | f + 1, listed, a, w, hw, hia, h => by
    rw [show f + 1 + g = (f + g) + 1 by omega]
    have hne : ∀ i, i < n → i ∈ Region.ready .any ops listed → i ≠ ia := by
      rintro i hin hi rfl
      rcases hia with h1 | h1
      · omega
      · rw [(mem_ready.1 hi).1] at h1; cases h1
    rcases h with ⟨hnil, hall⟩ | ⟨h0, hen, he, oe, v, hoe, hye, hl, hfree, hLe⟩
    · refine ⟨fun h0 => absurd h0 hnil, fun i hi => ?_⟩
      obtain ⟨hin, oi, v, ho, hy, hrest⟩ := hall i hi
      obtain ⟨q1, q2⟩ := hap i oi ho hin (hne i hin hi)
      have hy' : UpG P ops w0 oi v (a.put d pv) := hy.of_same (execOp_put oi (fun cs b => Region.noSelect_spec hsel i oi cs b ho) a d pv q1) (wanted_put oi a d pv q1)
      have hq : qOp P ops D i (fun a' => a' = (a.put d pv).put oi.dst v) (a.put d pv) := (hy'.yields hD hc).qOp ho rfl
      refine wpOp_of_qOp hw (fun a' w' hw' ha => ?_) hq
      subst ha
      rw [Act.put_comm a pv v q2]
      refine wpAny_of_up hsel hQ hD hc hap hL f _ _ w' hw' ?_ hrest
      rcases hia with h1 | h1
      · exact .inl h1
      · exact .inr (by rw [getD_set_ne true (hne i hin hi)]; exact h1)
    · subst h0
      obtain ⟨q1, q2⟩ := hap e oe hoe hen (hne e hen he)
      have hy' : UpG P ops w0 oe v (a.put d pv) := hye.of_same (execOp_put oe (fun cs b => Region.noSelect_spec hsel e oe cs b hoe) a d pv q1) (wanted_put oe a d pv q1)
      refine wpAny_first hoe (Region.noSelect_spec hsel) (fun c a w h => hQ c a _ _ w h) (0 + g) listed (a.put d pv) w hfree he (hy'.2 hl) ?_
      rw [Act.put_comm a pv v q2, Nat.zero_add]
      exact hL _ _ _ hw hLe
/-- A block of its own is made among them, at whichever time. -/
theorem wpAny_of_upA {n e g ia : Nat} {oa : Oper} {obj : Obj} {L : Array Bool → Act → Prop} {Q' : Exit → Act → World → Prop} (hsel : Region.noSelect ops = true) (hQ : ∀ c (a : Act) dst v w, Q' (.panic c) (a.put dst v) w → Q' (.panic c) a w)
    (hs : wB ops n e = true) (hc : Region.chainB .any ops n = true) (hian : ia < n) (hiae : ia ≠ e)
    (hrdy : ∀ listed : Array Bool, listed.getD ia true = false → ia ∈ Region.ready .any ops listed)
    (hap : ∀ j oj, ops[j]? = some oj → j < n → j ≠ ia → (∀ s, oa.dst = some s → s ∉ oj.looksAt ops) ∧ (∀ s, oa.dst = some s → oj.dst ≠ some s))
    (hdone : ∀ listed a, L listed a → ∀ j ∈ Region.ready .any ops listed, n ≤ j)
    (halloc : ∀ (a : Act) (w : World) (K : Act → World → Prop), K (a.put oa.dst (.pointer (some ⟨w.heap.size, 0, none⟩))) (w.alloc obj) → wpOp P ops Q' ia K a w)
    (hL : ∀ M listed a w, w0.heap.size ≤ M → Below w0.heap.size w0 w → w.heap[M]? = some obj → L listed a → wpAny P .any ops Q' g listed (a.put oa.dst (.pointer (some ⟨M, 0, none⟩))) w) :
    ∀ (f : Nat) (listed : Array Bool) (a : Act) (w : World), Below w0.heap.size w0 w → ia < listed.size → HeadInv .any ops n listed → listed.getD ia true = false → upL P ops w0 n e L f (listed.setIfInBounds ia true) a → wpAny P .any ops Q' (f + 1 + g) listed a w
  | f, listed, a, w, hw, hsz, inv, hun, h => by
    rw [show f + 1 + g = (f + g) + 1 by omega]
    refine ⟨fun h0 => (by have := hrdy listed hun; rw [h0] at this; cases this), fun i hi => ?_⟩
    by_cases hii : i = ia
    · subst hii
      refine halloc a w _ ?_
      refine wpAny_of_up (ia := i) (D := fun w' => Below w0.heap.size w0 w' ∧ w'.heap[w.heap.size]? = some obj) hsel hQ (fun _ h => h.1) (fun w1 w2 h1 h2 => ⟨h1.1.trans (h2.mono h1.1.size), ?_⟩) hap (fun listed a w' hw' hl => hL w.heap.size listed a w' hw.size hw'.1 hw'.2 hl) f _ a _ ⟨hw.alloc hw.size _, Go.heap_alloc_new _ _⟩ (.inr ?_) h
      · rw [h2.block _ (by
          rcases Nat.lt_or_ge w.heap.size w1.heap.size with h3 | h3
          · exact h3
          · have := h1.2; rw [Array.getElem?_eq_none h3] at this; cases this)]
        exact h1.2
      · simp [hsz]
    · have hi' := ready_mono hi hii
      have hin : i < n := by
        rcases Nat.lt_or_ge i n with h1 | h1
        · exact h1
        · exact absurd hi (waits hs hc inv hian hiae hun i h1)
      cases f with
      | zero => exact absurd (hdone _ _ h i hi') (by omega)
      | succ f =>
        have hch : ∃ oi v, ops[i]? = some oi ∧ UpG P ops w0 oi v a ∧ upL P ops w0 n e L f ((listed.setIfInBounds ia true).setIfInBounds i true) (a.put oi.dst v) := by
          rcases h with ⟨_, hall⟩ | ⟨h0, _, _, oe, v, hoe, hye, _, _, hLe⟩
          · exact (hall i hi').2
          · subst h0
            by_cases hie : i = e
            · subst hie
              exact ⟨oe, v, hoe, hye, hLe⟩
            · exact absurd (hdone _ _ hLe i (ready_mono hi' hie)) (by omega)
        obtain ⟨oi, v, ho, hy, hrest⟩ := hch
        have hq : qOp P ops (fun w' => Below w0.heap.size w0 w') i (fun a' => a' = a.put oi.dst v) a := (hy.yields (fun _ h => h) (fun w1 w2 h1 h2 => h1.trans (h2.mono h1.size))).qOp ho rfl
        refine wpOp_of_qOp hw (fun a' w' hw' ha => ?_) hq
        subst ha
        refine wpAny_of_upA hsel hQ hs hc hian hiae hrdy hap hdone halloc hL f _ _ w' hw' (by simpa using hsz) (inv.set hi hin) ?_ ?_
        · rw [getD_set_ne true hii]; exact hun
        · rw [Array.setIfInBounds_comm _ _ hii]; exact hrest
  termination_by f => f
/-- The walk by the operations themselves. -/
def upW (P : Program) (ops : Array Oper) (w0 : World) (Lq : Act → Prop) : List Oper → Act → Prop
  | [], a => Lq a
  | o :: l, a => ∃ v, UpG P ops w0 o v a ∧ upW P ops w0 Lq l (a.put o.dst v)
theorem upIx_of_W {Lq : Act → Prop} : ∀ (is : List Nat) (l : List Oper) (a : Act), is.map (fun i => ops[i]?) = l.map some → upW P ops w0 Lq l a → upIx P ops w0 Lq is a
  | [], [], _, _, h => h
  | [], _ :: _, _, he, _ => by cases he
  | _ :: _, [], _, he, _ => by cases he
  | i :: is, o :: l, a, he, h => by
    simp only [List.map_cons, List.cons.injEq] at he
    obtain ⟨v, hy, hr⟩ := h
    exact ⟨o, v, he.1, hy, upIx_of_W is l _ he.2 hr⟩
def lateB (ops : Array Oper) (n e : Nat) : Bool := !decide (e < n) || (match ops[e]? with | some o => late o | none => true)
theorem lateB_spec {n e : Nat} (h : lateB ops n e = true) : ∀ oe, ops[e]? = some oe → e < n → late oe = true := by
  intro oe hoe hen
  unfold lateB at h
  rw [hoe] at h
  simpa [hen] using h
def upB (ops : Array Oper) (n e : Nat) (is : List Nat) : Bool :=
  Region.noSelect ops && decide (n < ops.size) && wB ops n e && Region.chainB .any ops n && lateB ops n e && ixB ops n (ops.size - n) is (Array.replicate ops.size false)
theorem head0 (ops : Array Oper) (n : Nat) : HeadInv .any ops n (Array.replicate ops.size false) :=
  ⟨by simp, fun j oj _ hl => (by rw [getD_replicate_false] at hl; cases hl), fun t _ ht => getD_in (by simpa using ht) (getD_replicate_false _ _)⟩
/-- A statement of calls and reads, whose last operations come in their order. -/
theorem wp_region_up {id : Nat} {Q : Exit → Act → World → Prop} {a : Act} {w : World} {l : List Oper} (n e : Nat) (hm : P.follows .mixedOrders = true) (hB : upB l.toArray n e (List.range n) = true) (hQ : ∀ c (a : Act) dst v w, Q (.panic c) (a.put dst v) w → Q (.panic c) a w)
    (hw : upW P l.toArray w (fun a' => ∀ w', Below w.heap.size w w' → wpList P l.toArray Q (l.drop n) a' w') (l.take n) a) : (Code.region id l.toArray true).wp P Q a w := by
  simp only [upB, Bool.and_eq_true, decide_eq_true_eq] at hB
  have h := upIx_of_W (List.range n) (l.take n) a (by
    have hn : n ≤ l.length := by have := hB.1.1.1.1.2; simp at this; omega
    apply List.ext_getElem?
    intro k
    simp only [List.getElem?_map, List.getElem?_take]
    by_cases hk : k < n
    · rw [if_pos hk]
      have : k < l.length := by omega
      simp [hk, this]
    · rw [if_neg hk]
      simp [hk]) hw
  obtain ⟨⟨⟨⟨⟨hsel, hn⟩, hs⟩, hc⟩, hel⟩, hix⟩ := hB
  have hdl : (l.drop n).length = l.toArray.size - n := by simp
  have H := upL_lex (g := l.toArray.size - n) hsel hs hc (lateB_spec hel) (List.range n) _ a (head0 l.toArray n) hix h
  refine wp_region_any hm ?_
  have := wpAny_of_up (Q' := Q) (g := l.toArray.size - n) (ia := n) (d := none) (pv := undef) (D := fun w' => Below w.heap.size w w') hsel hQ (fun _ h => h) (fun w1 w2 h1 h2 => h1.trans (h2.mono h1.size)) (fun j oj _ _ _ => ⟨fun s hs => (by cases hs), fun s hs => (by cases hs)⟩)
    (fun listed a' w' hw' hL => by
      have := wpAny_of_seq (md := .any) (Q' := Q) (l.drop n) n listed a' w' (fun j => by simp [List.getElem?_drop]) (by rw [hdl]; exact hL.1) (hL.2 w' hw')
      rwa [hdl] at this) _ _ a { w with drawn := w.drawn + 1 } ((Below.refl _ w).drew) (.inl rfl) H
  rw [List.length_range, show n + (l.toArray.size - n) = l.toArray.size by omega] at this
  exact this
def upAB (ops : Array Oper) (n e ia : Nat) (is : List Nat) : Bool :=
  Region.noSelect ops && decide (n < ops.size) && wB ops n e && Region.chainB .any ops n && lateB ops n e && decide (ia ≠ e) && decide (ia < n) && decide (is.length + 1 = n) &&
  (match ops[ia]? with
    | some oa => oa.after.all (fun e => !Region.binds .any e) && (List.range n).all fun j => j == ia || (match ops[j]? with | some oj => oa.apart ops oj | none => false)
    | none => false) && (Region.ready .any ops (Array.replicate ops.size false)).contains ia && ixB ops n (ops.size - n) is ((Array.replicate ops.size false).setIfInBounds ia true)
/-- The same, where one of the first operations makes a block. -/
theorem wp_region_upA {id : Nat} {Q : Exit → Act → World → Prop} {a : Act} {w : World} {l : List Oper} (n e ia : Nat) (is : List Nat) (oa : Oper) (obj : Obj) (hm : P.follows .mixedOrders = true) (hB : upAB l.toArray n e ia is = true) (hQ : ∀ c (a : Act) dst v w, Q (.panic c) (a.put dst v) w → Q (.panic c) a w) (hoa : l.toArray[ia]? = some oa)
    (halloc : ∀ (a : Act) (w : World) (K : Act → World → Prop), K (a.put oa.dst (.pointer (some ⟨w.heap.size, 0, none⟩))) (w.alloc obj) → wpOp P l.toArray Q ia K a w)
    (his : is.map (fun i => l.toArray[i]?) = ((l.take n).eraseIdx ia).map some)
    (hw : upW P l.toArray w (fun a' => ∀ M w', w.heap.size ≤ M → Below w.heap.size w w' → w'.heap[M]? = some obj → wpList P l.toArray Q (l.drop n) (a'.put oa.dst (.pointer (some ⟨M, 0, none⟩))) w') ((l.take n).eraseIdx ia) a) : (Code.region id l.toArray true).wp P Q a w := by
  have h := upIx_of_W is _ a his hw
  simp only [upAB, Bool.and_eq_true, decide_eq_true_eq] at hB
  obtain ⟨⟨⟨⟨⟨⟨⟨⟨⟨⟨hsel, hn⟩, hs⟩, hc⟩, hel⟩, hiae⟩, hian⟩, hlen⟩, hap⟩, hr0⟩, hix⟩ := hB
  rw [hoa] at hap
  simp only [Bool.and_eq_true] at hap
  obtain ⟨haf, hap⟩ := hap
  have hdl : (l.drop n).length = l.toArray.size - n := by simp
  have hr0' : ia ∈ Region.ready .any l.toArray (Array.replicate l.toArray.size false) := by simpa using hr0
  have H := upL_lex (g := l.toArray.size - n) hsel hs hc (lateB_spec hel) is _ a ((head0 l.toArray n).set hr0' hian) hix h
  refine wp_region_any hm ?_
  have := wpAny_of_upA (Q' := Q) (g := l.toArray.size - n) (obj := obj) hsel hQ hs hc hian hiae
    (fun listed hun => mem_ready.2 ⟨hun, oa, hoa, fun e he hb => by
      have := Array.all_eq_true_iff_forall_mem.1 haf e he
      rw [hb] at this
      cases this⟩)
    (fun j oj hj hjn hne => by
      have := List.all_eq_true.1 hap j (List.mem_range.2 hjn)
      rw [hj] at this
      simp only [Bool.or_eq_true, beq_iff_eq] at this
      rcases this with h1 | h1
      · exact absurd h1 hne
      · obtain ⟨p1, p2, _⟩ := Oper.apart_spec h1
        exact ⟨p1, p2⟩)
    (fun listed' a' hL => seqB_ready hL.1) halloc
    (fun M listed a' w' hM hw' hblk hL => by
      have := wpAny_of_seq (md := .any) (Q' := Q) (l.drop n) n listed (a'.put oa.dst (.pointer (some ⟨M, 0, none⟩))) w' (fun j => by simp [List.getElem?_drop]) (by rw [hdl]; exact hL.1) (hL.2 M w' hM hw' hblk)
      rwa [hdl] at this) _ _ a { w with drawn := w.drawn + 1 } ((Below.refl _ w).drew) (by rw [Array.size_replicate]; omega) (head0 l.toArray n) (getD_in (by rw [Array.size_replicate]; omega) (getD_replicate_false _ _)) H
  rw [hlen, show n + (l.toArray.size - n) = l.toArray.size by omega] at this
  exact this

/-! ### Single operations -/

/-- An operation that calls nothing. -/
def Oper.calm (o : Oper) : Bool :=
  match o.op with
  | .move _ | .assign _ | .load _ _ | .build _ _ | .binOp _ _ _ _ _ | .unOp _ _ _ | .convert _ _ _ | .slice _ _ _ _ _ | .fieldAddr _ _ _ | .field _ _ _ | .indexAddr _ _ _ | .index _ _ _ | .extract _ _ | .pick _ _ _ => true
  | _ => false
theorem quietAt_calm {o : Oper} {a : Act} {C D : World → Prop} {w : World} {v : Value} (hc : Oper.calm o = true) (hq : o.quietAt P a C w v) : o.quietAt P a D w v := by
  have key : ∀ s : Sem Value, Oper.quietUpon P C w v ((do pure (Next.value (← s)) : Sem Next).run P w) → Oper.quietUpon P D w v ((do pure (Next.value (← s)) : Sem Next).run P w) := by
    intro s h
    rw [Sem.run_bind] at h ⊢
    cases hs : s.run P w with
    | ok x w' => rw [hs] at h; simpa only [Result.andThen_ok, Sem.run_pure, Oper.quietUpon] using h
    | halt x w' => rw [hs] at h; simp only [Result.andThen, Oper.quietUpon] at h
  unfold Oper.quietAt at *
  unfold execOp at *
  unfold Oper.calm at hc
  cases ho : o.op <;> simp only [ho] at hc hq ⊢ <;> first
    | exact key _ hq
    | (simp only [Sem.run_pure, Oper.quietUpon] at hq ⊢; exact hq)
    | (simp only [Sem.run_pure, Oper.quietUpon] at hq; done)
    | (cases hc; done)
    | skip
  case pick c x y =>
    rw [Sem.run_bind] at hq ⊢
    cases hs : (asBool (a.eval c)).run P w with
    | ok b w' => rw [hs] at hq; simpa only [Result.andThen_ok, Sem.run_pure, Oper.quietUpon] using hq
    | halt x w' => rw [hs] at hq; simp only [Result.andThen, Oper.quietUpon] at hq
theorem upW_nil {Lq : Act → Prop} {a : Act} (h : Lq a) : upW P ops w0 Lq [] a := h
theorem upW_val {Lq : Act → Prop} {l : List Oper} {a : Act} {o : Oper} (hw : Region.wanted o (yielded ops a.tmps) = true) (hc : Oper.calm o = true) (hn : late o = false)
    (h : ∀ K : Act → Prop, (∀ a', upW P ops w0 Lq l a' → K a') → o.quiet P a (fun w' => ∃ p : Ext w0, w' = p.x) K) : upW P ops w0 Lq (o :: l) a := by
  obtain ⟨v, h1, h2⟩ := h _ (fun _ h => h)
  exact ⟨v, ⟨.inl ⟨hw, fun p => quietAt_calm hc (h1 p.x ⟨p, rfl⟩)⟩, fun h => by rw [hn] at h; cases h⟩, h2⟩
theorem upW_skip {Lq : Act → Prop} {l : List Oper} {a : Act} {o : Oper} (hw : Region.wanted o (yielded ops a.tmps) = false)
    (h : upW P ops w0 Lq l (a.put o.dst undef)) : upW P ops w0 Lq (o :: l) a :=
  ⟨undef, ⟨.inr ⟨hw, rfl⟩, fun _ => .inr ⟨hw, rfl⟩⟩, h⟩
theorem upW_call {Lq : Act → Prop} {l : List Oper} {a : Act} {o : Oper} (hw : Region.wanted o (yielded ops a.tmps) = true) (hn : late o = false) (v : Value) (d : Tmp) (hd : o.dst = some d) (hs : d < a.tmps.size)
    (h : ∀ p : Ext w0, o.quiet P a (fun w' => ∃ q : Ext p.x, w' = q.x) (fun a' => a' = a.put o.dst v)) (hr : upW P ops w0 Lq l (a.put o.dst v)) : upW P ops w0 Lq (o :: l) a := by
  refine ⟨v, ⟨.inl ⟨hw, fun p => ?_⟩, fun h => by rw [hn] at h; cases h⟩, hr⟩
  obtain ⟨u, h1, h2⟩ := h p
  have : u = v := by
    rw [hd] at h2
    have h3 := congrArg (fun b : Act => b.tmps[d]?) h2
    simpa [Act.put, hs] using h3
  subst this
  exact quietAt_mono (fun w' ⟨q, hq⟩ => by rw [hq]; exact q.h) (h1 p.x ⟨⟨p.x, Below.refl _ _⟩, rfl⟩)
theorem upW_late {Lq : Act → Prop} {l : List Oper} {a : Act} {o : Oper} (hw : Region.wanted o (yielded ops a.tmps) = true) (v : Value) (h : ∀ w, (execOp a.eval o).run P w = .ok (.value v) w) (hr : upW P ops w0 Lq l (a.put o.dst v)) : upW P ops w0 Lq (o :: l) a :=
  ⟨v, ⟨.inl ⟨hw, fun p => by unfold Oper.quietAt; rw [h]; exact ⟨rfl, rfl⟩⟩, fun _ => .inl ⟨hw, h⟩⟩, hr⟩
theorem quiet_load_row {o : Oper} {a : Act} {K : Act → Prop} (ty : TypeId) (x : Operand) (ho : o.op = .load ty x) (g : Nat) (hx : a.eval x = .pointer (some ⟨g, 0, none⟩)) (t : TypeId) (cs : Array Value) (fr : Nat × Nat) (d : TypeDesc) (hg : w0.heap[g]? = some (.cells cs t fr))
    (hu : P.underlying ty = some d) (hd : (match d with | .struct _ | .array _ _ => true | _ => false) = true) (hi : (P.info? ty).map (·.size) = some cs.size) (h : K (a.put o.dst (.agg cs))) :
    o.quiet P a (fun w' => ∃ p : Ext w0, w' = p.x) K := by
  refine ⟨_, fun w ⟨p, hp⟩ => ?_, h⟩
  subst hp
  have hgp : p.x.heap[g]? = some (.cells cs t fr) := by rw [p.h.block g (Array.getElem?_eq_some_iff.1 hg).1]; exact hg
  unfold Oper.quietAt execOp
  simp only [ho, hx, Instr.loadAt, Instr.sureAddr, Sem.run_bind, Sem.run_pure, Result.andThen_ok, run_loadVar_row p.x g t ty cs fr d hgp hu hd hi, Oper.quietUpon]
  exact ⟨trivial, trivial⟩
theorem Ext.cell {b i : Nat} {v : Value} (h : w0.cell? ⟨b, i, none⟩ = some v) (p : Ext w0) : p.x.cell? ⟨b, i, none⟩ = some v := by
  rw [World.cell?_of_block (p.h.block b (block_lt_of_cell h))]; exact h
theorem wpOp_of_run {i : Nat} {o : Oper} {a : Act} {w w1 : World} {K : Act → World → Prop} {Q' : Exit → Act → World → Prop} {v : Value} (hi : ops[i]? = some o) (hg : o.guard = none) (hr : (execOp a.eval o).run P w = .ok (.value v) w1) (hK : K (a.put o.dst v) w1) : wpOp P ops Q' i K a w := by
  unfold wpOp
  simp only [hi]
  rw [if_pos (by simp [Region.wanted, hg])]
  left
  unfold Oper.wp
  rw [hr, Oper.upon_value]
  exact hK
theorem Calls.ext_of {f : FuncId} {args : Array Value} {p : Ext w0} {v : Value} (h : Calls P f args p.x fun e w' => e = .returned v ∧ Below p.x.heap.size p.x w') :
    Calls P f args p.x fun e w'' => e = .returned v ∧ ∃ q : Ext w0, w'' = q.x := h.mono fun _ w' ⟨he, hb⟩ => ⟨he, ⟨w', p.h.trans (hb.mono p.h.size)⟩, rfl⟩
end
end Go.Proofs.Ytfmclkmmkceldaa
