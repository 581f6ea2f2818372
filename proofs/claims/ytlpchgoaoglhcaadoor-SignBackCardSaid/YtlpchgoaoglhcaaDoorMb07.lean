/-
  Rows of cells by value: numbers and points as the program and the document hold them; loads of parts, new blocks, results.
  Numbers round the prime: what undoes a number; roots.
  Numbers round the prime: roots.
  Package field's functions as sums and products in the field; what is built of parts.
  Conditions: none.
-/
import Derived.Test.YtlpchgoaoglhcaaDoorMb06
import Derived.Test.YtlpchgoaoglhcaaDoorUpT
import Derived.Deep.MidRow
import Derived.Great.FillDense
namespace Go.Proofs.YtlpchgoaoglhcaaDoor
open Go.RowKit
/-- The cells of a block. -/
def CT (w : World) (b : Nat) (t : TypeId) (X : Array Value) : Prop := w.heap[b]? = some (.cells X t (0, 0))
theorem CT.lt {w : World} {b : Nat} {t : TypeId} {X : Array Value} (h : CT w b t X) : b < w.heap.size := (Array.getElem?_eq_some_iff.1 h).1
theorem CT.other {w w' : World} {b : Nat} {t : TypeId} {X : Array Value} (h : CT w b t X) (e : w'.heap[b]? = w.heap[b]?) : CT w' b t X := e.trans h
theorem CT.ext {w w' : World} {b : Nat} {t : TypeId} {X : Array Value} (h : CT w b t X) (p : Below w.heap.size w w') : CT w' b t X := h.other (p.block b h.lt)
/-! ### What a function makes at its start -/
theorem size_alloc1 (w : World) (a : Obj) : (w.alloc a).heap.size = w.heap.size + 1 := by simp
theorem allocs1_at (w : World) (a : Obj) : (w.alloc a).heap[w.heap.size]? = some a := Go.heap_alloc_new _ _
theorem allocs2_at (w : World) (a b : Obj) : ((w.alloc a).alloc b).heap[w.heap.size]? = some a ∧ ((w.alloc a).alloc b).heap[w.heap.size + 1]? = some b := alloc2_at w a b
theorem allocs3_at (w : World) (a b c : Obj) : (((w.alloc a).alloc b).alloc c).heap[w.heap.size]? = some a ∧ (((w.alloc a).alloc b).alloc c).heap[w.heap.size + 1]? = some b ∧ (((w.alloc a).alloc b).alloc c).heap[w.heap.size + 1 + 1]? = some c := by
  have h := allocs2_at (w.alloc a) b c
  simp only [size_alloc1] at h
  have h0 := allocs2_at w a b
  exact ⟨(Go.heap_alloc_old _ _ (by simp; omega)).trans h0.1, h⟩
theorem allocs4_at (w : World) (a b c d : Obj) : ((((w.alloc a).alloc b).alloc c).alloc d).heap[w.heap.size]? = some a ∧ ((((w.alloc a).alloc b).alloc c).alloc d).heap[w.heap.size + 1]? = some b ∧ ((((w.alloc a).alloc b).alloc c).alloc d).heap[w.heap.size + 1 + 1]? = some c ∧ ((((w.alloc a).alloc b).alloc c).alloc d).heap[w.heap.size + 1 + 1 + 1]? = some d := by
  have h := allocs3_at (w.alloc a) b c d
  simp only [size_alloc1] at h
  have h0 := allocs3_at w a b c
  exact ⟨(Go.heap_alloc_old _ _ (by simp; omega)).trans h0.1, h⟩
theorem allocs5_at (w : World) (a b c d e : Obj) : (((((w.alloc a).alloc b).alloc c).alloc d).alloc e).heap[w.heap.size]? = some a ∧ (((((w.alloc a).alloc b).alloc c).alloc d).alloc e).heap[w.heap.size + 1]? = some b ∧ (((((w.alloc a).alloc b).alloc c).alloc d).alloc e).heap[w.heap.size + 1 + 1]? = some c ∧ (((((w.alloc a).alloc b).alloc c).alloc d).alloc e).heap[w.heap.size + 1 + 1 + 1]? = some d ∧ (((((w.alloc a).alloc b).alloc c).alloc d).alloc e).heap[w.heap.size + 1 + 1 + 1 + 1]? = some e := by
  have h := allocs4_at (w.alloc a) b c d e
  simp only [size_alloc1] at h
  have h0 := allocs4_at w a b c d
  exact ⟨(Go.heap_alloc_old _ _ (by simp; omega)).trans h0.1, h⟩
theorem allocs1_below (w : World) (a : Obj) : Below w.heap.size w (w.alloc a) := (Below.refl _ w).alloc (Nat.le_refl _) _
theorem allocs2_below (w : World) (a b : Obj) : Below w.heap.size w ((w.alloc a).alloc b) := (allocs1_below w a).alloc (by simp) _
theorem allocs3_below (w : World) (a b c : Obj) : Below w.heap.size w (((w.alloc a).alloc b).alloc c) := (allocs2_below w a b).alloc (by simp; omega) _
theorem allocs4_below (w : World) (a b c d : Obj) : Below w.heap.size w ((((w.alloc a).alloc b).alloc c).alloc d) := (allocs3_below w a b c).alloc (by simp; omega) _
theorem allocs5_below (w : World) (a b c d e : Obj) : Below w.heap.size w (((((w.alloc a).alloc b).alloc c).alloc d).alloc e) := (allocs4_below w a b c d).alloc (by simp; omega) _
/-- So many cells. -/
structure Rw (X : Array Value) (n : Nat) : Prop where
  size : X.size = n
  one : X.all (·.oneCell') = true
theorem Rw.info {P : Program} {T : TypeId} {X : Array Value} {n : Nat} (h : Rw X n) (hi : (P.info? T).map (·.size) = some n) : (P.info? T).map (·.size) = some X.size := by rw [h.size]; exact hi
theorem Rw.same {X Y : Array Value} {n : Nat} (h : Rw X n) (k : Rw Y n) : X.size = Y.size := h.size.trans k.size.symm
theorem rw_bytes {l : List UInt8} {n : Nat} (h : l.length = n) : Rw (byteVals l).toArray n := ⟨(size_byteVals l).trans h, byteVals_one l⟩
/-- Bytes as they came; a number; a point's bytes; four numbers. -/
def RB (l : List UInt8) : Array Value := (byteVals l).toArray
def PB (n : Nat) : Array Value := (byteVals (b32 n)).toArray
def NB (a : Fp) : Array Value := (byteVals (b32 a.val)).toArray
def FR (a b c d : Fp) : Array Value := (byteVals (b32 a.val ++ (b32 b.val ++ (b32 c.val ++ b32 d.val)))).toArray
theorem RB_rw {l : List UInt8} (h : l.length = 32) : Rw (RB l) 32 := rw_bytes h
theorem PB_rw (n : Nat) : Rw (PB n) 32 := rw_bytes (b32_len _)
theorem NB_rw (a : Fp) : Rw (NB a) 32 := rw_bytes (b32_len _)
theorem FR_rw (a b c d : Fp) : Rw (FR a b c d) 128 := rw_bytes (by simp [b32_len])
/-- The cells stand for the number. -/
def IsN (X : Array Value) (a : Fp) : Prop := ∃ l, l.length = 32 ∧ X = RB l ∧ fp (le l) = a
theorem Fp.lt256 (a : Fp) : a.val < 115792089237316195423570985008687907853269984665640564039457584007913129639936 := lt4 a.isLt
theorem le_nb (a : Fp) : le (b32 a.val) = a.val := le_b32 _ a.lt256
theorem isN_NB (a : Fp) : IsN (NB a) a := ⟨b32 a.val, b32_len _, rfl, by rw [le_nb]; exact fp_val a⟩
/-! ### Parts of a block -/
theorem part_in {α : Type} (pre mid post : List α) {j : Nat} {v : α} (h : mid[j]? = some v) : (pre ++ (mid ++ post))[pre.length + j]? = some v := by
  rw [List.getElem?_append_right (Nat.le_add_right _ _), Nat.add_sub_cancel_left, List.getElem?_append_left (List.getElem?_eq_some_iff.1 h).1]
  exact h
theorem bytes_part (pre mid post : List UInt8) (o : Nat) (ho : pre.length = o) : ∀ (j : Nat) (v : Value), (byteVals mid).toArray[j]? = some v → (byteVals (pre ++ (mid ++ post))).toArray[o + j]? = some v := by
  intro j v h
  have h' : (byteVals mid)[j]? = some v := by simpa using h
  have := part_in (byteVals pre) (byteVals mid) (byteVals post) h'
  rw [show (byteVals pre).length = o by simp [byteVals, ho]] at this
  simpa [byteVals] using this
theorem FR_0 (a b c d : Fp) : ∀ (j : Nat) (v : Value), (NB a)[j]? = some v → (FR a b c d)[0 + j]? = some v := bytes_part [] _ _ 0 rfl
theorem FR_1 (a b c d : Fp) : ∀ (j : Nat) (v : Value), (NB b)[j]? = some v → (FR a b c d)[32 + j]? = some v := bytes_part (b32 a.val) _ _ 32 (b32_len _)
theorem FR_2 (a b c d : Fp) : ∀ (j : Nat) (v : Value), (NB c)[j]? = some v → (FR a b c d)[64 + j]? = some v := by
  have := bytes_part (b32 a.val ++ b32 b.val) (b32 c.val) (b32 d.val) 64 (by simp [b32_len])
  rwa [List.append_assoc] at this
theorem FR_3 (a b c d : Fp) : ∀ (j : Nat) (v : Value), (NB d)[j]? = some v → (FR a b c d)[96 + j]? = some v := by
  have := bytes_part (b32 a.val ++ (b32 b.val ++ b32 c.val)) (b32 d.val) [] 96 (by simp [b32_len])
  rwa [List.append_nil, List.append_assoc, List.append_assoc] at this
section
variable {P : Program} {w0 : World}
theorem quiet_load_ct {o : Oper} {a : Act} {K : Act → Prop} (ty : TypeId) (x : Operand) (ho : o.op = .load ty x) (g : Nat) (hx : a.eval x = .pointer (some ⟨g, 0, none⟩)) (t : TypeId) (X : Array Value) (n : Nat) (hr : Rw X n) (d : TypeDesc) (hg : CT w0 g t X)
    (hu : P.underlying ty = some d) (hd : (match d with | .struct _ | .array _ _ => true | _ => false) = true) (hi : (P.info? ty).map (·.size) = some n) (h : K (a.put o.dst (.agg X))) :
    o.quiet P a (fun w' => ∃ p : Ext w0, w' = p.x) K := quiet_load_row ty x ho g hx t X (0, 0) d hg hu hd (hr.info hi) h
theorem quiet_load_part {o : Oper} {a : Act} {K : Act → Prop} (ty : TypeId) (x : Operand) (ho : o.op = .load ty x) (g off : Nat) (hx : a.eval x = .pointer (some ⟨g, off, none⟩)) (t : TypeId) (X M : Array Value) (n : Nat) (hr : Rw M n) (d : TypeDesc) (hg : CT w0 g t X)
    (hp : ∀ (j : Nat) (v : Value), M[j]? = some v → X[off + j]? = some v)
    (hu : P.underlying ty = some d) (hd : d.isRow = true) (hi : (P.info? ty).map (·.size) = some n) (h : K (a.put o.dst (.agg M))) :
    o.quiet P a (fun w' => ∃ p : Ext w0, w' = p.x) K := by
  refine ⟨_, fun w ⟨p, hp⟩ => ?_, h⟩
  subst hp
  have hgp : p.x.heap[g]? = some (.cells X t (0, 0)) := hg.ext p.h
  have hc : p.x.rangeAt g off M.toList := fun j v hv => by
    have h1 := hp j v (by simpa using hv)
    show p.x.cell? ⟨g, off + j, none⟩ = some v
    unfold World.cell?
    simp [hgp, h1]
  have hi' : (P.info? ty).map (·.size) = some M.toList.length := by simpa using hr.info hi
  unfold Oper.quietAt execOp
  simp only [ho, hx, Instr.loadAt, Instr.sureAddr, Sem.run_bind, Sem.run_pure, Result.andThen_ok, run_loadVar_mid p.x g off ty M.toList d hc hu hd hi', Oper.quietUpon]
  exact ⟨trivial, trivial⟩
/-! ### New blocks -/
theorem alloc_run (T : TypeId) (Z : Array Value) (hz : ∀ w, (zeroValue T).run P w = .ok (.agg Z) w) (a : Act) (o : Oper) (ho : o.op = .alloc T) (w : World) : (execOp a.eval o).run P w = .ok (.value (.pointer (some ⟨w.heap.size, 0, none⟩))) (w.alloc (.cells Z T)) := by
  unfold execOp
  simp only [ho]
  simp [go_sem, Instr.alloc, hz, Value.cells]
variable {ops : Array Oper} {Q : Exit → Act → World → Prop} {rest : List Oper}
theorem wpList_alloc {oa : Oper} {a : Act} {w : World} (ga : oa.guard = none) (T : TypeId) (hoa : oa.op = .alloc T) (Z : Array Value) (hz : ∀ w, (zeroValue T).run P w = .ok (.agg Z) w)
    (h : wpList P ops Q rest (a.put oa.dst (.pointer (some ⟨w.heap.size, 0, none⟩))) (w.alloc (.cells Z T))) : wpList P ops Q (oa :: rest) a w :=
  wpList_plain ga fun K hK => by
    unfold Oper.wp
    rw [alloc_run T Z hz a oa hoa w, Oper.upon_value]
    exact hK _ _ h
theorem wpList_new1 {oa os : Oper} {a : Act} {w : World} (ga : oa.guard = none) (T : TypeId) (hoa : oa.op = .alloc T) (Z : Array Value) (hz : ∀ w, (zeroValue T).run P w = .ok (.agg Z) w)
    (gs : os.guard = none) (x y : Operand) (hos : os.op = .store T x y) (hx : (a.put oa.dst (.pointer (some ⟨w.heap.size, 0, none⟩))).eval x = .pointer (some ⟨w.heap.size, 0, none⟩)) (X : Array Value) (n : Nat) (hr : Rw X n) (hzs : Z.size = n) (hi : (P.info? T).map (·.size) = some n) (hds : os.dst = none)
    (hy : (a.put oa.dst (.pointer (some ⟨w.heap.size, 0, none⟩))).eval y = .agg X)
    (h : ∀ (M : Nat) (w' : World), w.heap.size = M → Below w.heap.size w w' → CT w' M T X → wpList P ops Q rest (a.put oa.dst (.pointer (some ⟨M, 0, none⟩))) w') : wpList P ops Q (oa :: os :: rest) a w := by
  refine wpList_alloc ga T hoa Z hz (wpList_store_row gs T x y hos w.heap.size X hx hy T Z (Go.heap_alloc_new _ _) (hr.info hi) (hzs.trans hr.size.symm) hr.one ?_)
  rw [hds]
  exact h _ _ rfl (Below.setRow ((Below.refl _ w).alloc (Nat.le_refl _) _) (Nat.le_refl _) _) (setRow_heap _ _ _ _ _ _ (Go.heap_alloc_new _ _))
theorem wpList_new2 {oa ob os ot : Oper} {a : Act} {w : World} (ga : oa.guard = none) (gb : ob.guard = none) (T : TypeId) (hoa : oa.op = .alloc T) (hob : ob.op = .alloc T) (Z : Array Value) (hz : ∀ w, (zeroValue T).run P w = .ok (.agg Z) w)
    (gs : os.guard = none) (gt : ot.guard = none) (x y x' y' : Operand) (hos : os.op = .store T x y) (hot : ot.op = .store T x' y') (X Y : Array Value) (n : Nat) (hr : Rw X n) (hr' : Rw Y n) (hzs : Z.size = n) (hi : (P.info? T).map (·.size) = some n) (hds : os.dst = none) (hdt : ot.dst = none)
    (hx : ((a.put oa.dst (.pointer (some ⟨w.heap.size, 0, none⟩))).put ob.dst (.pointer (some ⟨w.heap.size + 1, 0, none⟩))).eval x = .pointer (some ⟨w.heap.size, 0, none⟩))
    (hy : ((a.put oa.dst (.pointer (some ⟨w.heap.size, 0, none⟩))).put ob.dst (.pointer (some ⟨w.heap.size + 1, 0, none⟩))).eval y = .agg X)
    (hx' : ((a.put oa.dst (.pointer (some ⟨w.heap.size, 0, none⟩))).put ob.dst (.pointer (some ⟨w.heap.size + 1, 0, none⟩))).eval x' = .pointer (some ⟨w.heap.size + 1, 0, none⟩))
    (hy' : ((a.put oa.dst (.pointer (some ⟨w.heap.size, 0, none⟩))).put ob.dst (.pointer (some ⟨w.heap.size + 1, 0, none⟩))).eval y' = .agg Y)
    (h : ∀ (M M' : Nat) (w' : World), w.heap.size = M → M + 1 = M' → Below w.heap.size w w' → CT w' M T X → CT w' M' T Y → wpList P ops Q rest ((a.put oa.dst (.pointer (some ⟨M, 0, none⟩))).put ob.dst (.pointer (some ⟨M', 0, none⟩))) w') : wpList P ops Q (oa :: ob :: os :: ot :: rest) a w := by
  refine wpList_alloc ga T hoa Z hz (wpList_alloc gb T hob Z hz ?_)
  rw [show (w.alloc (.cells Z T)).heap.size = w.heap.size + 1 by simp]
  have h2 := alloc2_at w (.cells Z T) (.cells Z T)
  refine wpList_store_row gs T x y hos w.heap.size X hx hy T Z h2.1 (hr.info hi) (hzs.trans hr.size.symm) hr.one ?_
  rw [hds]
  refine wpList_store_row gt T x' y' hot (w.heap.size + 1) Y hx' hy' T Z ((setRow_other _ _ _ _ (by omega)).trans h2.2) (hr'.info hi) (hzs.trans hr'.size.symm) hr'.one ?_
  rw [hdt]
  refine h _ _ _ rfl rfl (Below.setRow (Below.setRow (((Below.refl _ w).alloc (Nat.le_refl _) _).alloc (by simp) _) (Nat.le_refl _) _) (by omega) _) ((setRow_other _ _ _ _ (by omega)).trans (setRow_heap _ _ _ _ _ _ h2.1)) (setRow_heap _ _ _ _ _ _ ((setRow_other _ _ _ _ (by omega)).trans h2.2))
theorem wpList_store_ct {o : Oper} {a : Act} {w : World} (hgd : o.guard = none) (ty : TypeId) (x y : Operand) (ho : o.op = .store ty x y)
    (g : Nat) (X : Array Value) (hx : a.eval x = .pointer (some ⟨g, 0, none⟩)) (hy : a.eval y = .agg X)
    (t : TypeId) (old : Array Value) (n : Nat) (hg : CT w g t old) (hi : (P.info? ty).map (·.size) = some n) (hro : Rw old n) (hr : Rw X n) (hds : o.dst = none)
    (h : ∀ w', CT w' g t X → (∀ b, b ≠ g → w'.heap[b]? = w.heap[b]?) → (∀ B u, Below B u w → B ≤ g → Below B u w') → wpList P ops Q rest a w') : wpList P ops Q (o :: rest) a w := by
  refine wpList_store_row hgd ty x y ho g X hx hy t old hg (hr.info hi) (hro.same hr) hr.one ?_
  rw [hds]
  exact h _ (setRow_heap _ _ _ _ _ _ hg) (fun b hb => setRow_other _ _ _ _ hb) (fun B u hB hle => Below.setRow hB hle _)
theorem results_ct {fn : Func} {p : Tmp} {ty : TypeId} (h : fn.results = #[.cell p ty]) (tmps : Array Value) (w : World) (g : Nat) (t : TypeId) (X : Array Value) (n : Nat) (d : TypeDesc)
    (hp : tmps.getD p undef = .pointer (some ⟨g, 0, none⟩)) (hg : CT w g t X) (hr : Rw X n)
    (hu : P.underlying ty = some d) (hd : (match d with | .struct _ | .array _ _ => true | _ => false) = true) (hi : (P.info? ty).map (·.size) = some n) :
    (results fn tmps).run P w = .ok (.agg X) w := results_cell_row h tmps w g t X (0, 0) d hp hg hu hd (hr.info hi)
theorem results_ct_slot {fn : Func} {p q : Tmp} {ty : TypeId} (h : fn.results = #[.cell p ty, .tmp q]) (tmps : Array Value) (w : World) (g : Nat) (t : TypeId) (X : Array Value) (n : Nat) (d : TypeDesc) (v : Value)
    (hp : tmps.getD p undef = .pointer (some ⟨g, 0, none⟩)) (hg : CT w g t X) (hr : Rw X n)
    (hu : P.underlying ty = some d) (hd : (match d with | .struct _ | .array _ _ => true | _ => false) = true) (hi : (P.info? ty).map (·.size) = some n) (hv : tmps.getD q undef = v) :
    (results fn tmps).run P w = .ok (.tuple #[.agg X, v]) w := results_cell_slot h tmps w g t X (0, 0) d v hp hg hu hd (hr.info hi) hv
theorem results_ct2_slot {fn : Func} {p p' q : Tmp} {ty ty' : TypeId} (h : fn.results = #[.cell p ty, .cell p' ty', .tmp q]) (tmps : Array Value) (w : World) (g g' : Nat) (t t' : TypeId) (X Y : Array Value) (n n' : Nat) (d d' : TypeDesc) (v : Value)
    (hp : tmps.getD p undef = .pointer (some ⟨g, 0, none⟩)) (hg : CT w g t X) (hr : Rw X n) (hp' : tmps.getD p' undef = .pointer (some ⟨g', 0, none⟩)) (hg' : CT w g' t' Y) (hr' : Rw Y n')
    (hu : P.underlying ty = some d) (hd : (match d with | .struct _ | .array _ _ => true | _ => false) = true) (hi : (P.info? ty).map (·.size) = some n)
    (hu' : P.underlying ty' = some d') (hd' : (match d' with | .struct _ | .array _ _ => true | _ => false) = true) (hi' : (P.info? ty').map (·.size) = some n') (hv : tmps.getD q undef = v) :
    (results fn tmps).run P w = .ok (.tuple #[.agg X, .agg Y, v]) w := by
  have hp1 : tmps[p]?.getD undef = .pointer (some ⟨g, 0, none⟩) := by simpa using hp
  have hp2 : tmps[p']?.getD undef = .pointer (some ⟨g', 0, none⟩) := by simpa using hp'
  have hv' : tmps[q]?.getD undef = v := by simpa using hv
  simp [results, h, hp1, hp2, hv', asAddr, run_loadVar_row w g t ty X (0, 0) d hg hu hd (hr.info hi), run_loadVar_row w g' t' ty' Y (0, 0) d' hg' hu' hd' (hr'.info hi')]
/-! ### 'return x, y, true': either load may come late -/
theorem act_comm (a : Act) (d e : Tmp) (u v : Value) (h : d ≠ e) : (a.put (some d) u).put (some e) v = (a.put (some e) v).put (some d) u := by
  simp only [Act.put]
  congr 1
  exact (Array.setIfInBounds_comm u v (by omega)).symm ▸ rfl
theorem run_load_ct {o : Oper} {a : Act} (ty : TypeId) (x : Operand) (ho : o.op = .load ty x) (g : Nat) (hx : a.eval x = .pointer (some ⟨g, 0, none⟩)) (t : TypeId) (X : Array Value) (n : Nat) (hr : Rw X n) (d : TypeDesc) (hd : (match d with | .struct _ | .array _ _ => true | _ => false) = true) {w : World} (hg : CT w g t X)
    (hu : P.underlying ty = some d) (hi : (P.info? ty).map (·.size) = some n) : (execOp a.eval o).run P w = .ok (.value (.agg X)) w := by
  unfold execOp
  simp only [ho, hx, Instr.loadAt, Instr.sureAddr, Sem.run_bind, Sem.run_pure, Result.andThen_ok, run_loadVar_row w g t ty X (0, 0) d hg hu (by revert hd; cases d <;> intro hd <;> first | rfl | cases hd) (hr.info hi)]
theorem run_store_ct {o : Oper} {a : Act} (ty : TypeId) (x y : Operand) (ho : o.op = .store ty x y) (g : Nat) (X : Array Value) (hx : a.eval x = .pointer (some ⟨g, 0, none⟩)) (hy : a.eval y = .agg X)
    (t : TypeId) (old : Array Value) (n : Nat) {w : World} (hg : CT w g t old) (hi : (P.info? ty).map (·.size) = some n) (hro : Rw old n) (hr : Rw X n) : (execOp a.eval o).run P w = .ok .skip (w.setRow g X) := by
  unfold execOp
  simp only [ho, hx, hy, Instr.storeAt, Instr.sureAddr, Sem.run_bind, Sem.run_pure, Result.andThen_ok, run_storeVar_row w g t ty old X hg (hr.info hi) (hro.same hr) hr.one]
theorem wpOp_of_skip {ops : Array Oper} {Q' : Exit → Act → World → Prop} {i : Nat} {o : Oper} {a : Act} {w w1 : World} {K : Act → World → Prop} (hi : ops[i]? = some o) (hg : o.guard = none) (hr : (execOp a.eval o).run P w = .ok .skip w1) (hK : K (a.put o.dst undef) w1) : wpOp P ops Q' i K a w := by
  unfold wpOp
  simp only [hi]
  rw [if_pos (by simp [Region.wanted, hg])]
  left
  unfold Oper.wp
  rw [hr]
  exact hK
def rdy (l : List Oper) (s : List Bool) : List Nat := Region.ready .any l.toArray s.toArray
theorem wp_region_ret2 {id : Nat} {Q : Exit → Act → World → Prop} {a : Act} {w : World} {o0 o1 o2 o3 o4 : Oper} (hm : P.follows .mixedOrders = true)
    (e0 : rdy [o0, o1, o2, o3, o4] [false, false, false, false, false] = [0, 1]) (e1 : rdy [o0, o1, o2, o3, o4] [true, false, false, false, false] = [1, 2]) (e2 : rdy [o0, o1, o2, o3, o4] [false, true, false, false, false] = [0])
    (e3 : rdy [o0, o1, o2, o3, o4] [true, true, false, false, false] = [2]) (e4 : rdy [o0, o1, o2, o3, o4] [true, false, true, false, false] = [1]) (e5 : rdy [o0, o1, o2, o3, o4] [true, true, true, false, false] = [3])
    (e6 : rdy [o0, o1, o2, o3, o4] [true, true, true, true, false] = [4]) (e7 : rdy [o0, o1, o2, o3, o4] [true, true, true, true, true] = [])
    (g0 : o0.guard = none) (g1 : o1.guard = none) (g2 : o2.guard = none) (g3 : o3.guard = none) (g4 : o4.guard = none)
    (d0 d1 : Tmp) (hd0 : o0.dst = some d0) (hd1 : o1.dst = some d1) (hd2 : o2.dst = none) (hd3 : o3.dst = none) (hd01 : d0 ≠ d1)
    (T : TypeId) (n : Nat) (d : TypeDesc) (hdd : (match d with | .struct _ | .array _ _ => true | _ => false) = true) (hu : P.underlying T = some d) (hi : (P.info? T).map (·.size) = some n)
    (p0 p1 q0 q1 y0 y1 : Operand) (k0 : o0.op = .load T p0) (k1 : o1.op = .load T p1) (k2 : o2.op = .store T q0 y0) (k3 : o3.op = .store T q1 y1)
    (b0 b1 r0 r1 : Nat) (t0 t1 u0 u1 : TypeId) (X0 X1 Z0 Z1 : Array Value) (hX0 : Rw X0 n) (hX1 : Rw X1 n) (hZ0 : Rw Z0 n) (hZ1 : Rw Z1 n)
    (c0 : CT w b0 t0 X0) (c1 : CT w b1 t1 X1) (z0 : CT w r0 u0 Z0) (z1 : CT w r1 u1 Z1) (n1 : b1 ≠ r0) (n2 : r1 ≠ r0)
    (h0 : a.eval p0 = .pointer (some ⟨b0, 0, none⟩)) (h0' : (a.put (some d1) (.agg X1)).eval p0 = .pointer (some ⟨b0, 0, none⟩)) (h1 : a.eval p1 = .pointer (some ⟨b1, 0, none⟩)) (h1' : (a.put (some d0) (.agg X0)).eval p1 = .pointer (some ⟨b1, 0, none⟩))
    (hx2 : (a.put (some d0) (.agg X0)).eval q0 = .pointer (some ⟨r0, 0, none⟩)) (hy2 : (a.put (some d0) (.agg X0)).eval y0 = .agg X0)
    (hx2' : ((a.put (some d0) (.agg X0)).put (some d1) (.agg X1)).eval q0 = .pointer (some ⟨r0, 0, none⟩)) (hy2' : ((a.put (some d0) (.agg X0)).put (some d1) (.agg X1)).eval y0 = .agg X0)
    (hx3 : ((a.put (some d0) (.agg X0)).put (some d1) (.agg X1)).eval q1 = .pointer (some ⟨r1, 0, none⟩)) (hy3 : ((a.put (some d0) (.agg X0)).put (some d1) (.agg X1)).eval y1 = .agg X1)
    (v : Value) (h4 : ∀ w, (execOp ((a.put (some d0) (.agg X0)).put (some d1) (.agg X1)).eval o4).run P w = .ok (.value v) w)
    (h : ∀ w', CT w' r0 u0 X0 → CT w' r1 u1 X1 → (∀ b, b ≠ r0 → b ≠ r1 → w'.heap[b]? = w.heap[b]?) → (∀ B u, Below B u w → B ≤ r0 → B ≤ r1 → Below B u w') → Q .normal (((a.put (some d0) (.agg X0)).put (some d1) (.agg X1)).put o4.dst v) w') :
    (Code.region id [o0, o1, o2, o3, o4].toArray true).wp P Q a w := by
  refine wp_region_any hm ?_
  generalize hw0 : { w with drawn := w.drawn + 1 } = wd
  have hh : wd.heap = w.heap := by rw [← hw0]
  have c0 : CT wd b0 t0 X0 := c0.other (by rw [hh])
  have c1 : CT wd b1 t1 X1 := c1.other (by rw [hh])
  have z0 : CT wd r0 u0 Z0 := z0.other (by rw [hh])
  have z1 : CT wd r1 u1 Z1 := z1.other (by rw [hh])
  have hbd : ∀ B u, Below B u w → Below B u wd := fun B u hB => by subst hw0; exact ⟨hB.os, hB.tape, hB.output, hB.size, hB.block⟩
  have hlast : ∀ w', CT w' r0 u0 X0 → CT w' r1 u1 Z1 → (∀ b, b ≠ r0 → w'.heap[b]? = wd.heap[b]?) → (∀ B u, Below B u wd → B ≤ r0 → Below B u w') →
      wpAny P .any [o0, o1, o2, o3, o4].toArray Q 2 [true, true, true, false, false].toArray ((a.put (some d0) (.agg X0)).put (some d1) (.agg X1)) w' := by
    intro w' cr0 cr1 ho hb
    refine ⟨fun hr => absurd (e5.symm.trans hr) (by simp), fun i hi' => ?_⟩
    have hi' := (congrArg (fun l => i ∈ l) e5).mp hi'
    obtain rfl : i = 3 := by simpa using hi'
    refine wpOp_of_skip (o := o3) rfl g3 (run_store_ct T q1 y1 k3 r1 X1 hx3 hy3 u1 Z1 n cr1 hi hZ1 hX1) ?_
    rw [hd3]
    refine ⟨fun hr => absurd (e6.symm.trans hr) (by simp), fun i hi' => ?_⟩
    have hi' := (congrArg (fun l => i ∈ l) e6).mp hi'
    obtain rfl : i = 4 := by simpa using hi'
    refine wpOp_of_run (o := o4) rfl g4 (h4 _) ?_
    exact ⟨e7, h _ (cr0.other (setRow_other _ _ _ _ (Ne.symm n2))) (setRow_heap _ _ _ _ _ _ cr1) (fun b hb0 hb1 => (setRow_other _ _ _ _ hb1).trans ((ho b hb0).trans (by rw [hh]))) (fun B u hB l0 l1 => Below.setRow (hb B u (hbd B u hB) l0) l1 _)⟩
  refine ⟨fun hr => absurd (e0.symm.trans hr) (by simp), fun i hi' => ?_⟩
  have hi' := (congrArg (fun l => i ∈ l) e0).mp hi'
  rcases (by simpa using hi' : i = 0 ∨ i = 1) with rfl | rfl
  · refine wpOp_of_run (o := o0) rfl g0 (run_load_ct T p0 k0 b0 h0 t0 X0 n hX0 d hdd c0 hu hi) ?_
    rw [hd0]
    refine ⟨fun hr => absurd (e1.symm.trans hr) (by simp), fun i hi' => ?_⟩
    have hi' := (congrArg (fun l => i ∈ l) e1).mp hi'
    rcases (by simpa using hi' : i = 1 ∨ i = 2) with rfl | rfl
    · refine wpOp_of_run (o := o1) rfl g1 (run_load_ct T p1 k1 b1 h1' t1 X1 n hX1 d hdd c1 hu hi) ?_
      rw [hd1]
      refine ⟨fun hr => absurd (e3.symm.trans hr) (by simp), fun i hi' => ?_⟩
      have hi' := (congrArg (fun l => i ∈ l) e3).mp hi'
      obtain rfl : i = 2 := by simpa using hi'
      refine wpOp_of_skip (o := o2) rfl g2 (run_store_ct T q0 y0 k2 r0 X0 hx2' hy2' u0 Z0 n z0 hi hZ0 hX0) ?_
      rw [hd2]
      exact hlast _ (setRow_heap _ _ _ _ _ _ z0) (z1.other (setRow_other _ _ _ _ n2)) (fun b hb => setRow_other _ _ _ _ hb) (fun B u hB hl => Below.setRow hB hl _)
    · refine wpOp_of_skip (o := o2) rfl g2 (run_store_ct T q0 y0 k2 r0 X0 hx2 hy2 u0 Z0 n z0 hi hZ0 hX0) ?_
      rw [hd2]
      refine ⟨fun hr => absurd (e4.symm.trans hr) (by simp), fun i hi' => ?_⟩
      have hi' := (congrArg (fun l => i ∈ l) e4).mp hi'
      obtain rfl : i = 1 := by simpa using hi'
      refine wpOp_of_run (o := o1) rfl g1 (run_load_ct T p1 k1 b1 h1' t1 X1 n hX1 d hdd (c1.other (setRow_other _ _ _ _ n1)) hu hi) ?_
      rw [hd1]
      exact hlast _ (setRow_heap _ _ _ _ _ _ z0) (z1.other (setRow_other _ _ _ _ n2)) (fun b hb => setRow_other _ _ _ _ hb) (fun B u hB hl => Below.setRow hB hl _)
  · refine wpOp_of_run (o := o1) rfl g1 (run_load_ct T p1 k1 b1 h1 t1 X1 n hX1 d hdd c1 hu hi) ?_
    rw [hd1]
    refine ⟨fun hr => absurd (e2.symm.trans hr) (by simp), fun i hi' => ?_⟩
    have hi' := (congrArg (fun l => i ∈ l) e2).mp hi'
    obtain rfl : i = 0 := by simpa using hi'
    refine wpOp_of_run (o := o0) rfl g0 (run_load_ct T p0 k0 b0 h0' t0 X0 n hX0 d hdd c0 hu hi) ?_
    rw [hd0, ← act_comm a d0 d1 _ _ hd01]
    refine ⟨fun hr => absurd (e3.symm.trans hr) (by simp), fun i hi' => ?_⟩
    have hi' := (congrArg (fun l => i ∈ l) e3).mp hi'
    obtain rfl : i = 2 := by simpa using hi'
    refine wpOp_of_skip (o := o2) rfl g2 (run_store_ct T q0 y0 k2 r0 X0 hx2' hy2' u0 Z0 n z0 hi hZ0 hX0) ?_
    rw [hd2]
    exact hlast _ (setRow_heap _ _ _ _ _ _ z0) (z1.other (setRow_other _ _ _ _ n2)) (fun b hb => setRow_other _ _ _ _ hb) (fun B u hB hl => Below.setRow hB hl _)
end
end Go.Proofs.YtlpchgoaoglhcaaDoor
namespace Go.Proofs.YtlpchgoaoglhcaaDoor
theorem pow_dvd {p a e : Nat} (h : p ∣ a) (he : e ≠ 0) : a ^ e % p = 0 := by
  obtain ⟨k, rfl⟩ : ∃ k, e = k + 1 := ⟨e - 1, by omega⟩
  rw [Nat.pow_succ]
  exact Nat.mod_eq_zero_of_dvd (Nat.dvd_trans h (Nat.dvd_mul_left a _))
/-- Powers round the prime that turn a number into what undoes it. -/
theorem inv_one {p a e : Nat} (hp : Pri p) (he : e + 2 = p) (ha : ¬ p ∣ a) : a * (a ^ e % p) % p = 1 := by
  rw [Nat.mul_mod_mod, Nat.mul_comm, ← Nat.pow_succ, show e.succ = p - 1 by omega]
  exact hp.fermat ha
def EI : Nat := 57896044618658097711785492504343953926634992332820282019728792003956564819947
theorem EI_eq : EI + 2 = 57896044618658097711785492504343953926634992332820282019728792003956564819949 := by decide
theorem fInv_eq (a : Nat) (ha : a < 115792089237316195423570985008687907853269984665640564039457584007913129639936) : fInv a = a ^ EI % 57896044618658097711785492504343953926634992332820282019728792003956564819949 := pw_mod a EI ha (by decide)
theorem P_dvd {a : Nat} : 57896044618658097711785492504343953926634992332820282019728792003956564819949 ∣ a ↔ a % 57896044618658097711785492504343953926634992332820282019728792003956564819949 = 0 := Nat.dvd_iff_mod_eq_zero
theorem fInv_one (a : Nat) (ha : a < 115792089237316195423570985008687907853269984665640564039457584007913129639936) (h : a % 57896044618658097711785492504343953926634992332820282019728792003956564819949 ≠ 0) : fMul a (fInv a) = 1 := by
  rw [fMul_eq a _ ha (lt4 (fInv_lt a)), fInv_eq a ha]
  have he := EI_eq
  generalize EI = e at he ⊢
  exact inv_one pri_P he (fun h1 => h (P_dvd.1 h1))
end Go.Proofs.YtlpchgoaoglhcaaDoor
namespace Go.Proofs.YtlpchgoaoglhcaaDoor
theorem sq_one {p z : Nat} (hp : Pri p) (h : z * z % p = 1) : z % p = 1 ∨ z % p = p - 1 := by
  have h2 := hp.1
  have hr : z % p * (z % p) % p = 1 := by rw [← Nat.mul_mod]; exact h
  have hlt : z % p < p := Nat.mod_lt _ (by omega)
  obtain ⟨r, hz⟩ : ∃ r, z % p = r := ⟨_, rfl⟩
  rw [hz] at hr hlt ⊢
  obtain ⟨s, rfl⟩ : ∃ s, r = s + 1 := ⟨r - 1, by
    have : r ≠ 0 := fun h0 => by rw [h0, Nat.zero_mul, Nat.zero_mod] at hr; cases hr
    omega⟩
  have hd : p ∣ s * (s + 2) := by
    have e1 : (s + 1) * (s + 1) = s * (s + 2) + 1 := by grind
    rw [e1] at hr
    have e2 : (s * (s + 2) + 1) % p = (0 + 1) % p := by rw [hr, Nat.zero_add, Nat.mod_eq_of_lt (by omega)]
    have e3 := Nat.sub_mod_eq_zero_of_mod_eq e2
    rw [Nat.zero_add, Nat.add_sub_cancel] at e3
    exact Nat.dvd_of_mod_eq_zero e3
  rcases hp.euclid hd with h1 | h1
  · left
    have : s = 0 := Nat.eq_zero_of_dvd_of_lt h1 (by omega)
    omega
  · right
    obtain ⟨k, hk⟩ := h1
    have : k = 1 := by
      have hk1 : k < 2 := by
        apply Classical.byContradiction
        intro hge
        have := Nat.mul_le_mul_left p (show 2 ≤ k by omega)
        omega
      have hk0 : k ≠ 0 := fun h0 => by rw [h0, Nat.mul_zero] at hk; omega
      omega
    subst this
    omega
theorem pm_sq {p : Nat} (hp : 2 ≤ p) : (p - 1) * (p - 1) % p = 1 := by
  obtain ⟨k, rfl⟩ : ∃ k, p = k + 2 := ⟨p - 2, by omega⟩
  have : (k + 2 - 1) * (k + 2 - 1) = 1 + (k + 2) * k := by
    rw [show k + 2 - 1 = k + 1 by omega]; grind
  rw [this, Nat.add_mul_mod_self_left, Nat.mod_eq_of_lt (by omega)]
theorem chi_sq {p x z q : Nat} (hp : Pri p) (hq : 4 * q + 1 = p) (hx : ¬ p ∣ x) (h : z * z % p = x % p) : x ^ (2 * q) % p = 1 := by
  have hz : ¬ p ∣ z := fun hd => hx (Nat.dvd_of_mod_eq_zero (by rw [← h]; exact Nat.mod_eq_zero_of_dvd (Nat.dvd_trans hd (Nat.dvd_mul_left z z))))
  rw [Nat.pow_mod, ← h, ← Nat.pow_mod, ← Nat.pow_two, ← Nat.pow_mul, show 2 * (2 * q) = p - 1 by omega]
  exact hp.fermat hz
/-- One of the two numbers is a root. -/
theorem root_core {p x q e : Nat} (hp : Pri p) (he : 2 * e = q + 1) (h2 : 2 ^ (2 * q) % p = p - 1) (hc : x ^ (2 * q) % p = 1) :
    x ^ e * x ^ e % p = x % p ∨ (x ^ e * 2 ^ q) * (x ^ e * 2 ^ q) % p = x % p := by
  have hp2 := hp.1
  have e1 : x ^ e * x ^ e = x * x ^ q := by rw [← Nat.pow_add, show e + e = q + 1 by omega, Nat.pow_succ, Nat.mul_comm]
  have hs : x ^ q * x ^ q % p = 1 := by rw [← Nat.pow_add, show q + q = 2 * q by omega]; exact hc
  rcases sq_one hp hs with h | h
  · left
    rw [e1, Nat.mul_mod, h, Nat.mul_one, Nat.mod_mod]
  · right
    have e2 : (x ^ e * 2 ^ q) * (x ^ e * 2 ^ q) = x * (x ^ q * 2 ^ (2 * q)) := by
      rw [Nat.mul_mul_mul_comm, e1, ← Nat.pow_add 2, show q + q = 2 * q by omega, Nat.mul_assoc]
    rw [e2, Nat.mul_mod, Nat.mul_mod (x ^ q), h, h2, pm_sq hp2, Nat.mul_one, Nat.mod_mod]
def E8 : Nat := 7237005577332262213973186563042994240829374041602535252466099000494570602494
def E4 : Nat := 14474011154664524427946373126085988481658748083205070504932198000989141204987
theorem E4_eq : 4 * E4 + 1 = 57896044618658097711785492504343953926634992332820282019728792003956564819949 := by decide
theorem E8_eq : 2 * E8 = E4 + 1 := by decide
theorem chi_2 : 2 ^ (2 * E4) % 57896044618658097711785492504343953926634992332820282019728792003956564819949 = 57896044618658097711785492504343953926634992332820282019728792003956564819949 - 1 := pow_at 2 (2 * E4) 57896044618658097711785492504343953926634992332820282019728792003956564819949 (57896044618658097711785492504343953926634992332820282019728792003956564819949 - 1) 256 (by decide +kernel) (by decide +kernel)
theorem rt_eq (a : Nat) : rt a = if mu (pw a E8) (pw a E8) % 57896044618658097711785492504343953926634992332820282019728792003956564819949 = a then (pw a E8 % 57896044618658097711785492504343953926634992332820282019728792003956564819949, true)
    else if mu (mu (pw a E8) (pw 2 E4)) (mu (pw a E8) (pw 2 E4)) % 57896044618658097711785492504343953926634992332820282019728792003956564819949 = a then (mu (pw a E8) (pw 2 E4) % 57896044618658097711785492504343953926634992332820282019728792003956564819949, true)
    else (0, false) := rfl
theorem rt_root (x : Nat) (h : (rt x).2 = true) : (rt x).1 * (rt x).1 % 57896044618658097711785492504343953926634992332820282019728792003956564819949 = x := by
  rw [rt_eq] at h ⊢
  split at h
  · rename_i h1
    rw [if_pos h1]
    show pw x E8 % 57896044618658097711785492504343953926634992332820282019728792003956564819949 * (pw x E8 % 57896044618658097711785492504343953926634992332820282019728792003956564819949) % 57896044618658097711785492504343953926634992332820282019728792003956564819949 = x
    rw [← Nat.mul_mod, ← mu_mod _ _ (pw_lt _ _) (pw_lt _ _), h1]
  · rename_i h1
    split at h
    · rename_i h2
      rw [if_neg h1, if_pos h2]
      show mu _ _ % 57896044618658097711785492504343953926634992332820282019728792003956564819949 * (mu _ _ % 57896044618658097711785492504343953926634992332820282019728792003956564819949) % 57896044618658097711785492504343953926634992332820282019728792003956564819949 = x
      rw [← Nat.mul_mod, ← mu_mod _ _ (mu_lt _ _) (mu_lt _ _), h2]
    · cases h
theorem rt_nought : rt 0 = (0, true) := by
  have e1 : pw 0 E8 % 57896044618658097711785492504343953926634992332820282019728792003956564819949 = 0 := by
    rw [pw_mod 0 E8 (by decide) (by decide)]
    have : E8 ≠ 0 := by decide
    generalize E8 = e at this ⊢
    exact pow_dvd (Nat.dvd_zero _) this
  have e2 : mu (pw 0 E8) (pw 0 E8) % 57896044618658097711785492504343953926634992332820282019728792003956564819949 = 0 := by rw [mu_mod _ _ (pw_lt _ _) (pw_lt _ _), Nat.mul_mod, e1, Nat.zero_mul, Nat.zero_mod]
  rw [rt_eq, if_pos e2, e1]
theorem rt_iff (x : Nat) (hx : x < 57896044618658097711785492504343953926634992332820282019728792003956564819949) (h0 : x ≠ 0) : (rt x).2 = true ↔ x ^ (2 * E4) % 57896044618658097711785492504343953926634992332820282019728792003956564819949 = 1 := by
  have hd : ¬ 57896044618658097711785492504343953926634992332820282019728792003956564819949 ∣ x := fun h => h0 (Nat.eq_zero_of_dvd_of_lt h hx)
  have hx4 : x < 115792089237316195423570985008687907853269984665640564039457584007913129639936 := by omega
  constructor
  · intro h
    have h1 := rt_root x h
    have he := E4_eq
    generalize E4 = q at he ⊢
    exact chi_sq pri_P he hd (by rw [h1, Nat.mod_eq_of_lt hx])
  · intro h
    have e1 : pw x E8 % 57896044618658097711785492504343953926634992332820282019728792003956564819949 = x ^ E8 % 57896044618658097711785492504343953926634992332820282019728792003956564819949 := pw_mod x E8 hx4 (by decide)
    have e2 : pw 2 E4 % 57896044618658097711785492504343953926634992332820282019728792003956564819949 = 2 ^ E4 % 57896044618658097711785492504343953926634992332820282019728792003956564819949 := pw_mod 2 E4 (by decide) (by decide)
    have h3 := root_core pri_P E8_eq chi_2 h
    rw [rt_eq]
    split
    · rfl
    · rename_i h1
      split
      · rfl
      · rename_i h2
        exfalso
        rcases h3 with h3 | h3
        · refine h1 ?_
          rw [mu_mod _ _ (pw_lt _ _) (pw_lt _ _), mul_mod_congr e1 e1, h3, Nat.mod_eq_of_lt hx]
        · refine h2 ?_
          have e3 : mu (pw x E8) (pw 2 E4) % 57896044618658097711785492504343953926634992332820282019728792003956564819949 = (x ^ E8 * 2 ^ E4) % 57896044618658097711785492504343953926634992332820282019728792003956564819949 := by rw [mu_mod _ _ (pw_lt _ _) (pw_lt _ _)]; exact mul_mod_congr e1 e2
          rw [mu_mod _ _ (mu_lt _ _) (mu_lt _ _), mul_mod_congr e3 e3, h3, Nat.mod_eq_of_lt hx]
/-! ### Root -/
theorem fRoot_ok (a : Nat) : (fRoot a).2 = (rt (a % 57896044618658097711785492504343953926634992332820282019728792003956564819949)).2 := by
  unfold fRoot
  split
  · rename_i h; rw [h]
  · rename_i h; show false = _; cases h2 : (rt (a % 57896044618658097711785492504343953926634992332820282019728792003956564819949)).2 with
    | true => exact absurd h2 h
    | false => rfl
theorem fRoot_even (a : Nat) : (fRoot a).1 % 2 = 0 := by
  unfold fRoot
  split
  · show (if _ then _ else _) % 2 = 0
    have hlt := rt_lt (a % 57896044618658097711785492504343953926634992332820282019728792003956564819949) (Nat.mod_lt _ P_pos)
    split
    · rename_i h
      generalize (rt (a % 57896044618658097711785492504343953926634992332820282019728792003956564819949)).1 = n at hlt h
      rw [Nat.mod_eq_of_lt (show 0 + 57896044618658097711785492504343953926634992332820282019728792003956564819949 - n < 57896044618658097711785492504343953926634992332820282019728792003956564819949 by omega)]
      omega
    · rename_i h
      generalize (rt (a % 57896044618658097711785492504343953926634992332820282019728792003956564819949)).1 = n at hlt h
      omega
  · rfl
theorem neg_sq {p n : Nat} (hn : n < p) : (0 + p - n) % p * ((0 + p - n) % p) % p = n * n % p := by
  rw [← Nat.mul_mod, Nat.zero_add]
  obtain ⟨m, rfl⟩ : ∃ m, p = n + m := ⟨p - n, by omega⟩
  rw [Nat.add_sub_cancel_left]
  have h1 : m * m + (n + m) * n = n * n + (n + m) * m := by grind
  have h2 : (m * m + (n + m) * n) % (n + m) = m * m % (n + m) := Nat.add_mul_mod_self_left _ _ _
  rw [← h2, h1, Nat.add_mul_mod_self_left]
theorem fRoot_sq (a : Nat) (h : (fRoot a).2 = true) : (fRoot a).1 * (fRoot a).1 % 57896044618658097711785492504343953926634992332820282019728792003956564819949 = a % 57896044618658097711785492504343953926634992332820282019728792003956564819949 := by
  have hok : (rt (a % 57896044618658097711785492504343953926634992332820282019728792003956564819949)).2 = true := by rw [← fRoot_ok]; exact h
  have hr := rt_root _ hok
  unfold fRoot
  rw [if_pos hok]
  show (if _ then _ else _) * (if _ then _ else _) % 57896044618658097711785492504343953926634992332820282019728792003956564819949 = _
  split
  · rw [neg_sq (rt_lt _ (Nat.mod_lt _ P_pos))]; exact hr
  · exact hr
theorem fRoot_nought (a : Nat) (h : a % 57896044618658097711785492504343953926634992332820282019728792003956564819949 = 0) : fRoot a = (0, true) := by
  unfold fRoot
  rw [h, rt_nought]
  rfl
theorem fRoot_iff (a : Nat) (h : a % 57896044618658097711785492504343953926634992332820282019728792003956564819949 ≠ 0) : (fRoot a).2 = true ↔ a ^ (2 * E4) % 57896044618658097711785492504343953926634992332820282019728792003956564819949 = 1 := by
  rw [fRoot_ok, rt_iff _ (Nat.mod_lt _ P_pos) h]
  have : (a % 57896044618658097711785492504343953926634992332820282019728792003956564819949) ^ (2 * E4) % 57896044618658097711785492504343953926634992332820282019728792003956564819949 = a ^ (2 * E4) % 57896044618658097711785492504343953926634992332820282019728792003956564819949 := (Nat.pow_mod a _ _).symm
  rw [this]
theorem fRoot_of_sq (a : Nat) (ha : a < 115792089237316195423570985008687907853269984665640564039457584007913129639936) : (fRoot (fMul a a)).2 = true := by
  by_cases h : fMul a a % 57896044618658097711785492504343953926634992332820282019728792003956564819949 = 0
  · rw [fRoot_nought _ h]
  · rw [fRoot_iff _ h]
    have he := E4_eq
    generalize E4 = q at he ⊢
    refine chi_sq (z := a) pri_P he (fun hd => h (P_dvd.1 hd)) ?_
    rw [fMul_eq a a ha ha, Nat.mod_mod]
end Go.Proofs.YtlpchgoaoglhcaaDoor
namespace Go.Proofs.YtlpchgoaoglhcaaDoor
open Go.RowKit
theorem fill_congr (p q : Nat → Option (Nat × Nat)) : ∀ (parts : List (Nat × Value)) (cells : Array Value), (∀ x ∈ parts, p x.1 = q x.1) → Instr.fill p cells parts = Instr.fill q cells parts
  | [], _, _ => rfl
  | (i, v) :: rest, cells, h => by
    have h1 := h (i, v) (List.mem_cons_self ..)
    have h2 := fun cells => fill_congr p q rest cells (fun x hx => h x (List.mem_cons_of_mem _ hx))
    unfold Instr.fill
    rw [show p i = q i from h1]
    cases q i with
    | none => rfl
    | some x =>
      obtain ⟨off, size⟩ := x
      simp only
      split
      · rfl
      · exact h2 _
theorem zPt (w : World) : (zeroValue 68).run Tryd.prog w = .ok (.agg (PB 0)) w :=
  (zero_of_info (P := Tryd.prog) (t := 68) (v := .agg (PB 0)) (n := 32) (by kernel_rfl)).1 w
theorem zFr (w : World) : (zeroValue 108).run Tryd.prog w = .ok (.agg (FR 0 0 0 0)) w :=
  (zero_of_info (P := Tryd.prog) (t := 108) (v := .agg (FR 0 0 0 0)) (n := 128) (by kernel_rfl)).1 w
theorem zNu (w : World) : (zeroValue 102).run Tryd.prog w = .ok (.agg (NB 0)) w :=
  (zero_of_info (P := Tryd.prog) (t := 102) (v := .agg (NB 0)) (n := 32) (by kernel_rfl)).1 w
theorem built_F (parts : List (Nat × Value)) : Tryd.prog.built 108 parts = Instr.fill (fun i => #[(0, 32), (32, 32), (64, 32), (96, 32)][i]?) (FR 0 0 0 0) parts := by kernel_rfl
theorem flat4 (x y z t : List UInt8) : ([Value.agg (byteVals x).toArray, .agg (byteVals y).toArray, .agg (byteVals z).toArray, .agg (byteVals t).toArray].flatMap fun v => v.cells.toList).toArray = (byteVals (x ++ (y ++ (z ++ t)))).toArray := by
  simp [Value.cells, byteVals]
theorem made_F (a b c d : Fp) : Tryd.prog.built 108 [(0, .agg (NB a)), (1, .agg (NB b)), (2, .agg (NB c)), (3, .agg (NB d))] = some (FR a b c d) := by
  rw [built_F, fill_congr _ (fun i => some (i * 32, 32)) _ _ (by
    intro x hx
    simp only [List.mem_cons, List.not_mem_nil, or_false] at hx
    rcases hx with rfl | rfl | rfl | rfl <;> rfl)]
  have h := Go.Great.fill_whole (s := 32) (by decide) [.agg (NB a), .agg (NB b), .agg (NB c), .agg (NB d)] (FR 0 0 0 0) (by
    intro v hv
    simp only [List.mem_cons, List.not_mem_nil, or_false] at hv
    rcases hv with rfl | rfl | rfl | rfl <;> exact (NB_rw _).size) (FR_rw 0 0 0 0).size.symm
  exact h.trans (congrArg some (flat4 _ _ _ _))
theorem run_built {P : Program} (o : Oper) (ax : Act) (t : TypeId) (parts : Array (Nat × Operand)) (ho : o.op = .build t parts) (X : Array Value) (hf : P.built t (parts.map fun (i, x) => (i, ax.eval x)).toList = some X) (w : World) : (execOp ax.eval o).run P w = .ok (.value (.agg X)) w := by
  unfold execOp
  simp only [ho]
  have := run_build (P := P) w t (parts.map fun (i, x) => (i, ax.eval x)) X hf
  simp [this]
theorem run_made_F (o : Oper) (ax : Act) (x0 x1 x2 x3 : Operand) (ho : o.op = .build 108 #[(0, x0), (1, x1), (2, x2), (3, x3)]) (a b c d : Fp) (h0 : ax.eval x0 = .agg (NB a)) (h1 : ax.eval x1 = .agg (NB b)) (h2 : ax.eval x2 = .agg (NB c)) (h3 : ax.eval x3 = .agg (NB d)) (w : World) :
    (execOp ax.eval o).run Tryd.prog w = .ok (.value (.agg (FR a b c d))) w :=
  run_built o ax _ _ ho _ (by
    simp only [List.map_toArray, List.map_cons, List.map_nil, h0, h1, h2, h3]
    exact made_F a b c d) w
theorem fMul_fp (a b : Nat) (ha : a < 115792089237316195423570985008687907853269984665640564039457584007913129639936) (hb : b < 115792089237316195423570985008687907853269984665640564039457584007913129639936) : fMul a b = (fp a * fp b).val := by
  rw [fMul_eq a b ha hb]; exact Nat.mul_mod _ _ _
theorem fSub_fp (a b : Nat) : fSub a b = (fp a - fp b).val := by
  show (a % PP + PP - b % PP) % PP = (PP - b % PP + a % PP) % PP
  have := Nat.mod_lt b PP_pos
  congr 1; omega
theorem IsN.mul {X Y : Array Value} {a b : Fp} (hx : IsN X a) (hy : IsN Y b) (w : World) : Calls Tryd.prog 77 #[.agg X, .agg Y] w fun e w' => e = .returned (.agg (NB (a * b))) ∧ Below w.heap.size w w' := by
  obtain ⟨l, hl, rfl, rfl⟩ := hx
  obtain ⟨m, hm, rfl, rfl⟩ := hy
  have h := Mul_any l m w hl hm
  rw [fMul_fp _ _ (le_32 l hl) (le_32 m hm)] at h
  exact h
theorem IsN.add {X Y : Array Value} {a b : Fp} (hx : IsN X a) (hy : IsN Y b) (w : World) : Calls Tryd.prog 82 #[.agg X, .agg Y] w fun e w' => e = .returned (.agg (NB (a + b))) ∧ Below w.heap.size w w' := by
  obtain ⟨l, hl, rfl, rfl⟩ := hx
  obtain ⟨m, hm, rfl, rfl⟩ := hy
  exact Add_any l m w hl hm
theorem IsN.sub {X Y : Array Value} {a b : Fp} (hx : IsN X a) (hy : IsN Y b) (w : World) : Calls Tryd.prog 75 #[.agg X, .agg Y] w fun e w' => e = .returned (.agg (NB (a - b))) ∧ Below w.heap.size w w' := by
  obtain ⟨l, hl, rfl, rfl⟩ := hx
  obtain ⟨m, hm, rfl, rfl⟩ := hy
  have h := Sub_any l m w hl hm
  rw [fSub_fp] at h
  exact h
/-- What undoes a product, nought of nought. -/
def finv (a : Fp) : Fp := ⟨fInv a.val, fInv_lt _⟩
theorem fInv_mod (a : Nat) (ha : a < 115792089237316195423570985008687907853269984665640564039457584007913129639936) : fInv a = fInv (a % PP) := by
  rw [fInv_eq a ha, fInv_eq (a % PP) (lt4 (Nat.mod_lt _ PP_pos))]
  exact Nat.pow_mod _ _ _
theorem IsN.inv {X : Array Value} {a : Fp} (hx : IsN X a) (w : World) : Calls Tryd.prog 81 #[.agg X] w fun e w' => e = .returned (.agg (NB (finv a))) ∧ Below w.heap.size w w' := by
  obtain ⟨l, hl, rfl, rfl⟩ := hx
  have h := Inv_any l w hl
  rw [fInv_mod _ (le_32 l hl)] at h
  exact h
theorem finv_mul {a : Fp} (h : a ≠ 0) : a * finv a = 1 := by
  have h1 : a.val % PP ≠ 0 := fun e => h (Fin.ext (by rw [← Nat.mod_eq_of_lt a.isLt]; exact e))
  have h2 := fInv_one a.val a.lt256 h1
  rw [fMul_fp _ _ a.lt256 (lt4 (fInv_lt _)), fp_val] at h2
  refine Fin.ext (Eq.trans ?_ h2)
  exact congrArg (fun b => (a * b).val) (fp_val (finv a)).symm
/-- The even root. -/
def frt (a : Fp) : Fp := ⟨(fRoot a.val).1, fRoot_lt _⟩
def fis (a : Fp) : Bool := (fRoot a.val).2
theorem fRoot_mod (a : Nat) : fRoot (a % PP) = fRoot a := by
  unfold fRoot
  rw [show a % PP % 57896044618658097711785492504343953926634992332820282019728792003956564819949 = a % 57896044618658097711785492504343953926634992332820282019728792003956564819949 from Nat.mod_mod _ _]
theorem IsN.root {X : Array Value} {a : Fp} (hx : IsN X a) (w : World) : Calls Tryd.prog 71 #[.agg X] w fun e w' => e = .returned (.tuple #[.agg (NB (frt a)), .bool (fis a)]) ∧ Below w.heap.size w w' := by
  obtain ⟨l, hl, rfl, rfl⟩ := hx
  have h := Root_any l w hl
  rw [← fRoot_mod] at h
  exact h
theorem frt_sq {a : Fp} (h : fis a = true) : frt a * frt a = a := by
  have h1 := fRoot_sq a.val h
  refine Fin.ext ?_
  rw [Fp.mul_v]
  exact h1.trans (Nat.mod_eq_of_lt a.isLt)
theorem frt_even (a : Fp) : (frt a).val % 2 = 0 := fRoot_even a.val
theorem fis_sq (x : Fp) : fis (x * x) = true := by
  have h := fRoot_of_sq x.val x.lt256
  rw [fMul_fp _ _ x.lt256 x.lt256, fp_val] at h
  exact h
theorem IsN.rest {X : Array Value} {a : Fp} (hx : IsN X a) (w : World) : Calls Tryd.prog 73 #[.agg X] w fun e w' => e = .returned (.agg (NB a)) ∧ Below w.heap.size w w' := by
  obtain ⟨l, hl, rfl, rfl⟩ := hx
  exact Rest_any l w hl
theorem IsN.odd {X : Array Value} {a : Fp} (hx : IsN X a) (w : World) : Calls Tryd.prog 74 #[.agg X] w fun e w' => e = .returned (.bool (decide (a.val % 2 = 1))) ∧ Below w.heap.size w w' := by
  obtain ⟨l, hl, rfl, rfl⟩ := hx
  exact Odd_any l w hl
theorem Of_one (w : World) : Calls Tryd.prog 76 #[.int .u64 1] w fun e w' => e = .returned (.agg (NB 1)) ∧ Below w.heap.size w w' := Of_any 1 w (by decide)
theorem Good_RB {l : List UInt8} (hl : l.length = 32) (w : World) : Calls Tryd.prog 70 #[.agg (RB l)] w fun e w' => e = .returned (.bool (decide (le l < PP))) ∧ Below w.heap.size w w' := Good_any l w hl
/-! ### The same? -/
theorem run_eqN' (o : Oper) (ax : Act) (x y : Operand) (ho : o.op = .binOp .eql 102 x y 102) (a b : Fp) (hx : ax.eval x = .agg (NB a)) (hy : ax.eval y = .agg (NB b)) (c : Bool) (hc : decide (a = b) = c) (w : World) :
    (execOp ax.eval o).run Tryd.prog w = .ok (.value (.bool c)) w :=
  run_eqB o ax x y 102 ho Tryd.underlying102 (b32 a.val) (b32 b.val) hx hy (b32_len _) (b32_len _) (by kernel_rfl) c (by
    rw [← hc, Bool.eq_iff_iff, decide_eq_true_eq, decide_eq_true_eq]
    exact ⟨fun h => Fin.ext (b32_inj a.lt256 b.lt256 h), fun h => by rw [h]⟩) w
end Go.Proofs.YtlpchgoaoglhcaaDoor
