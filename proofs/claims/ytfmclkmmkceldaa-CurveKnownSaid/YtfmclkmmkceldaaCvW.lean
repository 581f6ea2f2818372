/-
  Rows of cells by value: numbers and points as the program and the document hold them; loads of parts, new blocks, results.
  Conditions: none.
-/
import Derived.Test.YtfmclkmmkceldaaFdZ
import Derived.Test.YtfmclkmmkceldaaUpT
import Derived.Test.YtfmclkmmkceldaaCvI
import Derived.Deep.MidRow
namespace Go.Proofs.Ytfmclkmmkceldaa
open Go.RowKit

/-- The cells of a block. -/
def CT (w : World) (b : Nat) (t : TypeId) (X : Array Value) : Prop := w.heap[b]? = some (.cells X t (0, 0))
theorem CT.lt {w : World} {b : Nat} {t : TypeId} {X : Array Value} (h : CT w b t X) : b < w.heap.size := (Array.getElem?_eq_some_iff.1 h).1
theorem CT.other {w w' : World} {b : Nat} {t : TypeId} {X : Array Value} (h : CT w b t X) (e : w'.heap[b]? = w.heap[b]?) : CT w' b t X := e.trans h
theorem CT.ext {w w' : World} {b : Nat} {t : TypeId} {X : Array Value} (h : CT w b t X) (p : Below w.heap.size w w') : CT w' b t X := h.other (p.block b h.lt)
/-! ### What a function makes at its start -/
theorem size_alloc1 (w : World) (a : Obj) : (w.alloc a).heap.size = w.heap.size + 1 := by simp
theorem allocs1_at (w : World) (a : Obj) : (w.alloc a).heap[w.heap.size]? = some a := Go.heap_alloc_new _ _
theorem allocs2_at (w : World) (a b : Obj) : ((w.alloc a).alloc b).heap[w.heap.size]? = some a ∧ ((w.alloc a).alloc b).heap[w.heap.size + 1]? = some b := alloc2_at w a b
theorem allocs3_at (w : World) (a b c : Obj) : (((w.alloc a).alloc b).alloc c).heap[w.heap.size]? = some a ∧ (((w.alloc a).alloc b).alloc c).heap[w.heap.size + 1]? = some b ∧ (((w.alloc a).alloc b).alloc c).heap[w.heap.size + 1 + 1]? = some c := by
  have h := allocs2_at (w.alloc a) b c
  simp only [size_alloc1] at h
  have h0 := allocs2_at w a b
  exact ⟨(Go.heap_alloc_old _ _ (by simp; omega)).trans h0.1, h⟩
theorem allocs4_at (w : World) (a b c d : Obj) : ((((w.alloc a).alloc b).alloc c).alloc d).heap[w.heap.size]? = some a ∧ ((((w.alloc a).alloc b).alloc c).alloc d).heap[w.heap.size + 1]? = some b ∧ ((((w.alloc a).alloc b).alloc c).alloc d).heap[w.heap.size + 1 + 1]? = some c ∧ ((((w.alloc a).alloc b).alloc c).alloc d).heap[w.heap.size + 1 + 1 + 1]? = some d := by
  have h := allocs3_at (w.alloc a) b c d
  simp only [size_alloc1] at h
  have h0 := allocs3_at w a b c
  exact ⟨(Go.heap_alloc_old _ _ (by simp; omega)).trans h0.1, h⟩
theorem allocs5_at (w : World) (a b c d e : Obj) : (((((w.alloc a).alloc b).alloc c).alloc d).alloc e).heap[w.heap.size]? = some a ∧ (((((w.alloc a).alloc b).alloc c).alloc d).alloc e).heap[w.heap.size + 1]? = some b ∧ (((((w.alloc a).alloc b).alloc c).alloc d).alloc e).heap[w.heap.size + 1 + 1]? = some c ∧ (((((w.alloc a).alloc b).alloc c).alloc d).alloc e).heap[w.heap.size + 1 + 1 + 1]? = some d ∧ (((((w.alloc a).alloc b).alloc c).alloc d).alloc e).heap[w.heap.size + 1 + 1 + 1 + 1]? = some e := by
  have h := allocs4_at (w.alloc a) b c d e
  simp only [size_alloc1] at h
  have h0 := allocs4_at w a b c d
  exact ⟨(Go.heap_alloc_old _ _ (by simp; omega)).trans h0.1, h⟩
theorem allocs1_below (w : World) (a : Obj) : Below w.heap.size w (w.alloc a) := (Below.refl _ w).alloc (Nat.le_refl _) _
theorem allocs2_below (w : World) (a b : Obj) : Below w.heap.size w ((w.alloc a).alloc b) := (allocs1_below w a).alloc (by simp) _
theorem allocs3_below (w : World) (a b c : Obj) : Below w.heap.size w (((w.alloc a).alloc b).alloc c) := (allocs2_below w a b).alloc (by simp; omega) _
theorem allocs4_below (w : World) (a b c d : Obj) : Below w.heap.size w ((((w.alloc a).alloc b).alloc c).alloc d) := (allocs3_below w a b c).alloc (by simp; omega) _
theorem allocs5_below (w : World) (a b c d e : Obj) : Below w.heap.size w (((((w.alloc a).alloc b).alloc c).alloc d).alloc e) := (allocs4_below w a b c d).alloc (by simp; omega) _
/-- So many cells. -/
structure Rw (X : Array Value) (n : Nat) : Prop where
  size : X.size = n
  one : X.all (·.oneCell') = true
theorem Rw.info {P : Program} {T : TypeId} {X : Array Value} {n : Nat} (h : Rw X n) (hi : (P.info? T).map (·.size) = some n) : (P.info? T).map (·.size) = some X.size := by rw [h.size]; exact hi
theorem Rw.same {X Y : Array Value} {n : Nat} (h : Rw X n) (k : Rw Y n) : X.size = Y.size := h.size.trans k.size.symm
theorem rw_bytes {l : List UInt8} {n : Nat} (h : l.length = n) : Rw (byteVals l).toArray n := ⟨(size_byteVals l).trans h, byteVals_one l⟩
theorem rw_nums {l : List Nat} {n : Nat} (h : l.length = n) : Rw (nums .u64 l) n := ⟨(size_nums .u64 l).trans h, nums_one .u64 l⟩
/-- Bytes as they came; a number; a point's bytes; four numbers. -/
def RB (l : List UInt8) : Array Value := (byteVals l).toArray
def PB (n : Nat) : Array Value := (byteVals (b32 n)).toArray
def NB (a : Fp) : Array Value := (byteVals (b32 a.val)).toArray
def FR (a b c d : Fp) : Array Value := (byteVals (b32 a.val ++ (b32 b.val ++ (b32 c.val ++ b32 d.val)))).toArray
/-- The document's: words. -/
def WN (n : Nat) : Array Value := nums .u64 (w4 n)
def WB (a : Fp) : Array Value := nums .u64 (w4 a.val)
def WR (a b c d : Fp) : Array Value := nums .u64 (w4 a.val ++ (w4 b.val ++ (w4 c.val ++ w4 d.val)))
theorem RB_rw {l : List UInt8} (h : l.length = 32) : Rw (RB l) 32 := rw_bytes h
theorem PB_rw (n : Nat) : Rw (PB n) 32 := rw_bytes (b32_len _)
theorem NB_rw (a : Fp) : Rw (NB a) 32 := rw_bytes (b32_len _)
theorem FR_rw (a b c d : Fp) : Rw (FR a b c d) 128 := rw_bytes (by simp [b32_len])
theorem WN_rw (n : Nat) : Rw (WN n) 4 := rw_nums (w4_len _)
theorem WB_rw (a : Fp) : Rw (WB a) 4 := rw_nums (w4_len _)
theorem WR_rw (a b c d : Fp) : Rw (WR a b c d) 16 := rw_nums (by simp [w4_len])
/-- The cells stand for the number. -/
def IsN (X : Array Value) (a : Fp) : Prop := ∃ l, l.length = 32 ∧ X = RB l ∧ fp (le l) = a
theorem PP_lit : PP = 57896044618658097711785492504343953926634992332820282019728792003956564819949 := rfl
theorem Fp.lt256 (a : Fp) : a.val < 115792089237316195423570985008687907853269984665640564039457584007913129639936 := lt4 a.isLt
theorem le_nb (a : Fp) : le (b32 a.val) = a.val := le_b32 _ a.lt256
theorem isN_NB (a : Fp) : IsN (NB a) a := ⟨b32 a.val, b32_len _, rfl, by rw [le_nb]; exact fp_val a⟩
theorem isN_RB {l : List UInt8} (h : l.length = 32) : IsN (RB l) (fp (le l)) := ⟨l, h, rfl, rfl⟩
theorem NB_inj {a b : Fp} (h : NB a = NB b) : a = b := by
  have h1 : byteVals (b32 a.val) = byteVals (b32 b.val) := by simpa [NB] using h
  have h2 : b32 a.val = b32 b.val := by
    apply List.ext_getElem?
    intro i
    have h3 := congrArg (fun l : List Value => l[i]?) h1
    simp only [byteVals, List.getElem?_map] at h3
    cases hx : (b32 a.val)[i]? <;> cases hy : (b32 b.val)[i]? <;> simp [hx, hy] at h3 ⊢
    exact UInt8.toNat_inj.1 (Int.ofNat.inj h3)
  exact Fin.ext (b32_inj a.lt256 b.lt256 h2)
/-! ### Parts of a block -/
theorem part_in {α : Type} (pre mid post : List α) {j : Nat} {v : α} (h : mid[j]? = some v) : (pre ++ (mid ++ post))[pre.length + j]? = some v := by
  rw [List.getElem?_append_right (Nat.le_add_right _ _), Nat.add_sub_cancel_left, List.getElem?_append_left (List.getElem?_eq_some_iff.1 h).1]
  exact h
theorem bytes_part (pre mid post : List UInt8) (o : Nat) (ho : pre.length = o) : ∀ (j : Nat) (v : Value), (byteVals mid).toArray[j]? = some v → (byteVals (pre ++ (mid ++ post))).toArray[o + j]? = some v := by
  intro j v h
  have h' : (byteVals mid)[j]? = some v := by simpa using h
  have := part_in (byteVals pre) (byteVals mid) (byteVals post) h'
  rw [show (byteVals pre).length = o by simp [byteVals, ho]] at this
  simpa [byteVals] using this
theorem nums_part (pre mid post : List Nat) (o : Nat) (ho : pre.length = o) : ∀ (j : Nat) (v : Value), (nums .u64 mid)[j]? = some v → (nums .u64 (pre ++ (mid ++ post)))[o + j]? = some v := by
  intro j v h
  have h' : (mid.map fun n : Nat => Value.int .u64 (n : Int))[j]? = some v := by simpa [nums] using h
  have := part_in (pre.map fun n : Nat => Value.int .u64 (n : Int)) _ (post.map fun n : Nat => Value.int .u64 (n : Int)) h'
  rw [show (pre.map fun n : Nat => Value.int .u64 (n : Int)).length = o by simp [ho]] at this
  simpa [nums] using this
theorem FR_0 (a b c d : Fp) : ∀ (j : Nat) (v : Value), (NB a)[j]? = some v → (FR a b c d)[0 + j]? = some v := bytes_part [] _ _ 0 rfl
theorem FR_1 (a b c d : Fp) : ∀ (j : Nat) (v : Value), (NB b)[j]? = some v → (FR a b c d)[32 + j]? = some v := bytes_part (b32 a.val) _ _ 32 (b32_len _)
theorem FR_2 (a b c d : Fp) : ∀ (j : Nat) (v : Value), (NB c)[j]? = some v → (FR a b c d)[64 + j]? = some v := by
  have := bytes_part (b32 a.val ++ b32 b.val) (b32 c.val) (b32 d.val) 64 (by simp [b32_len])
  rwa [List.append_assoc] at this
theorem FR_3 (a b c d : Fp) : ∀ (j : Nat) (v : Value), (NB d)[j]? = some v → (FR a b c d)[96 + j]? = some v := by
  have := bytes_part (b32 a.val ++ (b32 b.val ++ b32 c.val)) (b32 d.val) [] 96 (by simp [b32_len])
  rwa [List.append_nil, List.append_assoc, List.append_assoc] at this
theorem WR_0 (a b c d : Fp) : ∀ (j : Nat) (v : Value), (WB a)[j]? = some v → (WR a b c d)[0 + j]? = some v := nums_part [] _ _ 0 rfl
theorem WR_1 (a b c d : Fp) : ∀ (j : Nat) (v : Value), (WB b)[j]? = some v → (WR a b c d)[4 + j]? = some v := nums_part (w4 a.val) _ _ 4 (w4_len _)
theorem WR_2 (a b c d : Fp) : ∀ (j : Nat) (v : Value), (WB c)[j]? = some v → (WR a b c d)[8 + j]? = some v := by
  have := nums_part (w4 a.val ++ w4 b.val) (w4 c.val) (w4 d.val) 8 (by simp [w4_len])
  rwa [List.append_assoc] at this
theorem WR_3 (a b c d : Fp) : ∀ (j : Nat) (v : Value), (WB d)[j]? = some v → (WR a b c d)[12 + j]? = some v := by
  have := nums_part (w4 a.val ++ (w4 b.val ++ w4 c.val)) (w4 d.val) [] 12 (by simp [w4_len])
  rwa [List.append_nil, List.append_assoc, List.append_assoc] at this
section
variable {P : Program} {w0 : World}
theorem quiet_load_ct {o : Oper} {a : Act} {K : Act → Prop} (ty : TypeId) (x : Operand) (ho : o.op = .load ty x) (g : Nat) (hx : a.eval x = .pointer (some ⟨g, 0, none⟩)) (t : TypeId) (X : Array Value) (n : Nat) (hr : Rw X n) (d : TypeDesc) (hg : CT w0 g t X)
    (hu : P.underlying ty = some d) (hd : (match d with | .struct _ | .array _ _ => true | _ => false) = true) (hi : (P.info? ty).map (·.size) = some n) (h : K (a.put o.dst (.agg X))) :
    o.quiet P a (fun w' => ∃ p : Ext w0, w' = p.x) K := quiet_load_row ty x ho g hx t X (0, 0) d hg hu hd (hr.info hi) h
theorem quiet_load_part {o : Oper} {a : Act} {K : Act → Prop} (ty : TypeId) (x : Operand) (ho : o.op = .load ty x) (g off : Nat) (hx : a.eval x = .pointer (some ⟨g, off, none⟩)) (t : TypeId) (X M : Array Value) (n : Nat) (hr : Rw M n) (d : TypeDesc) (hg : CT w0 g t X)
    (hp : ∀ (j : Nat) (v : Value), M[j]? = some v → X[off + j]? = some v)
    (hu : P.underlying ty = some d) (hd : d.isRow = true) (hi : (P.info? ty).map (·.size) = some n) (h : K (a.put o.dst (.agg M))) :
    o.quiet P a (fun w' => ∃ p : Ext w0, w' = p.x) K := by
  refine ⟨_, fun w ⟨p, hp⟩ => ?_, h⟩
  subst hp
  have hgp : p.x.heap[g]? = some (.cells X t (0, 0)) := hg.ext p.h
  have hc : p.x.rangeAt g off M.toList := fun j v hv => by
    have h1 := hp j v (by simpa using hv)
    show p.x.cell? ⟨g, off + j, none⟩ = some v
    unfold World.cell?
    simp [hgp, h1]
  have hi' : (P.info? ty).map (·.size) = some M.toList.length := by simpa using hr.info hi
  unfold Oper.quietAt execOp
  simp only [ho, hx, Instr.loadAt, Instr.sureAddr, Sem.run_bind, Sem.run_pure, Result.andThen_ok, run_loadVar_mid p.x g off ty M.toList d hc hu hd hi', Oper.quietUpon]
  exact ⟨trivial, trivial⟩
/-! ### New blocks -/
theorem alloc_run (T : TypeId) (Z : Array Value) (hz : ∀ w, (zeroValue T).run P w = .ok (.agg Z) w) (a : Act) (o : Oper) (ho : o.op = .alloc T) (w : World) : (execOp a.eval o).run P w = .ok (.value (.pointer (some ⟨w.heap.size, 0, none⟩))) (w.alloc (.cells Z T)) := by
  unfold execOp
  simp only [ho]
  simp [go_sem, Instr.alloc, hz, Value.cells]
variable {ops : Array Oper} {Q : Exit → Act → World → Prop} {rest : List Oper}
theorem wpList_alloc {oa : Oper} {a : Act} {w : World} (ga : oa.guard = none) (T : TypeId) (hoa : oa.op = .alloc T) (Z : Array Value) (hz : ∀ w, (zeroValue T).run P w = .ok (.agg Z) w)
    (h : wpList P ops Q rest (a.put oa.dst (.pointer (some ⟨w.heap.size, 0, none⟩))) (w.alloc (.cells Z T))) : wpList P ops Q (oa :: rest) a w :=
  wpList_plain ga fun K hK => by
    unfold Oper.wp
    rw [alloc_run T Z hz a oa hoa w, Oper.upon_value]
    exact hK _ _ h
theorem wpList_new1 {oa os : Oper} {a : Act} {w : World} (ga : oa.guard = none) (T : TypeId) (hoa : oa.op = .alloc T) (Z : Array Value) (hz : ∀ w, (zeroValue T).run P w = .ok (.agg Z) w)
    (gs : os.guard = none) (x y : Operand) (hos : os.op = .store T x y) (hx : (a.put oa.dst (.pointer (some ⟨w.heap.size, 0, none⟩))).eval x = .pointer (some ⟨w.heap.size, 0, none⟩)) (X : Array Value) (n : Nat) (hr : Rw X n) (hzs : Z.size = n) (hi : (P.info? T).map (·.size) = some n) (hds : os.dst = none)
    (hy : (a.put oa.dst (.pointer (some ⟨w.heap.size, 0, none⟩))).eval y = .agg X)
    (h : ∀ (M : Nat) (w' : World), w.heap.size = M → Below w.heap.size w w' → CT w' M T X → wpList P ops Q rest (a.put oa.dst (.pointer (some ⟨M, 0, none⟩))) w') : wpList P ops Q (oa :: os :: rest) a w := by
  refine wpList_alloc ga T hoa Z hz (wpList_store_row gs T x y hos w.heap.size X hx hy T Z (Go.heap_alloc_new _ _) (hr.info hi) (hzs.trans hr.size.symm) hr.one ?_)
  rw [hds]
  exact h _ _ rfl (Below.setRow ((Below.refl _ w).alloc (Nat.le_refl _) _) (Nat.le_refl _) _) (setRow_heap _ _ _ _ _ _ (Go.heap_alloc_new _ _))
theorem wpList_new2 {oa ob os ot : Oper} {a : Act} {w : World} (ga : oa.guard = none) (gb : ob.guard = none) (T : TypeId) (hoa : oa.op = .alloc T) (hob : ob.op = .alloc T) (Z : Array Value) (hz : ∀ w, (zeroValue T).run P w = .ok (.agg Z) w)
    (gs : os.guard = none) (gt : ot.guard = none) (x y x' y' : Operand) (hos : os.op = .store T x y) (hot : ot.op = .store T x' y') (X Y : Array Value) (n : Nat) (hr : Rw X n) (hr' : Rw Y n) (hzs : Z.size = n) (hi : (P.info? T).map (·.size) = some n) (hds : os.dst = none) (hdt : ot.dst = none)
    (hx : ((a.put oa.dst (.pointer (some ⟨w.heap.size, 0, none⟩))).put ob.dst (.pointer (some ⟨w.heap.size + 1, 0, none⟩))).eval x = .pointer (some ⟨w.heap.size, 0, none⟩))
    (hy : ((a.put oa.dst (.pointer (some ⟨w.heap.size, 0, none⟩))).put ob.dst (.pointer (some ⟨w.heap.size + 1, 0, none⟩))).eval y = .agg X)
    (hx' : ((a.put oa.dst (.pointer (some ⟨w.heap.size, 0, none⟩))).put ob.dst (.pointer (some ⟨w.heap.size + 1, 0, none⟩))).eval x' = .pointer (some ⟨w.heap.size + 1, 0, none⟩))
    (hy' : ((a.put oa.dst (.pointer (some ⟨w.heap.size, 0, none⟩))).put ob.dst (.pointer (some ⟨w.heap.size + 1, 0, none⟩))).eval y' = .agg Y)
    (h : ∀ (M M' : Nat) (w' : World), w.heap.size = M → M + 1 = M' → Below w.heap.size w w' → CT w' M T X → CT w' M' T Y → wpList P ops Q rest ((a.put oa.dst (.pointer (some ⟨M, 0, none⟩))).put ob.dst (.pointer (some ⟨M', 0, none⟩))) w') : wpList P ops Q (oa :: ob :: os :: ot :: rest) a w := by
  refine wpList_alloc ga T hoa Z hz (wpList_alloc gb T hob Z hz ?_)
  rw [show (w.alloc (.cells Z T)).heap.size = w.heap.size + 1 by simp]
  have h2 := alloc2_at w (.cells Z T) (.cells Z T)
  refine wpList_store_row gs T x y hos w.heap.size X hx hy T Z h2.1 (hr.info hi) (hzs.trans hr.size.symm) hr.one ?_
  rw [hds]
  refine wpList_store_row gt T x' y' hot (w.heap.size + 1) Y hx' hy' T Z ((setRow_other _ _ _ _ (by omega)).trans h2.2) (hr'.info hi) (hzs.trans hr'.size.symm) hr'.one ?_
  rw [hdt]
  refine h _ _ _ rfl rfl (Below.setRow (Below.setRow (((Below.refl _ w).alloc (Nat.le_refl _) _).alloc (by simp) _) (Nat.le_refl _) _) (by omega) _) ((setRow_other _ _ _ _ (by omega)).trans (setRow_heap _ _ _ _ _ _ h2.1)) (setRow_heap _ _ _ _ _ _ ((setRow_other _ _ _ _ (by omega)).trans h2.2))
theorem wpList_store_ct {o : Oper} {a : Act} {w : World} (hgd : o.guard = none) (ty : TypeId) (x y : Operand) (ho : o.op = .store ty x y)
    (g : Nat) (X : Array Value) (hx : a.eval x = .pointer (some ⟨g, 0, none⟩)) (hy : a.eval y = .agg X)
    (t : TypeId) (old : Array Value) (n : Nat) (hg : CT w g t old) (hi : (P.info? ty).map (·.size) = some n) (hro : Rw old n) (hr : Rw X n) (hds : o.dst = none)
    (h : ∀ w', CT w' g t X → (∀ b, b ≠ g → w'.heap[b]? = w.heap[b]?) → (∀ B u, Below B u w → B ≤ g → Below B u w') → wpList P ops Q rest a w') : wpList P ops Q (o :: rest) a w := by
  refine wpList_store_row hgd ty x y ho g X hx hy t old hg (hr.info hi) (hro.same hr) hr.one ?_
  rw [hds]
  exact h _ (setRow_heap _ _ _ _ _ _ hg) (fun b hb => setRow_other _ _ _ _ hb) (fun B u hB hle => Below.setRow hB hle _)
theorem results_ct {fn : Func} {p : Tmp} {ty : TypeId} (h : fn.results = #[.cell p ty]) (tmps : Array Value) (w : World) (g : Nat) (t : TypeId) (X : Array Value) (n : Nat) (d : TypeDesc)
    (hp : tmps.getD p undef = .pointer (some ⟨g, 0, none⟩)) (hg : CT w g t X) (hr : Rw X n)
    (hu : P.underlying ty = some d) (hd : (match d with | .struct _ | .array _ _ => true | _ => false) = true) (hi : (P.info? ty).map (·.size) = some n) :
    (results fn tmps).run P w = .ok (.agg X) w := results_cell_row h tmps w g t X (0, 0) d hp hg hu hd (hr.info hi)
theorem results_ct_slot {fn : Func} {p q : Tmp} {ty : TypeId} (h : fn.results = #[.cell p ty, .tmp q]) (tmps : Array Value) (w : World) (g : Nat) (t : TypeId) (X : Array Value) (n : Nat) (d : TypeDesc) (v : Value)
    (hp : tmps.getD p undef = .pointer (some ⟨g, 0, none⟩)) (hg : CT w g t X) (hr : Rw X n)
    (hu : P.underlying ty = some d) (hd : (match d with | .struct _ | .array _ _ => true | _ => false) = true) (hi : (P.info? ty).map (·.size) = some n) (hv : tmps.getD q undef = v) :
    (results fn tmps).run P w = .ok (.tuple #[.agg X, v]) w := results_cell_slot h tmps w g t X (0, 0) d v hp hg hu hd (hr.info hi) hv
theorem results_ct2_slot {fn : Func} {p p' q : Tmp} {ty ty' : TypeId} (h : fn.results = #[.cell p ty, .cell p' ty', .tmp q]) (tmps : Array Value) (w : World) (g g' : Nat) (t t' : TypeId) (X Y : Array Value) (n n' : Nat) (d d' : TypeDesc) (v : Value)
    (hp : tmps.getD p undef = .pointer (some ⟨g, 0, none⟩)) (hg : CT w g t X) (hr : Rw X n) (hp' : tmps.getD p' undef = .pointer (some ⟨g', 0, none⟩)) (hg' : CT w g' t' Y) (hr' : Rw Y n')
    (hu : P.underlying ty = some d) (hd : (match d with | .struct _ | .array _ _ => true | _ => false) = true) (hi : (P.info? ty).map (·.size) = some n)
    (hu' : P.underlying ty' = some d') (hd' : (match d' with | .struct _ | .array _ _ => true | _ => false) = true) (hi' : (P.info? ty').map (·.size) = some n') (hv : tmps.getD q undef = v) :
    (results fn tmps).run P w = .ok (.tuple #[.agg X, .agg Y, v]) w := by
  have hp1 : tmps[p]?.getD undef = .pointer (some ⟨g, 0, none⟩) := by simpa using hp
  have hp2 : tmps[p']?.getD undef = .pointer (some ⟨g', 0, none⟩) := by simpa using hp'
  have hv' : tmps[q]?.getD undef = v := by simpa using hv
  simp [results, h, hp1, hp2, hv', asAddr, run_loadVar_row w g t ty X (0, 0) d hg hu hd (hr.info hi), run_loadVar_row w g' t' ty' Y (0, 0) d' hg' hu' hd' (hr'.info hi')]
/-! ### 'return x, y, true': either load may come late -/
theorem act_comm (a : Act) (d e : Tmp) (u v : Value) (h : d ≠ e) : (a.put (some d) u).put (some e) v = (a.put (some e) v).put (some d) u := by
  simp only [Act.put]
  congr 1
  exact (Array.setIfInBounds_comm u v (by omega)).symm ▸ rfl
theorem run_load_ct {o : Oper} {a : Act} (ty : TypeId) (x : Operand) (ho : o.op = .load ty x) (g : Nat) (hx : a.eval x = .pointer (some ⟨g, 0, none⟩)) (t : TypeId) (X : Array Value) (n : Nat) (hr : Rw X n) (d : TypeDesc) (hd : (match d with | .struct _ | .array _ _ => true | _ => false) = true) {w : World} (hg : CT w g t X)
    (hu : P.underlying ty = some d) (hi : (P.info? ty).map (·.size) = some n) : (execOp a.eval o).run P w = .ok (.value (.agg X)) w := by
  unfold execOp
  simp only [ho, hx, Instr.loadAt, Instr.sureAddr, Sem.run_bind, Sem.run_pure, Result.andThen_ok, run_loadVar_row w g t ty X (0, 0) d hg hu (by revert hd; cases d <;> intro hd <;> first | rfl | cases hd) (hr.info hi)]
theorem run_store_ct {o : Oper} {a : Act} (ty : TypeId) (x y : Operand) (ho : o.op = .store ty x y) (g : Nat) (X : Array Value) (hx : a.eval x = .pointer (some ⟨g, 0, none⟩)) (hy : a.eval y = .agg X)
    (t : TypeId) (old : Array Value) (n : Nat) {w : World} (hg : CT w g t old) (hi : (P.info? ty).map (·.size) = some n) (hro : Rw old n) (hr : Rw X n) : (execOp a.eval o).run P w = .ok .skip (w.setRow g X) := by
  unfold execOp
  simp only [ho, hx, hy, Instr.storeAt, Instr.sureAddr, Sem.run_bind, Sem.run_pure, Result.andThen_ok, run_storeVar_row w g t ty old X hg (hr.info hi) (hro.same hr) hr.one]
theorem wpOp_of_skip {ops : Array Oper} {Q' : Exit → Act → World → Prop} {i : Nat} {o : Oper} {a : Act} {w w1 : World} {K : Act → World → Prop} (hi : ops[i]? = some o) (hg : o.guard = none) (hr : (execOp a.eval o).run P w = .ok .skip w1) (hK : K (a.put o.dst undef) w1) : wpOp P ops Q' i K a w := by
  unfold wpOp
  simp only [hi]
  rw [if_pos (by simp [Region.wanted, hg])]
  left
  unfold Oper.wp
  rw [hr]
  exact hK
def rdy (l : List Oper) (s : List Bool) : List Nat := Region.ready .any l.toArray s.toArray
theorem wp_region_ret2 {id : Nat} {Q : Exit → Act → World → Prop} {a : Act} {w : World} {o0 o1 o2 o3 o4 : Oper} (hm : P.follows .mixedOrders = true)
    (e0 : rdy [o0, o1, o2, o3, o4] [false, false, false, false, false] = [0, 1]) (e1 : rdy [o0, o1, o2, o3, o4] [true, false, false, false, false] = [1, 2]) (e2 : rdy [o0, o1, o2, o3, o4] [false, true, false, false, false] = [0])
    (e3 : rdy [o0, o1, o2, o3, o4] [true, true, false, false, false] = [2]) (e4 : rdy [o0, o1, o2, o3, o4] [true, false, true, false, false] = [1]) (e5 : rdy [o0, o1, o2, o3, o4] [true, true, true, false, false] = [3])
    (e6 : rdy [o0, o1, o2, o3, o4] [true, true, true, true, false] = [4]) (e7 : rdy [o0, o1, o2, o3, o4] [true, true, true, true, true] = [])
    (g0 : o0.guard = none) (g1 : o1.guard = none) (g2 : o2.guard = none) (g3 : o3.guard = none) (g4 : o4.guard = none)
    (d0 d1 : Tmp) (hd0 : o0.dst = some d0) (hd1 : o1.dst = some d1) (hd2 : o2.dst = none) (hd3 : o3.dst = none) (hd01 : d0 ≠ d1)
    (T : TypeId) (n : Nat) (d : TypeDesc) (hdd : (match d with | .struct _ | .array _ _ => true | _ => false) = true) (hu : P.underlying T = some d) (hi : (P.info? T).map (·.size) = some n)
    (p0 p1 q0 q1 y0 y1 : Operand) (k0 : o0.op = .load T p0) (k1 : o1.op = .load T p1) (k2 : o2.op = .store T q0 y0) (k3 : o3.op = .store T q1 y1)
    (b0 b1 r0 r1 : Nat) (t0 t1 u0 u1 : TypeId) (X0 X1 Z0 Z1 : Array Value) (hX0 : Rw X0 n) (hX1 : Rw X1 n) (hZ0 : Rw Z0 n) (hZ1 : Rw Z1 n)
    (c0 : CT w b0 t0 X0) (c1 : CT w b1 t1 X1) (z0 : CT w r0 u0 Z0) (z1 : CT w r1 u1 Z1) (n1 : b1 ≠ r0) (n2 : r1 ≠ r0)
    (h0 : a.eval p0 = .pointer (some ⟨b0, 0, none⟩)) (h0' : (a.put (some d1) (.agg X1)).eval p0 = .pointer (some ⟨b0, 0, none⟩)) (h1 : a.eval p1 = .pointer (some ⟨b1, 0, none⟩)) (h1' : (a.put (some d0) (.agg X0)).eval p1 = .pointer (some ⟨b1, 0, none⟩))
    (hx2 : (a.put (some d0) (.agg X0)).eval q0 = .pointer (some ⟨r0, 0, none⟩)) (hy2 : (a.put (some d0) (.agg X0)).eval y0 = .agg X0)
    (hx2' : ((a.put (some d0) (.agg X0)).put (some d1) (.agg X1)).eval q0 = .pointer (some ⟨r0, 0, none⟩)) (hy2' : ((a.put (some d0) (.agg X0)).put (some d1) (.agg X1)).eval y0 = .agg X0)
    (hx3 : ((a.put (some d0) (.agg X0)).put (some d1) (.agg X1)).eval q1 = .pointer (some ⟨r1, 0, none⟩)) (hy3 : ((a.put (some d0) (.agg X0)).put (some d1) (.agg X1)).eval y1 = .agg X1)
    (v : Value) (h4 : ∀ w, (execOp ((a.put (some d0) (.agg X0)).put (some d1) (.agg X1)).eval o4).run P w = .ok (.value v) w)
    (h : ∀ w', CT w' r0 u0 X0 → CT w' r1 u1 X1 → (∀ b, b ≠ r0 → b ≠ r1 → w'.heap[b]? = w.heap[b]?) → (∀ B u, Below B u w → B ≤ r0 → B ≤ r1 → Below B u w') → Q .normal (((a.put (some d0) (.agg X0)).put (some d1) (.agg X1)).put o4.dst v) w') :
    (Code.region id [o0, o1, o2, o3, o4].toArray true).wp P Q a w := by
  refine wp_region_any hm ?_
  generalize hw0 : { w with drawn := w.drawn + 1 } = wd
  have hh : wd.heap = w.heap := by rw [← hw0]
  have c0 : CT wd b0 t0 X0 := c0.other (by rw [hh])
  have c1 : CT wd b1 t1 X1 := c1.other (by rw [hh])
  have z0 : CT wd r0 u0 Z0 := z0.other (by rw [hh])
  have z1 : CT wd r1 u1 Z1 := z1.other (by rw [hh])
  have hbd : ∀ B u, Below B u w → Below B u wd := fun B u hB => by subst hw0; exact ⟨hB.os, hB.tape, hB.output, hB.size, hB.block⟩
  have hlast : ∀ w', CT w' r0 u0 X0 → CT w' r1 u1 Z1 → (∀ b, b ≠ r0 → w'.heap[b]? = wd.heap[b]?) → (∀ B u, Below B u wd → B ≤ r0 → Below B u w') →
      wpAny P .any [o0, o1, o2, o3, o4].toArray Q 2 [true, true, true, false, false].toArray ((a.put (some d0) (.agg X0)).put (some d1) (.agg X1)) w' := by
    intro w' cr0 cr1 ho hb
    refine ⟨fun hr => absurd (e5.symm.trans hr) (by simp), fun i hi' => ?_⟩
    have hi' := (congrArg (fun l => i ∈ l) e5).mp hi'
    obtain rfl : i = 3 := by simpa using hi'
    refine wpOp_of_skip (o := o3) rfl g3 (run_store_ct T q1 y1 k3 r1 X1 hx3 hy3 u1 Z1 n cr1 hi hZ1 hX1) ?_
    rw [hd3]
    refine ⟨fun hr => absurd (e6.symm.trans hr) (by simp), fun i hi' => ?_⟩
    have hi' := (congrArg (fun l => i ∈ l) e6).mp hi'
    obtain rfl : i = 4 := by simpa using hi'
    refine wpOp_of_run (o := o4) rfl g4 (h4 _) ?_
    exact ⟨e7, h _ (cr0.other (setRow_other _ _ _ _ (Ne.symm n2))) (setRow_heap _ _ _ _ _ _ cr1) (fun b hb0 hb1 => (setRow_other _ _ _ _ hb1).trans ((ho b hb0).trans (by rw [hh]))) (fun B u hB l0 l1 => Below.setRow (hb B u (hbd B u hB) l0) l1 _)⟩
  refine ⟨fun hr => absurd (e0.symm.trans hr) (by simp), fun i hi' => ?_⟩
  have hi' := (congrArg (fun l => i ∈ l) e0).mp hi'
  rcases (by simpa using hi' : i = 0 ∨ i = 1) with rfl | rfl
  · refine wpOp_of_run (o := o0) rfl g0 (run_load_ct T p0 k0 b0 h0 t0 X0 n hX0 d hdd c0 hu hi) ?_
    rw [hd0]
    refine ⟨fun hr => absurd (e1.symm.trans hr) (by simp), fun i hi' => ?_⟩
    have hi' := (congrArg (fun l => i ∈ l) e1).mp hi'
    rcases (by simpa using hi' : i = 1 ∨ i = 2) with rfl | rfl
    · refine wpOp_of_run (o := o1) rfl g1 (run_load_ct T p1 k1 b1 h1' t1 X1 n hX1 d hdd c1 hu hi) ?_
      rw [hd1]
      refine ⟨fun hr => absurd (e3.symm.trans hr) (by simp), fun i hi' => ?_⟩
      have hi' := (congrArg (fun l => i ∈ l) e3).mp hi'
      obtain rfl : i = 2 := by simpa using hi'
      refine wpOp_of_skip (o := o2) rfl g2 (run_store_ct T q0 y0 k2 r0 X0 hx2' hy2' u0 Z0 n z0 hi hZ0 hX0) ?_
      rw [hd2]
      exact hlast _ (setRow_heap _ _ _ _ _ _ z0) (z1.other (setRow_other _ _ _ _ n2)) (fun b hb => setRow_other _ _ _ _ hb) (fun B u hB hl => Below.setRow hB hl _)
    · refine wpOp_of_skip (o := o2) rfl g2 (run_store_ct T q0 y0 k2 r0 X0 hx2 hy2 u0 Z0 n z0 hi hZ0 hX0) ?_
      rw [hd2]
      refine ⟨fun hr => absurd (e4.symm.trans hr) (by simp), fun i hi' => ?_⟩
      have hi' := (congrArg (fun l => i ∈ l) e4).mp hi'
      obtain rfl : i = 1 := by simpa using hi'
      refine wpOp_of_run (o := o1) rfl g1 (run_load_ct T p1 k1 b1 h1' t1 X1 n hX1 d hdd (c1.other (setRow_other _ _ _ _ n1)) hu hi) ?_
      rw [hd1]
      exact hlast _ (setRow_heap _ _ _ _ _ _ z0) (z1.other (setRow_other _ _ _ _ n2)) (fun b hb => setRow_other _ _ _ _ hb) (fun B u hB hl => Below.setRow hB hl _)
  · refine wpOp_of_run (o := o1) rfl g1 (run_load_ct T p1 k1 b1 h1 t1 X1 n hX1 d hdd c1 hu hi) ?_
    rw [hd1]
    refine ⟨fun hr => absurd (e2.symm.trans hr) (by simp), fun i hi' => ?_⟩
    have hi' := (congrArg (fun l => i ∈ l) e2).mp hi'
    obtain rfl : i = 0 := by simpa using hi'
    refine wpOp_of_run (o := o0) rfl g0 (run_load_ct T p0 k0 b0 h0' t0 X0 n hX0 d hdd c0 hu hi) ?_
    rw [hd0, ← act_comm a d0 d1 _ _ hd01]
    refine ⟨fun hr => absurd (e3.symm.trans hr) (by simp), fun i hi' => ?_⟩
    have hi' := (congrArg (fun l => i ∈ l) e3).mp hi'
    obtain rfl : i = 2 := by simpa using hi'
    refine wpOp_of_skip (o := o2) rfl g2 (run_store_ct T q0 y0 k2 r0 X0 hx2' hy2' u0 Z0 n z0 hi hZ0 hX0) ?_
    rw [hd2]
    exact hlast _ (setRow_heap _ _ _ _ _ _ z0) (z1.other (setRow_other _ _ _ _ n2)) (fun b hb => setRow_other _ _ _ _ hb) (fun B u hB hl => Below.setRow hB hl _)
end
end Go.Proofs.Ytfmclkmmkceldaa
