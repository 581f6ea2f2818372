/-
  Eight words; the constants.
  Conditions: none.
-/
import Derived.Test.YtfjkinmmidmjaaaDoorShA
import Derived.Test.YtfjkinmmidmjaaaDoorShBy
namespace Go.Proofs.YtfjkinmmidmjaaaDoor
open Go.RowKit

structure Stop (p : Prop) : Prop where
  out : p
/-- Eight words. -/
structure W8 where
  a : Nat
  b : Nat
  c : Nat
  d : Nat
  e : Nat
  f : Nat
  g : Nat
  h : Nat
def W8.l (v : W8) : List Nat := [v.a, v.b, v.c, v.d, v.e, v.f, v.g, v.h]
def W8.lt (v : W8) (m : Nat) : Prop := v.a < m ∧ v.b < m ∧ v.c < m ∧ v.d < m ∧ v.e < m ∧ v.f < m ∧ v.g < m ∧ v.h < m
def square : List Nat := [7640891576956012808, 13503953896175478587, 4354685564936845355, 11912009170470909681, 5840696475078001361, 11170449401992604703, 2270897969802886507, 6620516959819538809]
def cube : List Nat := [4794697086780616226, 8158064640168781261, 13096744586834688815, 16840607885511220156, 4131703408338449720, 6480981068601479193, 10538285296894168987, 12329834152419229976, 15566598209576043074, 1334009975649890238, 2608012711638119052, 6128411473006802146, 8268148722764581231, 9286055187155687089, 11230858885718282805, 13951009754708518548, 16472876342353939154, 17275323862435702243, 1135362057144423861, 2597628984639134821, 3308224258029322869, 5365058923640841347, 6679025012923562964, 8573033837759648693, 10970295158949994411, 12119686244451234320, 12683024718118986047, 13788192230050041572, 14330467153632333762, 15395433587784984357, 489312712824947311, 1452737877330783856, 2861767655752347644, 3322285676063803686, 5560940570517711597, 5996557281743188959, 7280758554555802590, 8532644243296465576, 9350256976987008742, 10552545826968843579, 11727347734174303076, 12113106623233404929, 14000437183269869457, 14369950271660146224, 15101387698204529176, 15463397548674623760, 17586052441742319658, 1182934255886127544, 1847814050463011016, 2177327727835720531, 2830643537854262169, 3796741975233480872, 4115178125766777443, 5681478168544905931, 6601373596472566643, 7507060721942968483, 8399075790359081724, 8693463985226723168, 9568029438360202098, 10144078919501101548, 10430055236837252648, 11840083180663258601, 13761210420658862357, 14299343276471374635, 14566680578165727644, 15097957966210449927, 16922976911328602910, 17689382322260857208, 500013540394364858, 748580250866718886, 1242879168328830382, 1977374033974150939, 2944078676154940804, 3659926193048069267, 4368137639120453308, 4836135668995329356, 5532061633213252278, 6448918945643986474, 6902733635092675308, 7801388544844847127]
/-- Numbers of a kind, as cells. -/
def nums (k : IntKind) (l : List Nat) : Array Value := (l.map fun n : Nat => Value.int k (n : Int)).toArray
@[simp] theorem size_nums (k : IntKind) (l : List Nat) : (nums k l).size = l.length := by simp [nums]
theorem nums_one (k : IntKind) (l : List Nat) : (nums k l).all (·.oneCell') = true := by
  simp [nums, Value.oneCell']
/-- So many noughts. -/
def zer (n : Nat) : List Nat := List.replicate n 0
theorem zer_len (n : Nat) : (zer n).length = n := List.length_replicate
/-- Block b holds these numbers, and nothing more. -/
def RW (w : World) (b : Nat) (k : IntKind) (t : TypeId) (l : List Nat) : Prop := w.heap[b]? = some (.cells (nums k l) t (0, 0))
theorem RW.cell {w : World} {b i : Nat} {k : IntKind} {t : TypeId} {l : List Nat} (h : RW w b k t l) (hi : i < l.length) : w.cell? ⟨b, i, none⟩ = some (.int k ((l.getD i 0 : Nat) : Int)) := by
  rw [cell_of_row _ _ _ _ _ _ h]
  simp [nums, List.getElem?_eq_getElem hi]
theorem RW.frozen {w : World} {b : Nat} {k : IntKind} {t : TypeId} {l : List Nat} (h : RW w b k t l) (i : Nat) : w.frozen? ⟨b, i, none⟩ = false := frozen_of_row _ _ _ _ _ h
theorem RW.set {w : World} {b i : Nat} {k : IntKind} {t : TypeId} {l : List Nat} (h : RW w b k t l) (x : Nat) : RW (w.setCell ⟨b, i, none⟩ (.int k (x : Int))) b k t (l.set i x) := by
  unfold RW
  rw [setCell_cells _ h]
  congr 2
  apply Array.ext'
  simp [nums, List.map_set]
theorem RW.drew {w : World} {b : Nat} {k : IntKind} {t : TypeId} {l : List Nat} (h : RW w b k t l) : RW w.drew b k t l := h
theorem RW.other {w w' : World} {b : Nat} {k : IntKind} {t : TypeId} {l : List Nat} (h : RW w b k t l) (hb : w'.heap[b]? = w.heap[b]?) : RW w' b k t l := hb.trans h
theorem RW.lt {w : World} {b : Nat} {k : IntKind} {t : TypeId} {l : List Nat} (h : RW w b k t l) : b < w.heap.size := (Array.getElem?_eq_some_iff.1 h).1
theorem BelowX.set1 {w : World} {b : Nat} (B i : Nat) (v : Value) : BelowX B b w (w.setCell ⟨b, i, none⟩ v) :=
  ⟨rfl, rfl, rfl, by show _ ≤ (w.heap.modify b _).size; rw [Array.size_modify]; exact Nat.le_refl _, fun _ _ h => setCell_other v h⟩
theorem BelowX.set8 {w : World} {b B : Nat} (_ : b < B) (v0 v1 v2 v3 v4 v5 v6 v7 : Value) : BelowX B b w ((((((((w.setCell ⟨b, 0, none⟩ v0).setCell ⟨b, 1, none⟩ v1).setCell ⟨b, 2, none⟩ v2).setCell ⟨b, 3, none⟩ v3).setCell ⟨b, 4, none⟩ v4).setCell ⟨b, 5, none⟩ v5).setCell ⟨b, 6, none⟩ v6).setCell ⟨b, 7, none⟩ v7) :=
  (((((((BelowX.set1 _ _ _).trans (BelowX.set1 _ _ _)).trans (BelowX.set1 _ _ _)).trans (BelowX.set1 _ _ _)).trans (BelowX.set1 _ _ _)).trans (BelowX.set1 _ _ _)).trans (BelowX.set1 _ _ _)).trans (BelowX.set1 _ _ _)
/-- An element of an array by value, whose elements take one cell each. -/
theorem index_arr {P : Program} (w : World) (t e : TypeId) (n : Nat) (cs : Array Value) (k : IntKind) (i : Nat) (v : Value) (h : P.underlying t = some (.array n e)) (hs : (sizeOf e).run P w = .ok 1 w) (ha : (isAgg e).run P w = .ok false w) (hi : i < n) (hv : cs[i]? = some v) :
    (Instr.index t (.agg cs) (.int k (i : Int))).run P w = .ok v w := by
  have hn : (0 : Int) ≤ (i : Int) ∧ (i : Int) < (n : Int) := by omega
  simp [Instr.index, run_underlying h, asIntOf, hn, go_sem, hs, ha, part, hv, hi]
theorem Below.setRow {B g : Nat} {u v : World} (h : Below B u v) (hg : B ≤ g) (cs : Array Value) : Below B u (v.setRow g cs) :=
  ⟨h.os, h.tape, h.output, by rw [setRow_size]; exact h.size, fun k hk => by rw [setRow_other _ _ _ _ (by omega)]; exact h.block k hk⟩
/-- A whole array out of a part of a block. -/
theorem run_load_part {P : Program} (w : World) (g off : Nat) (ty : TypeId) (cs : Array Value) (d : TypeDesc) (hc : ∀ j v, cs.toList[j]? = some v → w.cell? ⟨g, off + j, none⟩ = some v)
    (hu : P.underlying ty = some d) (hd : (match d with | .struct _ | .array _ _ => true | _ => false) = true) (hi : (P.info? ty).map (·.size) = some cs.size) :
    (loadVar ty ⟨g, off, none⟩).run P w = .ok (.agg cs) w := by
  have hl : (loadCells ⟨g, off, none⟩ cs.toList.length).run P w = .ok cs.toList.toArray w :=
    run_loadCells_list (P := P) w ⟨g, off, none⟩ cs.toList (fun j v hv => by
      have hadd : (⟨g, off, none⟩ : Addr).add j = ⟨g, off + j, none⟩ := by unfold Addr.add; split <;> simp_all
      rw [hadd]
      exact hc j v hv)
  cases hq : P.info? ty with
  | none => simp [hq] at hi
  | some i =>
    have hs : i.size = cs.size := by simpa [hq] using hi
    have hagg : (isAgg ty).run P w = .ok true w := by
      unfold isAgg
      rw [Sem.run_bind, run_underlying hu w]
      cases d <;> simp_all
    simp only [Array.length_toList, Array.toArray_toList] at hl
    simp [loadVar, Sem.run_bind, hagg, sizeOf, typeInfo, hq, hs, hl]
theorem wpList_load_part {P : Program} {ops : Array Oper} {rest : List Oper} {o : Oper} {a : Act} {w : World} {Q : Exit → Act → World → Prop} (hgd : o.guard = none) (ty : TypeId) (x : Operand) (ho : o.op = .load ty x)
    (g off : Nat) (hx : a.eval x = .pointer (some ⟨g, off, none⟩)) (cs : Array Value) (d : TypeDesc) (hc : ∀ j v, cs.toList[j]? = some v → w.cell? ⟨g, off + j, none⟩ = some v)
    (hu : P.underlying ty = some d) (hd : (match d with | .struct _ | .array _ _ => true | _ => false) = true) (hi : (P.info? ty).map (·.size) = some cs.size)
    (h : wpList P ops Q rest (a.put o.dst (.agg cs)) w) : wpList P ops Q (o :: rest) a w :=
  wpList_plain hgd fun _ hK => by
    unfold Oper.wp execOp
    simp only [ho, hx, Instr.loadAt, Instr.sureAddr, Sem.run_bind, Sem.run_pure, Result.andThen_ok, run_load_part w g off ty cs d hc hu hd hi]
    exact hK _ _ h
/-- The two tables. -/
def Gl (w : World) : Prop := (∀ i, i < 8 → w.cell? ⟨0, i, none⟩ = some (.int .u64 ((square.getD i 0 : Nat) : Int))) ∧ ∀ i, i < 80 → w.cell? ⟨1, i, none⟩ = some (.int .u64 ((cube.getD i 0 : Nat) : Int))
theorem Gl.lt {w : World} (h : Gl w) : 1 < w.heap.size := block_lt_of_cell (h.2 0 (by decide))
theorem Gl.keep {w w' : World} (h : Gl w) (h0 : w'.heap[0]? = w.heap[0]?) (h1 : w'.heap[1]? = w.heap[1]?) : Gl w' :=
  ⟨fun i hi => by rw [World.cell?_of_block h0]; exact h.1 i hi, fun i hi => by rw [World.cell?_of_block h1]; exact h.2 i hi⟩
theorem Gl.below {w w' : World} (h : Gl w) (hb : Below w.heap.size w w') : Gl w' := h.keep (hb.block 0 (by have := h.lt; omega)) (hb.block 1 h.lt)
theorem Gl.belowX {w w' : World} {B b : Nat} (h : Gl w) (hb : BelowX B b w w') (h1 : 1 < b) (hB : 1 < B) : Gl w' := h.keep (hb.block 0 (by omega) (by omega)) (hb.block 1 (by omega) (by omega))
theorem square_lt : ∀ i : Nat, square.getD i 0 < 18446744073709551616 := by
  intro i
  by_cases h : i < 8
  · have : ∀ j : Fin 8, square.getD j.val 0 < 18446744073709551616 := by decide +kernel
    exact this ⟨i, h⟩
  · rw [List.getD_eq_getElem?_getD, List.getElem?_eq_none (by simpa [square] using h)]; decide
theorem cube_lt : ∀ i : Nat, cube.getD i 0 < 18446744073709551616 := by
  intro i
  by_cases h : i < 80
  · have : ∀ j : Fin 80, cube.getD j.val 0 < 18446744073709551616 := by decide +kernel
    exact this ⟨i, h⟩
  · rw [List.getD_eq_getElem?_getD, List.getElem?_eq_none (by simpa [cube] using h)]; decide
/-- Block b holds these bytes, as an array of type t. -/
def BT (w : World) (b : Nat) (t : TypeId) (l : List UInt8) : Prop := w.heap[b]? = some (.cells (byteVals l).toArray t (0, 0))
def zerB (n : Nat) : List UInt8 := List.replicate n 0
theorem zerB_len (n : Nat) : (zerB n).length = n := List.length_replicate
theorem size_byteVals (l : List UInt8) : (byteVals l).toArray.size = l.length := by simp [byteVals]
theorem byteVals_one (l : List UInt8) : (byteVals l).toArray.all (·.oneCell') = true := by simp [byteVals, Value.oneCell']
theorem BT.cell {w : World} {b i : Nat} {t : TypeId} {l : List UInt8} (h : BT w b t l) (hi : i < l.length) : w.cell? ⟨b, i, none⟩ = some (.int .u8 ((l.getD i 0).toNat : Int)) := by
  rw [cell_of_row _ _ _ _ _ _ h]
  simp [byteVals, List.getElem?_eq_getElem hi]
theorem BT.frozen {w : World} {b : Nat} {t : TypeId} {l : List UInt8} (h : BT w b t l) (i : Nat) : w.frozen? ⟨b, i, none⟩ = false := frozen_of_row _ _ _ _ _ h
theorem BT.set {w : World} {b i : Nat} {t : TypeId} {l : List UInt8} (h : BT w b t l) (x : UInt8) : BT (w.setCell ⟨b, i, none⟩ (.int .u8 (x.toNat : Int))) b t (l.set i x) := by
  unfold BT
  rw [setCell_cells _ h]
  congr 2
  apply Array.ext'
  simp [byteVals, List.map_set]
theorem BT.other {w w' : World} {b : Nat} {t : TypeId} {l : List UInt8} (h : BT w b t l) (hb : w'.heap[b]? = w.heap[b]?) : BT w' b t l := hb.trans h
theorem fill_set {α : Type} (f : Nat → α) (z : α) (k m : Nat) : ((List.range k).map f ++ List.replicate (m + 1) z).set k (f k) = (List.range (k + 1)).map f ++ List.replicate m z := by
  rw [List.replicate_succ, List.set_append_right _ _ (by simp), List.range_succ]
  simp
theorem wpList_build' {P : Program} {ops : Array Oper} {rest : List Oper} {o : Oper} {a : Act} {w : World} {Q : Exit → Act → World → Prop} (hg : o.guard = none) (t : TypeId) (parts : Array (Nat × Operand)) (ho : o.op = .build t parts) (cells : Array Value)
    (hf : P.built t (parts.map fun (i, x) => (i, a.eval x)).toList = some cells)
    (h : wpList P ops Q rest (a.put o.dst (.agg cells)) w) : wpList P ops Q (o :: rest) a w :=
  wpList_build hg t parts ho (by rw [hf]; rfl) (by rw [hf]; exact h)
theorem alloc2_at (w : World) (o1 o2 : Obj) : ((w.alloc o1).alloc o2).heap[w.heap.size]? = some o1 ∧ ((w.alloc o1).alloc o2).heap[w.heap.size + 1]? = some o2 :=
  ⟨(Go.heap_alloc_old _ _ (by simp)).trans (Go.heap_alloc_new _ _), by have := Go.heap_alloc_new (w.alloc o1) o2; simpa using this⟩
theorem alloc3_at (w : World) (o1 o2 o3 : Obj) : (((w.alloc o1).alloc o2).alloc o3).heap[w.heap.size]? = some o1 ∧ (((w.alloc o1).alloc o2).alloc o3).heap[w.heap.size + 1]? = some o2 ∧ (((w.alloc o1).alloc o2).alloc o3).heap[w.heap.size + 1 + 1]? = some o3 := by
  refine ⟨?_, ?_, ?_⟩
  · show (((w.heap.push _).push _).push _)[w.heap.size]? = _
    rw [Array.getElem?_push_lt (by simp; omega), Array.getElem_push_lt (by simp), Array.getElem_push_eq]
  · show (((w.heap.push _).push _).push _)[w.heap.size + 1]? = _
    rw [Array.getElem?_push_lt (by simp)]
    simp [Array.getElem_push]
  · show (((w.heap.push _).push _).push _)[w.heap.size + 1 + 1]? = _
    rw [show w.heap.size + 1 + 1 = ((w.heap.push o1).push o2).size by simp, Array.getElem?_push_size]
theorem Below.alloc3 (w : World) (o1 o2 o3 : Obj) : Below w.heap.size w (((w.alloc o1).alloc o2).alloc o3) :=
  (((Below.refl _ w).alloc (Nat.le_refl _) o1).alloc (by simp) o2).alloc (by simp; omega) o3
end Go.Proofs.YtfjkinmmidmjaaaDoor
