/-
  Arrays of words and of bytes as cells; math/bits.Add64, Sub64, Mul64.
  Conditions: none.
-/
import Derived.Test.YtfmclkmmkceldaaShBy
import Derived.Test.YtfmclkmmkceldaaFdP
import Derived.WalkKit
import Derived.WalkSpells
import Derived.WalkLawsBesides
import Derived.Deep.QuietTactic
import Derived.BigQuiet
import Derived.Lib.Hide
import Derived.Lib.Mul64
import Derived.Laws.Externs
import Derived.Laws.BitsAllLaws
import Derived.Laws.BitsLemmas
import Derived.Deep.WholeRow
import Derived.Deep.RegionHeld3
import Derived.StillTailTactics
import Derived.Laws.StructEq
import Derived.ChangeKeysEq
namespace Go.Proofs.Ytfmclkmmkceldaa
open Go.RowKit

theorem Calls.quiet_eq {P : Program} {f : FuncId} {args : Array Value} {w : World} {n : Nat} {v : Value} (h : Calls P f args (w.drewN n) fun e w' => e = .returned v ∧ w' = w.drewN n) :
    Calls P f args (w.drewN n) fun e w'' => e = .returned v ∧ ∃ k, w'' = w.drewN k := h.mono fun _ _ ⟨he, hm⟩ => ⟨he, n, hm⟩
theorem Calls.quiet_eq2 {P : Program} {f : FuncId} {args : Array Value} {w : World} {m n : Nat} {v : Value} (h : Calls P f args (w.drewN (m + n)) fun e w' => e = .returned v ∧ w' = w.drewN (m + n)) :
    Calls P f args (w.drewN (m + n)) fun e w'' => e = .returned v ∧ ∃ k, w'' = w.drewN (m + k) := h.mono fun _ _ ⟨he, hm⟩ => ⟨he, n, hm⟩
theorem wraps_u64 (n : Int) (h₀ : 0 ≤ n) (h₁ : n < 2 ^ 64) : IntKind.u64.wrap n = n := by rw [IntKind.wrap_u64]; omega
structure Stop (p : Prop) : Prop where
  out : p
/-- Numbers of a kind, as cells. -/
def nums (k : IntKind) (l : List Nat) : Array Value := (l.map fun n : Nat => Value.int k (n : Int)).toArray
@[simp] theorem size_nums (k : IntKind) (l : List Nat) : (nums k l).size = l.length := by simp [nums]
theorem nums_one (k : IntKind) (l : List Nat) : (nums k l).all (·.oneCell') = true := by
  simp [nums, Value.oneCell']
/-- So many noughts. -/
def zer (n : Nat) : List Nat := List.replicate n 0
theorem zer_len (n : Nat) : (zer n).length = n := List.length_replicate
/-- Block b holds these numbers, and nothing more. -/
def RW (w : World) (b : Nat) (k : IntKind) (t : TypeId) (l : List Nat) : Prop := w.heap[b]? = some (.cells (nums k l) t (0, 0))
theorem RW.cell {w : World} {b i : Nat} {k : IntKind} {t : TypeId} {l : List Nat} (h : RW w b k t l) (hi : i < l.length) : w.cell? ⟨b, i, none⟩ = some (.int k ((l.getD i 0 : Nat) : Int)) := by
  rw [cell_of_row _ _ _ _ _ _ h]
  simp [nums, List.getElem?_eq_getElem hi]
theorem RW.frozen {w : World} {b : Nat} {k : IntKind} {t : TypeId} {l : List Nat} (h : RW w b k t l) (i : Nat) : w.frozen? ⟨b, i, none⟩ = false := frozen_of_row _ _ _ _ _ h
theorem RW.set {w : World} {b i : Nat} {k : IntKind} {t : TypeId} {l : List Nat} (h : RW w b k t l) (x : Nat) : RW (w.setCell ⟨b, i, none⟩ (.int k (x : Int))) b k t (l.set i x) := by
  unfold RW
  rw [setCell_cells _ h]
  congr 2
  apply Array.ext'
  simp [nums, List.map_set]
theorem RW.drew {w : World} {b : Nat} {k : IntKind} {t : TypeId} {l : List Nat} (h : RW w b k t l) : RW w.drew b k t l := h
theorem RW.other {w w' : World} {b : Nat} {k : IntKind} {t : TypeId} {l : List Nat} (h : RW w b k t l) (hb : w'.heap[b]? = w.heap[b]?) : RW w' b k t l := hb.trans h
theorem RW.lt {w : World} {b : Nat} {k : IntKind} {t : TypeId} {l : List Nat} (h : RW w b k t l) : b < w.heap.size := (Array.getElem?_eq_some_iff.1 h).1
theorem BelowX.set1 {w : World} {b : Nat} (B i : Nat) (v : Value) : BelowX B b w (w.setCell ⟨b, i, none⟩ v) :=
  ⟨rfl, rfl, rfl, by show _ ≤ (w.heap.modify b _).size; rw [Array.size_modify]; exact Nat.le_refl _, fun _ _ h => setCell_other v h⟩
theorem BelowX.set8 {w : World} {b B : Nat} (_ : b < B) (v0 v1 v2 v3 v4 v5 v6 v7 : Value) : BelowX B b w ((((((((w.setCell ⟨b, 0, none⟩ v0).setCell ⟨b, 1, none⟩ v1).setCell ⟨b, 2, none⟩ v2).setCell ⟨b, 3, none⟩ v3).setCell ⟨b, 4, none⟩ v4).setCell ⟨b, 5, none⟩ v5).setCell ⟨b, 6, none⟩ v6).setCell ⟨b, 7, none⟩ v7) :=
  (((((((BelowX.set1 _ _ _).trans (BelowX.set1 _ _ _)).trans (BelowX.set1 _ _ _)).trans (BelowX.set1 _ _ _)).trans (BelowX.set1 _ _ _)).trans (BelowX.set1 _ _ _)).trans (BelowX.set1 _ _ _)).trans (BelowX.set1 _ _ _)
/-- An element of an array by value, whose elements take one cell each. -/
theorem index_arr {P : Program} (w : World) (t e : TypeId) (n : Nat) (cs : Array Value) (k : IntKind) (i : Nat) (v : Value) (h : P.underlying t = some (.array n e)) (hs : (sizeOf e).run P w = .ok 1 w) (ha : (isAgg e).run P w = .ok false w) (hi : i < n) (hv : cs[i]? = some v) :
    (Instr.index t (.agg cs) (.int k (i : Int))).run P w = .ok v w := by
  have hn : (0 : Int) ≤ (i : Int) ∧ (i : Int) < (n : Int) := by omega
  simp [Instr.index, run_underlying h, asIntOf, hn, go_sem, hs, ha, part, hv, hi]
theorem Below.setRow {B g : Nat} {u v : World} (h : Below B u v) (hg : B ≤ g) (cs : Array Value) : Below B u (v.setRow g cs) :=
  ⟨h.os, h.tape, h.output, by rw [setRow_size]; exact h.size, fun k hk => by rw [setRow_other _ _ _ _ (by omega)]; exact h.block k hk⟩
/-- A whole array out of a part of a block. -/
theorem run_load_part {P : Program} (w : World) (g off : Nat) (ty : TypeId) (cs : Array Value) (d : TypeDesc) (hc : ∀ j v, cs.toList[j]? = some v → w.cell? ⟨g, off + j, none⟩ = some v)
    (hu : P.underlying ty = some d) (hd : (match d with | .struct _ | .array _ _ => true | _ => false) = true) (hi : (P.info? ty).map (·.size) = some cs.size) :
    (loadVar ty ⟨g, off, none⟩).run P w = .ok (.agg cs) w := by
  have hl : (loadCells ⟨g, off, none⟩ cs.toList.length).run P w = .ok cs.toList.toArray w :=
    run_loadCells_list (P := P) w ⟨g, off, none⟩ cs.toList (fun j v hv => by
      have hadd : (⟨g, off, none⟩ : Addr).add j = ⟨g, off + j, none⟩ := by unfold Addr.add; split <;> simp_all
      rw [hadd]
      exact hc j v hv)
  cases hq : P.info? ty with
  | none => simp [hq] at hi
  | some i =>
    have hs : i.size = cs.size := by simpa [hq] using hi
    have hagg : (isAgg ty).run P w = .ok true w := by
      unfold isAgg
      rw [Sem.run_bind, run_underlying hu w]
      cases d <;> simp_all
    simp only [Array.length_toList, Array.toArray_toList] at hl
    simp [loadVar, Sem.run_bind, hagg, sizeOf, typeInfo, hq, hs, hl]
theorem wpList_load_part {P : Program} {ops : Array Oper} {rest : List Oper} {o : Oper} {a : Act} {w : World} {Q : Exit → Act → World → Prop} (hgd : o.guard = none) (ty : TypeId) (x : Operand) (ho : o.op = .load ty x)
    (g off : Nat) (hx : a.eval x = .pointer (some ⟨g, off, none⟩)) (cs : Array Value) (d : TypeDesc) (hc : ∀ j v, cs.toList[j]? = some v → w.cell? ⟨g, off + j, none⟩ = some v)
    (hu : P.underlying ty = some d) (hd : (match d with | .struct _ | .array _ _ => true | _ => false) = true) (hi : (P.info? ty).map (·.size) = some cs.size)
    (h : wpList P ops Q rest (a.put o.dst (.agg cs)) w) : wpList P ops Q (o :: rest) a w :=
  wpList_plain hgd fun _ hK => by
    unfold Oper.wp execOp
    simp only [ho, hx, Instr.loadAt, Instr.sureAddr, Sem.run_bind, Sem.run_pure, Result.andThen_ok, run_load_part w g off ty cs d hc hu hd hi]
    exact hK _ _ h
/-- Block b holds these bytes, as an array of type t. -/
def BT (w : World) (b : Nat) (t : TypeId) (l : List UInt8) : Prop := w.heap[b]? = some (.cells (byteVals l).toArray t (0, 0))
def zerB (n : Nat) : List UInt8 := List.replicate n 0
theorem zerB_len (n : Nat) : (zerB n).length = n := List.length_replicate
theorem size_byteVals (l : List UInt8) : (byteVals l).toArray.size = l.length := by simp [byteVals]
theorem byteVals_one (l : List UInt8) : (byteVals l).toArray.all (·.oneCell') = true := by simp [byteVals, Value.oneCell']
theorem BT.cell {w : World} {b i : Nat} {t : TypeId} {l : List UInt8} (h : BT w b t l) (hi : i < l.length) : w.cell? ⟨b, i, none⟩ = some (.int .u8 ((l.getD i 0).toNat : Int)) := by
  rw [cell_of_row _ _ _ _ _ _ h]
  simp [byteVals, List.getElem?_eq_getElem hi]
theorem BT.frozen {w : World} {b : Nat} {t : TypeId} {l : List UInt8} (h : BT w b t l) (i : Nat) : w.frozen? ⟨b, i, none⟩ = false := frozen_of_row _ _ _ _ _ h
theorem BT.set {w : World} {b i : Nat} {t : TypeId} {l : List UInt8} (h : BT w b t l) (x : UInt8) : BT (w.setCell ⟨b, i, none⟩ (.int .u8 (x.toNat : Int))) b t (l.set i x) := by
  unfold BT
  rw [setCell_cells _ h]
  congr 2
  apply Array.ext'
  simp [byteVals, List.map_set]
theorem BT.other {w w' : World} {b : Nat} {t : TypeId} {l : List UInt8} (h : BT w b t l) (hb : w'.heap[b]? = w.heap[b]?) : BT w' b t l := hb.trans h
theorem fill_set {α : Type} (f : Nat → α) (z : α) (k m : Nat) : ((List.range k).map f ++ List.replicate (m + 1) z).set k (f k) = (List.range (k + 1)).map f ++ List.replicate m z := by
  rw [List.replicate_succ, List.set_append_right _ _ (by simp), List.range_succ]
  simp
theorem wpList_build' {P : Program} {ops : Array Oper} {rest : List Oper} {o : Oper} {a : Act} {w : World} {Q : Exit → Act → World → Prop} (hg : o.guard = none) (t : TypeId) (parts : Array (Nat × Operand)) (ho : o.op = .build t parts) (cells : Array Value)
    (hf : P.built t (parts.map fun (i, x) => (i, a.eval x)).toList = some cells)
    (h : wpList P ops Q rest (a.put o.dst (.agg cells)) w) : wpList P ops Q (o :: rest) a w :=
  wpList_build hg t parts ho (by rw [hf]; rfl) (by rw [hf]; exact h)
theorem alloc2_at (w : World) (o1 o2 : Obj) : ((w.alloc o1).alloc o2).heap[w.heap.size]? = some o1 ∧ ((w.alloc o1).alloc o2).heap[w.heap.size + 1]? = some o2 :=
  ⟨(Go.heap_alloc_old _ _ (by simp)).trans (Go.heap_alloc_new _ _), by have := Go.heap_alloc_new (w.alloc o1) o2; simpa using this⟩
theorem alloc3_at (w : World) (o1 o2 o3 : Obj) : (((w.alloc o1).alloc o2).alloc o3).heap[w.heap.size]? = some o1 ∧ (((w.alloc o1).alloc o2).alloc o3).heap[w.heap.size + 1]? = some o2 ∧ (((w.alloc o1).alloc o2).alloc o3).heap[w.heap.size + 1 + 1]? = some o3 := by
  refine ⟨?_, ?_, ?_⟩
  · show (((w.heap.push _).push _).push _)[w.heap.size]? = _
    rw [Array.getElem?_push_lt (by simp; omega), Array.getElem_push_lt (by simp), Array.getElem_push_eq]
  · show (((w.heap.push _).push _).push _)[w.heap.size + 1]? = _
    rw [Array.getElem?_push_lt (by simp)]
    simp [Array.getElem_push]
  · show (((w.heap.push _).push _).push _)[w.heap.size + 1 + 1]? = _
    rw [show w.heap.size + 1 + 1 = ((w.heap.push o1).push o2).size by simp, Array.getElem?_push_size]
theorem Below.alloc3 (w : World) (o1 o2 o3 : Obj) : Below w.heap.size w (((w.alloc o1).alloc o2).alloc o3) :=
  (((Below.refl _ w).alloc (Nat.le_refl _) o1).alloc (by simp) o2).alloc (by simp; omega) o3

theorem results_cell_slot {P : Program} {fn : Func} {p q : Tmp} {ty : TypeId} (h : fn.results = #[.cell p ty, .tmp q]) (tmps : Array Value) (w : World) (g : Nat) (t : TypeId) (cs : Array Value) (fr : Nat × Nat) (d : TypeDesc) (v : Value)
    (hp : tmps.getD p undef = .pointer (some ⟨g, 0, none⟩)) (hg : w.heap[g]? = some (.cells cs t fr))
    (hu : P.underlying ty = some d) (hd : (match d with | .struct _ | .array _ _ => true | _ => false) = true) (hi : (P.info? ty).map (·.size) = some cs.size) (hv : tmps.getD q undef = v) :
    (results fn tmps).run P w = .ok (.tuple #[.agg cs, v]) w := by
  have hp' : tmps[p]?.getD undef = .pointer (some ⟨g, 0, none⟩) := by simpa using hp
  have hv' : tmps[q]?.getD undef = v := by simpa using hv
  simp [results, h, hp', hv', asAddr, run_loadVar_row w g t ty cs fr d hg hu hd hi]
/-- The carry of a difference. -/
def bor (x y : Nat) : Nat := if x < y then 1 else 0
theorem bor_le (x y : Nat) : bor x y ≤ 1 := by unfold bor; split <;> omega
def sub64E : Array Value → Sem Value := fun args => do
  let (x, y, b) ← Extern.MathBitsCarry.three "Sub64" args
  pure (Extern.MathBitsCarry.pair ((x + Extern.MathBitsCarry.m64 - y - b) % Extern.MathBitsCarry.m64) (if x < y + b then 1 else 0))
theorem run_sub64' {P : Program} (x y b : Nat) (hb : b ≤ 1) (w : World) :
    (sub64E #[.int .u64 x, .int .u64 y, .int .u64 b]).run P w = .ok (.tuple #[.int .u64 (((x + 18446744073709551616 - y - b) % 18446744073709551616 : Nat) : Int), .int .u64 ((bor x (y + b) : Nat) : Int)]) w := by
  have : b = 0 ∨ b = 1 := by omega
  rcases this with rfl | rfl <;> rfl
theorem add64 (x y c s d : Nat) (hc : c ≤ 1) (hs : x + y + c = s + 18446744073709551616 * d) (hl : s < 18446744073709551616) (w : World) :
    (callFunc 122 #[.int .u64 x, .int .u64 y, .int .u64 c]).run Try.prog w = .ok (.value (.tuple #[.int .u64 (s : Int), .int .u64 (d : Int)])) w := by
  rw [run_callFunc_extern Try.func122 (by kernel_rfl) (by kernel_rfl) (by kernel_rfl) (e := add64Entry) (by kernel_rfl), run_add64 x y c (by omega) (by omega) (by omega) (by omega)]
  simp only [Result.andThen]
  have e1 : ((x : Int) + y + c) % 18446744073709551616 = s := by omega
  have e2 : ((x : Int) + y + c) / 18446744073709551616 = d := by omega
  rw [e1, e2]
theorem add64_0 (x y s d : Nat) (hs : x + y = s + 18446744073709551616 * d) (hl : s < 18446744073709551616) (w : World) :
    (callFunc 122 #[.int .u64 x, .int .u64 y, .int .u64 0]).run Try.prog w = .ok (.value (.tuple #[.int .u64 (s : Int), .int .u64 (d : Int)])) w :=
  add64 x y 0 s d (by decide) (by omega) hl w
theorem sub64 (x y b s d : Nat) (hb : b ≤ 1) (hs : x + 18446744073709551616 * d = s + y + b) (hl : s < 18446744073709551616) (hy : y < 18446744073709551616) (hx : x < 18446744073709551616) (hd : d ≤ 1) (w : World) :
    (callFunc 127 #[.int .u64 x, .int .u64 y, .int .u64 b]).run Try.prog w = .ok (.value (.tuple #[.int .u64 (s : Int), .int .u64 (d : Int)])) w := by
  rw [run_callFunc_extern Try.func127 (by kernel_rfl) (by kernel_rfl) (by kernel_rfl) (e := sub64E) (by kernel_rfl), run_sub64' x y b hb]
  simp only [Result.andThen]
  have e1 : (x + 18446744073709551616 - y - b) % 18446744073709551616 = s := by omega
  have e2 : bor x (y + b) = d := by unfold bor; split <;> omega
  rw [e1, e2]
theorem maskN (a : Nat) (ha : a < 18446744073709551616) : bits .and .u64 (a : Int) 4294967295 = ((a % 4294967296 : Nat) : Int) := by
  have := bits_mask .u64 64 (by decide) wraps_u64 32 (by decide) (a : Int) (by omega) (by omega)
  rw [show (4294967295 : Int) = 2 ^ 32 - 1 by decide, this]
  omega
theorem divN (a : Nat) : (a : Int) / 4294967296 = ((a / 4294967296 : Nat) : Int) := by omega
theorem mulN (a b : Nat) : (a : Int) * (b : Int) = ((a * b : Nat) : Int) := (Int.natCast_mul a b).symm
theorem addN (a b : Nat) : (a : Int) + (b : Int) = ((a + b : Nat) : Int) := (Int.natCast_add a b).symm
theorem wrapN (a : Nat) (ha : a < 18446744073709551616) : IntKind.u64.wrap (a : Int) = (a : Int) := by rw [IntKind.wrap_u64]; omega
theorem wrapM (a : Nat) : IntKind.u64.wrap (a : Int) = ((a % 18446744073709551616 : Nat) : Int) := by rw [IntKind.wrap_u64]; omega
set_option maxRecDepth 100000 in
set_option maxHeartbeats 1000000 in
theorem mul64_any (x y : Nat) (hx : x < 18446744073709551616) (hy : y < 18446744073709551616) (w : World) :
    Calls Try.prog 121 #[.int .u64 x, .int .u64 y] w fun e w' => e = .returned (.tuple #[.int .u64 ((x * y / 18446744073709551616 : Nat) : Int), .int .u64 ((x * y % 18446744073709551616 : Nat) : Int)]) ∧ w' = w := by
  obtain ⟨bd, bt, bw, hhi⟩ := Lib.mul64_hi x y hx hy
  have ba := Lib.half_mul_le (a := x / 4294967296) (b := y / 4294967296) (by omega) (by omega)
  have bb := Lib.half_mul_le (a := x / 4294967296) (b := y % 4294967296) (by omega) (by omega)
  have bc := Lib.half_mul_le (a := x % 4294967296) (b := y / 4294967296) (by omega) (by omega)
  have ba' : x / 4294967296 * (y / 4294967296) < 18446744073709551616 := by omega
  have bb' : x / 4294967296 * (y % 4294967296) < 18446744073709551616 := by omega
  have bc' : x % 4294967296 * (y / 4294967296) < 18446744073709551616 := by omega
  have bh1 : x / 4294967296 * (y / 4294967296) + (x / 4294967296 * (y % 4294967296) + x % 4294967296 * (y % 4294967296) / 4294967296) / 4294967296 < 18446744073709551616 := by omega
  have bh : x / 4294967296 * (y / 4294967296) + (x / 4294967296 * (y % 4294967296) + x % 4294967296 * (y % 4294967296) / 4294967296) / 4294967296 + ((x / 4294967296 * (y % 4294967296) + x % 4294967296 * (y % 4294967296) / 4294967296) % 4294967296 + x % 4294967296 * (y / 4294967296)) / 4294967296 < 18446744073709551616 := by omega
  have H1 := Lib.hid (And.intro bd (And.intro bb' (And.intro bt (And.intro bc' (And.intro bw (And.intro ba' (And.intro bh1 bh)))))))
  have HX := Lib.hid (And.intro hx hy)
  have HH := Lib.hid hhi
  clear bd bt bw hhi ba bb bc ba' bb' bc' bh1 bh hx hy
  go_enter Try.func121, Try.ntmps121
  go_wp2
  simp only [maskN x HX.out.1, maskN y HX.out.2, divN, mulN, addN, wrapN _ H1.out.1, wrapN _ H1.out.2.1, wrapN _ H1.out.2.2.1, maskN _ H1.out.2.2.1, wrapN _ H1.out.2.2.2.1, wrapN _ H1.out.2.2.2.2.1, wrapN _ H1.out.2.2.2.2.2.1, wrapN _ H1.out.2.2.2.2.2.2.1, wrapN _ H1.out.2.2.2.2.2.2.2, wrapM (x * y)]
  rw [HH.out]
  go_ret2
  exact ⟨rfl, rfl⟩
end Go.Proofs.Ytfmclkmmkceldaa
