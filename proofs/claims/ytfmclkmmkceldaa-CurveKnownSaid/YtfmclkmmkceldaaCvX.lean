/-
  Package field's functions as sums and products in the field; what is built of parts.
  Conditions: none.
-/
import Derived.Test.YtfmclkmmkceldaaCvW
import Derived.Test.YtfmclkmmkceldaaFdRt
import Derived.Great.FillDense
namespace Go.Proofs.Ytfmclkmmkceldaa
open Go.RowKit

theorem fill_congr (p q : Nat → Option (Nat × Nat)) : ∀ (parts : List (Nat × Value)) (cells : Array Value), (∀ x ∈ parts, p x.1 = q x.1) → Instr.fill p cells parts = Instr.fill q cells parts
  | [], _, _ => rfl
  | (i, v) :: rest, cells, h => by
    have h1 := h (i, v) (List.mem_cons_self ..)
    have h2 := fun cells => fill_congr p q rest cells (fun x hx => h x (List.mem_cons_of_mem _ hx))
    unfold Instr.fill
    rw [show p i = q i from h1]
    cases q i with
    | none => rfl
    | some x =>
      obtain ⟨off, size⟩ := x
      simp only
      split
      · rfl
      · exact h2 _
theorem zPt (w : World) : (zeroValue 24).run Try.prog w = .ok (.agg (PB 0)) w :=
  (zero_of_info (P := Try.prog) (t := 24) (v := .agg (PB 0)) (n := 32) (by kernel_rfl)).1 w
theorem zFr (w : World) : (zeroValue 76).run Try.prog w = .ok (.agg (FR 0 0 0 0)) w :=
  (zero_of_info (P := Try.prog) (t := 76) (v := .agg (FR 0 0 0 0)) (n := 128) (by kernel_rfl)).1 w
theorem zNu (w : World) : (zeroValue 26).run Try.prog w = .ok (.agg (NB 0)) w :=
  (zero_of_info (P := Try.prog) (t := 26) (v := .agg (NB 0)) (n := 32) (by kernel_rfl)).1 w
theorem zBy (w : World) : (zeroValue 23).run Try.prog w = .ok (.agg (PB 0)) w :=
  (zero_of_info (P := Try.prog) (t := 23) (v := .agg (PB 0)) (n := 32) (by kernel_rfl)).1 w
theorem zPo (w : World) : (zeroValue 88).run Try.prog w = .ok (.agg (WR 0 0 0 0)) w :=
  (zero_of_info (P := Try.prog) (t := 88) (v := .agg (WR 0 0 0 0)) (n := 16) (by kernel_rfl)).1 w
theorem zWo (w : World) : (zeroValue 86).run Try.prog w = .ok (.agg (WB 0)) w :=
  (zero_of_info (P := Try.prog) (t := 86) (v := .agg (WB 0)) (n := 4) (by kernel_rfl)).1 w
theorem built_F (parts : List (Nat × Value)) : Try.prog.built 76 parts = Instr.fill (fun i => #[(0, 32), (32, 32), (64, 32), (96, 32)][i]?) (FR 0 0 0 0) parts := by kernel_rfl
theorem built_P (parts : List (Nat × Value)) : Try.prog.built 88 parts = Instr.fill (fun i => #[(0, 4), (4, 4), (8, 4), (12, 4)][i]?) (WR 0 0 0 0) parts := by kernel_rfl
theorem flat4 (x y z t : List UInt8) : ([Value.agg (byteVals x).toArray, .agg (byteVals y).toArray, .agg (byteVals z).toArray, .agg (byteVals t).toArray].flatMap fun v => v.cells.toList).toArray = (byteVals (x ++ (y ++ (z ++ t)))).toArray := by
  simp [Value.cells, byteVals]
theorem flat4w (x y z t : List Nat) : ([Value.agg (nums .u64 x), .agg (nums .u64 y), .agg (nums .u64 z), .agg (nums .u64 t)].flatMap fun v => v.cells.toList).toArray = nums .u64 (x ++ (y ++ (z ++ t))) := by
  simp [Value.cells, nums]
theorem made_F (a b c d : Fp) : Try.prog.built 76 [(0, .agg (NB a)), (1, .agg (NB b)), (2, .agg (NB c)), (3, .agg (NB d))] = some (FR a b c d) := by
  rw [built_F, fill_congr _ (fun i => some (i * 32, 32)) _ _ (by
    intro x hx
    simp only [List.mem_cons, List.not_mem_nil, or_false] at hx
    rcases hx with rfl | rfl | rfl | rfl <;> rfl)]
  have h := Go.Great.fill_whole (s := 32) (by decide) [.agg (NB a), .agg (NB b), .agg (NB c), .agg (NB d)] (FR 0 0 0 0) (by
    intro v hv
    simp only [List.mem_cons, List.not_mem_nil, or_false] at hv
    rcases hv with rfl | rfl | rfl | rfl <;> exact (NB_rw _).size) (FR_rw 0 0 0 0).size.symm
  exact h.trans (congrArg some (flat4 _ _ _ _))
theorem made_P (a b c d : Fp) : Try.prog.built 88 [(0, .agg (WB a)), (1, .agg (WB b)), (2, .agg (WB c)), (3, .agg (WB d))] = some (WR a b c d) := by
  rw [built_P, fill_congr _ (fun i => some (i * 4, 4)) _ _ (by
    intro x hx
    simp only [List.mem_cons, List.not_mem_nil, or_false] at hx
    rcases hx with rfl | rfl | rfl | rfl <;> rfl)]
  have h := Go.Great.fill_whole (s := 4) (by decide) [.agg (WB a), .agg (WB b), .agg (WB c), .agg (WB d)] (WR 0 0 0 0) (by
    intro v hv
    simp only [List.mem_cons, List.not_mem_nil, or_false] at hv
    rcases hv with rfl | rfl | rfl | rfl <;> exact (WB_rw _).size) (WR_rw 0 0 0 0).size.symm
  exact h.trans (congrArg some (flat4w _ _ _ _))
theorem run_built {P : Program} (o : Oper) (ax : Act) (t : TypeId) (parts : Array (Nat × Operand)) (ho : o.op = .build t parts) (X : Array Value) (hf : P.built t (parts.map fun (i, x) => (i, ax.eval x)).toList = some X) (w : World) : (execOp ax.eval o).run P w = .ok (.value (.agg X)) w := by
  unfold execOp
  simp only [ho]
  have := run_build (P := P) w t (parts.map fun (i, x) => (i, ax.eval x)) X hf
  simp [this]
theorem run_made_F (o : Oper) (ax : Act) (x0 x1 x2 x3 : Operand) (ho : o.op = .build 76 #[(0, x0), (1, x1), (2, x2), (3, x3)]) (a b c d : Fp) (h0 : ax.eval x0 = .agg (NB a)) (h1 : ax.eval x1 = .agg (NB b)) (h2 : ax.eval x2 = .agg (NB c)) (h3 : ax.eval x3 = .agg (NB d)) (w : World) :
    (execOp ax.eval o).run Try.prog w = .ok (.value (.agg (FR a b c d))) w :=
  run_built o ax _ _ ho _ (by
    simp only [List.map_toArray, List.map_cons, List.map_nil, h0, h1, h2, h3]
    exact made_F a b c d) w
theorem run_made_P (o : Oper) (ax : Act) (x0 x1 x2 x3 : Operand) (ho : o.op = .build 88 #[(0, x0), (1, x1), (2, x2), (3, x3)]) (a b c d : Fp) (h0 : ax.eval x0 = .agg (WB a)) (h1 : ax.eval x1 = .agg (WB b)) (h2 : ax.eval x2 = .agg (WB c)) (h3 : ax.eval x3 = .agg (WB d)) (w : World) :
    (execOp ax.eval o).run Try.prog w = .ok (.value (.agg (WR a b c d))) w :=
  run_built o ax _ _ ho _ (by
    simp only [List.map_toArray, List.map_cons, List.map_nil, h0, h1, h2, h3]
    exact made_P a b c d) w
/-! ### Numbers -/
theorem fp_mod (n : Nat) : fp (n % PP) = fp n := Fin.ext (Nat.mod_mod _ _)
theorem fMul_fp (a b : Nat) (ha : a < 115792089237316195423570985008687907853269984665640564039457584007913129639936) (hb : b < 115792089237316195423570985008687907853269984665640564039457584007913129639936) : fMul a b = (fp a * fp b).val := by
  rw [fMul_eq a b ha hb]; exact Nat.mul_mod _ _ _
theorem fAdd_fp (a b : Nat) : fAdd a b = (fp a + fp b).val := rfl
theorem fSub_fp (a b : Nat) : fSub a b = (fp a - fp b).val := by
  show (a % PP + PP - b % PP) % PP = (PP - b % PP + a % PP) % PP
  have := Nat.mod_lt b PP_pos
  congr 1; omega
theorem IsN.mul {X Y : Array Value} {a b : Fp} (hx : IsN X a) (hy : IsN Y b) (w : World) : Calls Try.prog 20 #[.agg X, .agg Y] w fun e w' => e = .returned (.agg (NB (a * b))) ∧ Below w.heap.size w w' := by
  obtain ⟨l, hl, rfl, rfl⟩ := hx
  obtain ⟨m, hm, rfl, rfl⟩ := hy
  have h := Mul_any l m w hl hm
  rw [fMul_fp _ _ (le_32 l hl) (le_32 m hm)] at h
  exact h
theorem IsN.add {X Y : Array Value} {a b : Fp} (hx : IsN X a) (hy : IsN Y b) (w : World) : Calls Try.prog 31 #[.agg X, .agg Y] w fun e w' => e = .returned (.agg (NB (a + b))) ∧ Below w.heap.size w w' := by
  obtain ⟨l, hl, rfl, rfl⟩ := hx
  obtain ⟨m, hm, rfl, rfl⟩ := hy
  exact Add_any l m w hl hm
theorem IsN.sub {X Y : Array Value} {a b : Fp} (hx : IsN X a) (hy : IsN Y b) (w : World) : Calls Try.prog 13 #[.agg X, .agg Y] w fun e w' => e = .returned (.agg (NB (a - b))) ∧ Below w.heap.size w w' := by
  obtain ⟨l, hl, rfl, rfl⟩ := hx
  obtain ⟨m, hm, rfl, rfl⟩ := hy
  have h := Sub_any l m w hl hm
  rw [fSub_fp] at h
  exact h
/-- What undoes a product, nought of nought. -/
def finv (a : Fp) : Fp := ⟨fInv a.val, fInv_lt _⟩
theorem fInv_mod (a : Nat) (ha : a < 115792089237316195423570985008687907853269984665640564039457584007913129639936) : fInv a = fInv (a % PP) := by
  rw [fInv_eq a ha, fInv_eq (a % PP) (lt4 (Nat.mod_lt _ PP_pos))]
  exact Nat.pow_mod _ _ _
theorem IsN.inv {X : Array Value} {a : Fp} (hx : IsN X a) (w : World) : Calls Try.prog 21 #[.agg X] w fun e w' => e = .returned (.agg (NB (finv a))) ∧ Below w.heap.size w w' := by
  obtain ⟨l, hl, rfl, rfl⟩ := hx
  have h := Inv_any l w hl
  rw [fInv_mod _ (le_32 l hl)] at h
  exact h
theorem finv_mul {a : Fp} (h : a ≠ 0) : a * finv a = 1 := by
  have h1 : a.val % PP ≠ 0 := fun e => h (Fin.ext (by rw [← Nat.mod_eq_of_lt a.isLt]; exact e))
  have h2 := fInv_one a.val a.lt256 h1
  rw [fMul_fp _ _ a.lt256 (lt4 (fInv_lt _)), fp_val] at h2
  refine Fin.ext (Eq.trans ?_ h2)
  exact congrArg (fun b => (a * b).val) (fp_val (finv a)).symm
/-- The even root. -/
def frt (a : Fp) : Fp := ⟨(fRoot a.val).1, fRoot_lt _⟩
def fis (a : Fp) : Bool := (fRoot a.val).2
theorem fRoot_mod (a : Nat) : fRoot (a % PP) = fRoot a := by
  unfold fRoot
  rw [show a % PP % 57896044618658097711785492504343953926634992332820282019728792003956564819949 = a % 57896044618658097711785492504343953926634992332820282019728792003956564819949 from Nat.mod_mod _ _]
theorem IsN.root {X : Array Value} {a : Fp} (hx : IsN X a) (w : World) : Calls Try.prog 38 #[.agg X] w fun e w' => e = .returned (.tuple #[.agg (NB (frt a)), .bool (fis a)]) ∧ Below w.heap.size w w' := by
  obtain ⟨l, hl, rfl, rfl⟩ := hx
  have h := Root_any l w hl
  rw [← fRoot_mod] at h
  exact h
theorem frt_sq {a : Fp} (h : fis a = true) : frt a * frt a = a := by
  have h1 := fRoot_sq a.val h
  refine Fin.ext ?_
  rw [Fp.mul_v]
  exact h1.trans (Nat.mod_eq_of_lt a.isLt)
theorem frt_even (a : Fp) : (frt a).val % 2 = 0 := fRoot_even a.val
theorem fis_sq (x : Fp) : fis (x * x) = true := by
  have h := fRoot_of_sq x.val x.lt256
  rw [fMul_fp _ _ x.lt256 x.lt256, fp_val] at h
  exact h
theorem IsN.rest {X : Array Value} {a : Fp} (hx : IsN X a) (w : World) : Calls Try.prog 43 #[.agg X] w fun e w' => e = .returned (.agg (NB a)) ∧ Below w.heap.size w w' := by
  obtain ⟨l, hl, rfl, rfl⟩ := hx
  exact Rest_any l w hl
theorem IsN.odd {X : Array Value} {a : Fp} (hx : IsN X a) (w : World) : Calls Try.prog 24 #[.agg X] w fun e w' => e = .returned (.bool (decide (a.val % 2 = 1))) ∧ Below w.heap.size w w' := by
  obtain ⟨l, hl, rfl, rfl⟩ := hx
  exact Odd_any l w hl
theorem Of_one (w : World) : Calls Try.prog 14 #[.int .u64 1] w fun e w' => e = .returned (.agg (NB 1)) ∧ Below w.heap.size w w' := Of_any 1 w (by decide)
theorem Good_RB {l : List UInt8} (hl : l.length = 32) (w : World) : Calls Try.prog 41 #[.agg (RB l)] w fun e w' => e = .returned (.bool (decide (le l < PP))) ∧ Below w.heap.size w w' := Good_any l w hl
/-! ### The same? -/
theorem run_eqN' (o : Oper) (ax : Act) (x y : Operand) (ho : o.op = .binOp .eql 26 x y 26) (a b : Fp) (hx : ax.eval x = .agg (NB a)) (hy : ax.eval y = .agg (NB b)) (c : Bool) (hc : decide (a = b) = c) (w : World) :
    (execOp ax.eval o).run Try.prog w = .ok (.value (.bool c)) w :=
  run_eqB o ax x y 26 ho Try.underlying26 (b32 a.val) (b32 b.val) hx hy (b32_len _) (b32_len _) (by kernel_rfl) c (by
    rw [← hc, Bool.eq_iff_iff, decide_eq_true_eq, decide_eq_true_eq]
    exact ⟨fun h => Fin.ext (b32_inj a.lt256 b.lt256 h), fun h => by rw [h]⟩) w
end Go.Proofs.Ytfmclkmmkceldaa
