/-
  One byte out of 32: read, written; a point's last byte.
  Conditions: none.
-/
import Derived.Test.YtfmclkmmkceldaaCvX
import Derived.Test.YtfmclkmmkceldaaScB
namespace Go.Proofs.Ytfmclkmmkceldaa
open Go.RowKit

theorem le_set : ∀ (l : List UInt8) (k : Nat) (x : UInt8), k < l.length → le (l.set k x) + 256 ^ k * (l.getD k 0).toNat = le l + 256 ^ k * x.toNat
  | [], k, x, h => by cases h
  | b :: l, 0, x, _ => by simp [le]; omega
  | b :: l, k + 1, x, h => by
    have ih := le_set l k x (by simpa using h)
    have e : le ((b :: l).set (k + 1) x) = b.toNat + 256 * le (l.set k x) := rfl
    have e2 : le (b :: l) = b.toNat + 256 * le l := rfl
    rw [e, e2, show (b :: l).getD (k + 1) 0 = l.getD k 0 by simp [List.getD_eq_getElem?_getD], Nat.pow_succ, Nat.mul_comm (256 ^ k) 256, Nat.mul_assoc, Nat.mul_assoc]
    omega
theorem PB_le {l : List UInt8} (h : l.length = 32) : PB (le l) = RB l := by unfold PB RB; rw [b32_le l h]
theorem isN_PB {n : Nat} (h : n < 115792089237316195423570985008687907853269984665640564039457584007913129639936) : IsN (PB n) (fp n) := ⟨b32 n, b32_len _, rfl, by rw [le_b32 n h]⟩
theorem PB_31 (n : Nat) (h : n < 115792089237316195423570985008687907853269984665640564039457584007913129639936) : (PB n)[31]? = some (.int .u8 ((n / 452312848583266388373324160190187140051835877600158453279131187530910662656 : Nat) : Int)) := by
  unfold PB
  rw [byteVals_get _ 31 (by rw [b32_len]; decide), b32_get n 31 (by decide), UInt8.toNat_ofNat', show 256 ^ 31 = 452312848583266388373324160190187140051835877600158453279131187530910662656 by decide]
  congr 3
  omega
theorem PB_set31 (n m v : Nat) (hn : n < 115792089237316195423570985008687907853269984665640564039457584007913129639936) (hv : v < 256)
    (hm : m + 452312848583266388373324160190187140051835877600158453279131187530910662656 * (n / 452312848583266388373324160190187140051835877600158453279131187530910662656) = n + 452312848583266388373324160190187140051835877600158453279131187530910662656 * v) :
    (PB n).setIfInBounds 31 (.int .u8 ((v : Nat) : Int)) = PB m := by
  have h1 : (PB n).setIfInBounds 31 (.int .u8 ((v : Nat) : Int)) = (byteVals ((b32 n).set 31 (UInt8.ofNat v))).toArray := by
    unfold PB byteVals
    rw [List.setIfInBounds_toArray, List.map_set, UInt8.toNat_ofNat', Nat.mod_eq_of_lt (show v < 2 ^ 8 by omega)]
  have h2 := le_set (b32 n) 31 (UInt8.ofNat v) (by rw [b32_len]; decide)
  rw [le_b32 n hn, b32_get n 31 (by decide), UInt8.toNat_ofNat', UInt8.toNat_ofNat', show 256 ^ 31 = 452312848583266388373324160190187140051835877600158453279131187530910662656 by decide, Nat.mod_eq_of_lt (show v < 2 ^ 8 by omega)] at h2
  have h3 : le ((b32 n).set 31 (UInt8.ofNat v)) = m := by omega
  rw [h1]
  unfold PB
  rw [← h3, b32_le _ (by rw [List.length_set]; exact b32_len _)]
theorem or128 (n : Nat) (h : n < 256) : bits .or .u8 (n : Int) 128 = ((n % 128 + 128 : Nat) : Int) := by
  have : ∀ a : Fin 256, bits .or .u8 (a.val : Int) 128 = ((a.val % 128 + 128 : Nat) : Int) := by decide +kernel
  exact this ⟨n, h⟩
theorem and128 (n : Nat) (h : n < 256) : bits .and .u8 (n : Int) 128 = ((n / 128 * 128 : Nat) : Int) := by
  have : ∀ a : Fin 256, bits .and .u8 (a.val : Int) 128 = ((a.val / 128 * 128 : Nat) : Int) := by decide +kernel
  exact this ⟨n, h⟩
theorem and127 (n : Nat) (h : n < 256) : bits .and .u8 (n : Int) 127 = ((n % 128 : Nat) : Int) := by
  have : ∀ a : Fin 256, bits .and .u8 (a.val : Int) 127 = ((a.val % 128 : Nat) : Int) := by decide +kernel
  exact this ⟨n, h⟩
theorem andNot128 (n : Nat) (h : n < 256) : bits .andNot .u8 (n : Int) 128 = ((n % 128 : Nat) : Int) := by
  have : ∀ a : Fin 256, bits .andNot .u8 (a.val : Int) 128 = ((a.val % 128 : Nat) : Int) := by decide +kernel
  exact this ⟨n, h⟩
theorem run_and8 {P : Program} (o : Oper) (ax : Act) (t : TypeId) (x y : Operand) (ho : o.op = .binOp .and t x y t) (a b : Int) (hx : ax.eval x = .int .u8 a) (hy : ax.eval y = .int .u8 b) (c : Int) (hc : bits .and .u8 a b = c) (w : World) : (execOp ax.eval o).run P w = .ok (.value (.int .u8 c)) w := by
  unfold execOp
  simp only [ho, hx, hy]
  simp [go_sem, hc]
theorem run_or8 {P : Program} (o : Oper) (ax : Act) (t : TypeId) (x y : Operand) (ho : o.op = .binOp .or t x y t) (a b : Int) (hx : ax.eval x = .int .u8 a) (hy : ax.eval y = .int .u8 b) (c : Int) (hc : bits .or .u8 a b = c) (w : World) : (execOp ax.eval o).run P w = .ok (.value (.int .u8 c)) w := by
  unfold execOp
  simp only [ho, hx, hy]
  simp [go_sem, hc]
theorem run_andNot8 {P : Program} (o : Oper) (ax : Act) (t : TypeId) (x y : Operand) (ho : o.op = .binOp .andNot t x y t) (a b : Int) (hx : ax.eval x = .int .u8 a) (hy : ax.eval y = .int .u8 b) (c : Int) (hc : bits .andNot .u8 a b = c) (w : World) : (execOp ax.eval o).run P w = .ok (.value (.int .u8 c)) w := by
  unfold execOp
  simp only [ho, hx, hy]
  simp [go_sem, hc]
theorem run_neq8 (o : Oper) (ax : Act) (x y : Operand) (ho : o.op = .binOp .neq 5 x y 5) (a b : Int) (hx : ax.eval x = .int .u8 a) (hy : ax.eval y = .int .u8 b) (c : Bool) (hc : (!(a == b)) = c) (w : World) : (execOp ax.eval o).run Try.prog w = .ok (.value (.bool c)) w := by
  have hu := Try.underlying5
  unfold execOp
  simp only [ho, hx, hy]
  simp [go_sem, ← hc, bne]
section
variable {w0 : World}
theorem quiet_load_byte {o : Oper} {a : Act} {K : Act → Prop} (x : Operand) (ho : o.op = .load 5 x) (g i : Nat) (hx : a.eval x = .pointer (some ⟨g, i, none⟩)) (t : TypeId) (X : Array Value) (hg : CT w0 g t X) (v : Value) (hv : X[i]? = some v) (h : K (a.put o.dst v)) :
    o.quiet Try.prog a (fun w' => ∃ p : Ext w0, w' = p.x) K := by
  have hu := Try.underlying5
  refine ⟨_, fun w ⟨p, hp⟩ => ?_, h⟩
  subst hp
  have hc : p.x.cell? ⟨g, i, none⟩ = some v := by
    have hgp : p.x.heap[g]? = some (.cells X t (0, 0)) := hg.ext p.h
    unfold World.cell?
    simp [hgp, hv]
  unfold Oper.quietAt execOp
  simp only [ho, hx]
  simp [go_sem, hc, Oper.quietUpon]
variable {ops : Array Oper} {Q : Exit → Act → World → Prop} {rest : List Oper}
theorem wpList_store_byte {o : Oper} {a : Act} {w : World} (hgd : o.guard = none) (x y : Operand) (ho : o.op = .store 5 x y) (g i : Nat) (hx : a.eval x = .pointer (some ⟨g, i, none⟩)) (v : Int) (hy : a.eval y = .int .u8 v)
    (t : TypeId) (X X' : Array Value) (hg : CT w g t X) (hi : i < X.size) (hX : X.setIfInBounds i (.int .u8 v) = X') (hds : o.dst = none)
    (h : ∀ w', CT w' g t X' → (∀ b, b ≠ g → w'.heap[b]? = w.heap[b]?) → (∀ B u, Below B u w → B ≤ g → Below B u w') → wpList Try.prog ops Q rest a w') : wpList Try.prog ops Q (o :: rest) a w := by
  have hu := Try.underlying5
  have hgh : w.heap[g]? = some (.cells X t (0, 0)) := hg
  have hc : w.cell? ⟨g, i, none⟩ = some X[i] := by simp [World.cell?, hgh, hi]
  have hf : w.frozen? ⟨g, i, none⟩ = false := by simp [World.frozen?, hgh]
  refine wpList_plain hgd fun K hK => ?_
  unfold Oper.wp execOp
  simp only [ho, hx, hy]
  simp [go_sem, hc, hf, hds, Value.cells]
  exact hK _ _ (h _ ((setCell_cells _ hgh).trans (by rw [hX])) (fun b hb => setCell_other _ hb) (fun B u hB hle => hB.setCell hle _))
end
end Go.Proofs.Ytfmclkmmkceldaa
