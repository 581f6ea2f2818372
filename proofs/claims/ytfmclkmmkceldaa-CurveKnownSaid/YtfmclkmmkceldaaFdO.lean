/-
  Arrays of bytes that came in, and that read as they did.
  Conditions: none.
-/
import Derived.Test.YtfmclkmmkceldaaRows
import Derived.OpenShut
import Derived.ProofKit
import Derived.Test.YtfmclkmmkceldaaShBy
namespace Go.Proofs.Ytfmclkmmkceldaa
open Go.ChangeShapes Go.WideShapes Go.ChangeAt Go.RowKit
section
variable {H : Type} {enc : TypeId × Value → H} {P : Program} {w : World} {base : Nat} {spare : Nat → Bool} {held : Bool}

/-- A byte, opened. -/
theorem trod_u8 {fuel : Nat} {e : TypeId} {v : Value} {x : DataW H × List MemPlace} (he : P.underlying e = some (.int .u8)) (h : DataW.trod enc P w base spare held fuel e [v] = some x) :
    ∃ b : UInt8, v = .int .u8 (b.toNat : Int) ∧ x = (.lit (.int .u8 (b.toNat : Int)), []) := by
  cases fuel with
  | zero => simp [DataW.trod] at h
  | succ m =>
    unfold DataW.trod at h
    rw [he] at h
    cases v <;> simp at h
    case int k n =>
      obtain ⟨⟨rfl, hw⟩, rfl⟩ := h
      have hb := bounds_u8 hw
      refine ⟨UInt8.ofNat n.toNat, ?_, ?_⟩
      · rw [UInt8.toNat_ofNat', Nat.mod_eq_of_lt (by omega)]
        congr 1
        omega
      · rw [UInt8.toNat_ofNat', Nat.mod_eq_of_lt (by omega)]
        congr 3
        omega
theorem mapM_all {α β : Type} {f : α → Option β} {g : α → β} : ∀ (l : List α), (∀ x ∈ l, f x = some (g x)) → l.mapM f = some (l.map g)
  | [], _ => rfl
  | x :: l, h => by
    rw [List.mapM_cons, h x (List.mem_cons_self ..), mapM_all l (fun y hy => h y (List.mem_cons_of_mem _ hy))]
    rfl
def litBytes (l : List UInt8) : DataW H := .agg (l.map fun b => .lit (.int .u8 (b.toNat : Int)))
theorem open_arr8 {t e : TypeId} {n : Nat} {v : Value} {d : DataW H} {ps : List MemPlace} (ht : P.underlying t = some (.array n e)) (he : P.underlying e = some (.int .u8)) (h1 : P.cellsOf e = 1) (hn : P.cellsOf t = n)
    {base2 : Nat} (hv : Value.okWide P w .any base2 t v) (h : DataW.Trod enc P w base spare held t v d ps) : ∃ l : List UInt8, l.length = n ∧ v = .agg (byteVals l).toArray ∧ d = litBytes l ∧ ps = [] := by
  unfold Value.okWide at hv
  rw [ht] at hv
  obtain ⟨cs, rfl, hsz, _⟩ := hv
  obtain ⟨fuel, hf⟩ := h
  obtain ⟨xs, m, _, hx, _, hlen, hel⟩ := DataW.trod_array ht hf
  have key : ∀ i, i < n → ∃ b : UInt8, cs[i]? = some (.int .u8 (b.toNat : Int)) ∧ xs[i]? = some (.lit (.int .u8 (b.toNat : Int)), []) := by
    intro i hi
    have h2 := hel i hi
    rw [h1, Nat.mul_one] at h2
    have hi2 : i < cs.size := by omega
    have e1 : ((Value.agg cs).cells.toList.drop i).take 1 = [cs[i]] := by
      show (cs.toList.drop i).take 1 = _
      rw [List.drop_eq_getElem_cons (by simpa using hi2)]
      simp
    rw [e1, List.getElem?_eq_getElem (by omega)] at h2
    obtain ⟨b, hb, hxb⟩ := trod_u8 he h2
    exact ⟨b, by rw [Array.getElem?_eq_getElem hi2, hb], by rw [List.getElem?_eq_getElem (by omega), hxb]⟩
  let l : List UInt8 := (List.range n).map fun i => if h : i < n then Classical.choose (key i h) else 0
  have hl : ∀ i (h : i < n), l[i]? = some (Classical.choose (key i h)) := fun i h => by simp [l, h]
  have hll : l.length = n := by simp [l]
  refine ⟨l, hll, ?_, ?_, ?_⟩
  · congr 1
    apply Array.ext_getElem?
    intro i
    by_cases hi : i < n
    · rw [(Classical.choose_spec (key i hi)).1]
      simp [byteVals, hl i hi]
    · rw [Array.getElem?_eq_none (by omega), Array.getElem?_eq_none (by simp [byteVals, hll]; omega)]
  · have hd : d = .agg (xs.map (·.1)) := congrArg Prod.fst hx
    rw [hd]
    unfold litBytes
    congr 1
    apply List.ext_getElem?
    intro i
    by_cases hi : i < n
    · rw [List.getElem?_map, (Classical.choose_spec (key i hi)).2, List.getElem?_map, hl i hi]
      rfl
    · rw [List.getElem?_eq_none (by simp; omega), List.getElem?_eq_none (by simp [hll]; omega)]
  · have hp : ps = xs.flatMap (·.2) := congrArg Prod.snd hx
    rw [hp, List.flatMap_eq_nil_iff]
    intro y hy
    obtain ⟨i, hi, rfl⟩ := List.getElem_of_mem hy
    obtain ⟨b, _, hb⟩ := key i (by omega)
    rw [List.getElem?_eq_getElem hi] at hb
    rw [Option.some.inj hb]
theorem shut_arr8 {t e : TypeId} {n : Nat} (ht : P.underlying t = some (.array n e)) (he : P.underlying e = some (.int .u8)) (h1 : P.cellsOf e = 1) (hn : P.cellsOf t = n) (l : List UInt8) (hl : l.length = n) :
    DataW.Trod enc P w base spare held t (.agg (byteVals l).toArray) (litBytes l) [] := by
  refine ⟨2, ?_⟩
  unfold DataW.trod
  rw [ht]
  have hc : (Value.agg (byteVals l).toArray).cells.toList = byteVals l := by show (byteVals l).toArray.toList = _; simp
  have hsome : ((List.range n).mapM fun i => DataW.trod enc P w base spare held 1 e (((byteVals l).drop (i * P.cellsOf e)).take (P.cellsOf e))) = some (l.map fun b => (DataW.lit (.int .u8 (b.toNat : Int)), [])) := by
    rw [h1]
    have : ∀ i ∈ List.range n, DataW.trod enc P w base spare held 1 e (((byteVals l).drop (i * 1)).take 1) = some ((fun i => ((DataW.lit (.int .u8 ((l.getD i 0).toNat : Int)), []) : DataW H × List MemPlace)) i) := by
      intro i hi
      have hi2 : i < l.length := by rw [hl]; simpa using hi
      have e1 : ((byteVals l).drop (i * 1)).take 1 = [.int .u8 ((l.getD i 0).toNat : Int)] := by
        rw [Nat.mul_one, List.drop_eq_getElem_cons (by simpa [byteVals] using hi2)]
        simp [byteVals, List.getD_eq_getElem?_getD, List.getElem?_eq_getElem hi2]
      rw [e1]
      show DataW.trod enc P w base spare held 1 e [.int .u8 ((l.getD i 0).toNat : Int)] = some (.lit (.int .u8 ((l.getD i 0).toNat : Int)), [])
      generalize l.getD i 0 = b
      have hw : (Lit.int .u8 (b.toNat : Int)).wf = true := by
        have := b.toNat_lt
        simp [Lit.wf, IntKind.min, IntKind.max, IntKind.signed, IntKind.bits]
        omega
      simp [DataW.trod, he, hw]
    rw [mapM_all _ this]
    congr 1
    apply List.ext_getElem?
    intro i
    by_cases hi : i < n
    · simp [hi, List.getD_eq_getElem?_getD, List.getElem?_eq_getElem (show i < l.length by omega)]
    · rw [List.getElem?_eq_none (by simp; omega), List.getElem?_eq_none (by simp; omega)]
  have hlen : (byteVals l).length = P.cellsOf t := by rw [hn]; simp [byteVals, hl]
  rw [hc]
  split <;> simp_all [litBytes]
end
end Go.Proofs.Ytfmclkmmkceldaa
