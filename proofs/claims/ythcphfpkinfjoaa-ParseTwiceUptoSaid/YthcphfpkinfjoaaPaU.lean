/-
  Strings that came in, of a bounded bulk; texts that are made of keys.
  Conditions: none.
-/
import Derived.Test.YthcphfpkinfjoaaPaT
import Derived.Test.YthcphfpkinfjoaaPaQ
import Derived.Test.YthcphfpkinfjoaaRefB
import Derived.SliceStrings
import Derived.ProofKit
import Derived.OpenShut
import Derived.ShutString
namespace Go.Proofs.Ythcphfpkinfjoaa
open Go.ChangeShapes Go.WideShapes Go.ChangeAt Go.RowKit

/-- A slice of the strings ks. -/
def Sts (w : World) (v : Value) (ks : List ByteArray) : Prop :=
  ∃ ao cap, v = .slice ao ks.length cap ∧ (ks = [] ∨ ∃ g off, ao = some ⟨g, off, none⟩ ∧ g < w.heap.size ∧ ∀ i (h : i < ks.length), w.cell? ⟨g, off + i, none⟩ = some (.string ks[i]))
theorem str_cells : Try.prog.cellsOf 9 = 1 := by kernel_rfl
theorem bulk_mem {H : Type} {d : DataW H} {l : List (DataW H)} (h : d ∈ l) : Rows.uptoBulk d ≤ Rows.uptoBulkAll l := by
  induction l with
  | nil => cases h
  | cons x r ih =>
    simp only [Rows.uptoBulkAll]
    cases List.mem_cons.1 h with
    | inl e => subst e; omega
    | inr e => have := ih e; omega
set_option maxRecDepth 100000 in
theorem open_sts {H : Type} {enc : TypeId × Value → H} {W : World} {base : Nat} {v1 : Value} {d1 : DataW H} {p1 : List MemPlace} (hval : Value.okWide Try.prog W .any base 56 v1) (h1 : DataW.Trod enc Try.prog W 0 (fun _ => true) true 56 v1 d1 p1) (hb : Rows.uptoBulk d1 ≤ 1048576) :
    ∃ ks : List ByteArray, Sts W v1 ks ∧ ∀ k ∈ ks, k.size ≤ 1048576 := by
  generalize (1048576 : Nat) = Z at hb ⊢
  obtain ⟨a1, len, cap, rfl⟩ := okWide_slice Try.underlying56 hval
  obtain ⟨fuel, hf⟩ := h1
  rcases open_strings Try.underlying56 Try.underlying9 str_cells hf with ⟨hcs, hx⟩ | ⟨a, len', cap', ss, hcs, _, hl, hm, hz, hx, hcell, hwz⟩
  · simp [Value.cells] at hcs
    obtain ⟨rfl, rfl, rfl⟩ := hcs
    exact ⟨[], ⟨none, 0, rfl, .inl rfl⟩, fun k hk => by cases hk⟩
  · simp [Value.cells] at hcs
    obtain ⟨rfl, rfl, rfl⟩ := hcs
    simp only [if_true] at hz
    simp only [Prod.mk.injEq] at hx
    obtain ⟨rfl, rfl⟩ := hx
    have hlen : (ss.take len).length = len := by rw [List.length_take]; omega
    refine ⟨ss.take len, ⟨some a, cap, by rw [hlen], ?_⟩, fun k hk => ?_⟩
    · by_cases h0 : len = 0
      · left
        exact List.eq_nil_of_length_eq_zero (by rw [hlen]; exact h0)
      right
      obtain ⟨ab, ao, spot⟩ := a
      have hc0 := hcell 0 (by omega)
      have hspot : spot = none := by simpa [Addr.add] using World.cell?_spot hc0
      subst hspot
      refine ⟨ab, ao, rfl, ?_, fun j hj => ?_⟩
      · rw [Addr.add_lit] at hc0
        simp only [World.cell?] at hc0
        apply Decidable.byContradiction
        intro hn
        rw [Array.getElem?_eq_none (by omega)] at hc0
        simp at hc0
      · rw [hlen] at hj
        have hcj := hcell j (by omega)
        rw [Addr.add_lit] at hcj
        rw [hcj, List.getElem_take, List.getD_eq_getElem?_getD, List.getElem?_eq_getElem (by omega)]
        rfl
    · have hmem : DataW.lit (H := H) (.string k.data.toList) ∈ strs (ss.take len) := List.mem_map.2 ⟨k, hk, rfl⟩
      have h2 := bulk_mem hmem
      simp only [Rows.uptoBulk] at hb h2
      have : k.size = k.data.toList.length := by simp
      omega
theorem ba_list (a b : ByteArray) : (a ++ b).data.toList = a.data.toList ++ b.data.toList := by rw [ByteArray.data_append, Array.toList_append]
def lL (ks : List ByteArray) : List (List UInt8) := ks.map fun k => k.data.toList
/-- Keys that may stand: well formed, short, each once. -/
def OKs (ks : List ByteArray) : Prop := (∀ k ∈ ks, (uRunes k.data.toList).isSome = true ∧ k.size ≤ 30) ∧ ks.Nodup
theorem lL_ba (ks : List ByteArray) : (lL ks).map baOf = ks := by
  unfold lL
  rw [List.map_map]
  conv => rhs; rw [← List.map_id ks]
  apply List.map_congr_left
  intro a _
  rfl
theorem OKs.good {ks : List ByteArray} (h : OKs ks) : ∀ k ∈ lL ks, (uRunes k).isSome = true := by
  intro k hk
  obtain ⟨x, hx, rfl⟩ := List.mem_map.1 hk
  exact (h.1 x hx).1
theorem OKs.nodup {ks : List ByteArray} (h : OKs ks) : ((lL ks).map baOf).Nodup := by rw [lL_ba]; exact h.2
def txS (ks : List ByteArray) : ByteArray := ⟨(123 :: rowS (lL ks)).toArray⟩
def txT (ks : List ByteArray) : ByteArray := ⟨(91 :: rowT (lL ks)).toArray⟩
theorem flat_len : ∀ (l : List UInt8), (l.flatMap uEnc).length ≤ 6 * l.length
  | [] => Nat.le_refl _
  | c :: t => by
    have := flat_len t
    have := (uEnc_len c).2
    simp only [List.flatMap_cons, List.length_append, List.length_cons]
    omega
theorem uQuote_len (l : List UInt8) : (uQuote l).length ≤ 6 * l.length + 2 := by
  have := flat_len l
  simp only [uQuote, List.length_append, List.length_cons, List.length_nil]
  omega
theorem OKs.rowS {ks : List ByteArray} (h : ∀ k ∈ ks, k.size ≤ 30) : (rowS (lL ks)).length ≤ 185 * ks.length ∧ (rowT (lL ks)).length ≤ 372 * ks.length := by
  induction ks with
  | nil => exact ⟨Nat.le_refl _, Nat.le_refl _⟩
  | cons k ks ih =>
    have h1 := ih fun x hx => h x (List.mem_cons_of_mem _ hx)
    have h2 := uQuote_len k.data.toList
    have h3 := h k List.mem_cons_self
    have h4 : k.data.toList.length = k.size := by simp
    simp only [lL, List.map_cons, Go.Proofs.Ythcphfpkinfjoaa.rowS, rowT, List.flatMap_cons, List.length_append, List.length_cons, List.length_nil] at h1 ⊢
    omega
theorem tx_size {ks : List ByteArray} (h : OKs ks) (hn : ks.length ≤ 20) : (txS ks).size ≤ 3701 ∧ (txT ks).size ≤ 7441 := by
  have h1 := OKs.rowS fun k hk => (h.1 k hk).2
  have e1 : (txS ks).size = (123 :: rowS (lL ks)).length := List.size_toArray
  have e2 : (txT ks).size = (91 :: rowT (lL ks)).length := List.size_toArray
  rw [e1, e2]
  simp only [List.length_cons]
  omega
theorem txS_snoc (ks : List ByteArray) (k : ByteArray) : txS ks ++ ⟨(uQuote k.data.toList).toArray⟩ ++ ⟨#[58, 48, 44]⟩ = txS (ks ++ [k]) := by
  apply Go.WideShapes.bytes_inj
  rw [ba_list, ba_list]
  show 123 :: rowS (lL ks) ++ uQuote k.data.toList ++ [58, 48, 44] = 123 :: rowS (lL (ks ++ [k]))
  simp [lL, rowS]
theorem txT_snoc (ks : List ByteArray) (k : ByteArray) : txT ks ++ ⟨#[123]⟩ ++ ⟨(uQuote k.data.toList).toArray⟩ ++ ⟨#[58, 123]⟩ ++ ⟨(uQuote k.data.toList).toArray⟩ ++ ⟨#[58, 49, 125, 125, 44]⟩ = txT (ks ++ [k]) := by
  apply Go.WideShapes.bytes_inj
  rw [ba_list, ba_list, ba_list, ba_list, ba_list]
  show 91 :: rowT (lL ks) ++ [123] ++ uQuote k.data.toList ++ [58, 123] ++ uQuote k.data.toList ++ [58, 49, 125, 125, 44] = 91 :: rowT (lL (ks ++ [k]))
  simp [lL, rowT]
/-- The code that comes with what is read. -/
def codeOf : Except Nat VT → Int
  | .ok _ => 0
  | .error c => (c : Int)
theorem parse_form (s : ByteArray) (most : Int) (w : World) (hs : 4 * s.size + 8 ≤ 1000000) :
    Calls Try.prog 26 #[.string s, .int .i64 most] w fun e w' => Below w.heap.size w w' ∧ ∃ (k n : Int) (x : ByteArray) (a1 : Option Addr) (l1 p1 : Nat) (a2 : Option Addr) (l2 p2 : Nat), e = .returned (.tuple #[.agg #[.int .i64 k, .int .i64 n, .string x, .slice a1 l1 p1, .slice a2 l2 p2], .int .i64 (codeOf (pParse s.data.toList most))]) := by
  refine (parse_any s most w hs).mono ?_
  rintro e w' ⟨h1, h2⟩
  refine ⟨h1, ?_⟩
  cases h : pParse s.data.toList most with
  | error c =>
    rw [h] at h2
    exact ⟨_, _, _, _, _, _, _, _, _, h2.1⟩
  | ok t =>
    rw [h] at h2
    obtain ⟨y, rfl, hy⟩ := h2
    obtain ⟨k, n, s, l, m⟩ := t
    obtain ⟨al, cl, am, cp, cx, rfl, -⟩ := hy.mems
    exact ⟨_, _, _, _, _, _, _, _, _, rfl⟩
theorem parse_code (s : ByteArray) (most : Int) (w : World) (c : Int) (hs : 4 * s.size + 8 ≤ 1000000) (hc : codeOf (pParse s.data.toList most) = c) :
    Calls Try.prog 26 #[.string s, .int .i64 most] w fun e w' => Below w.heap.size w w' ∧ ∃ (k n : Int) (x : ByteArray) (a1 : Option Addr) (l1 p1 : Nat) (a2 : Option Addr) (l2 p2 : Nat), e = .returned (.tuple #[.agg #[.int .i64 k, .int .i64 n, .string x, .slice a1 l1 p1, .slice a2 l2 p2], .int .i64 c]) := by
  subst hc; exact parse_form s most w hs
def nkB : ByteArray := ⟨#[110, 111, 98, 111, 100, 121, 39, 115, 32, 107, 101, 121]⟩
/-- The four texts. -/
theorem tw_e {ks : List ByteArray} (h : OKs ks) (hn : ks.length ≤ 20) {Q : ByteArray} {k : ByteArray} (hk : k ∈ ks) (h34 : ∃ t, Q.data.toList = 34 :: t) (hq : ∀ r, uUnq (Q.data.toList ++ r) = some (k.data.toList, Q.data.toList.length)) (hQ : Q.size ≤ 200) :
    codeOf (pParse (txS ks ++ Q ++ ⟨#[58, 48, 125]⟩).data.toList 10000) = 4 ∧ codeOf (pParse (txS ks ++ Q).data.toList 10000) = 4 := by
  have hs := (tx_size h hn).1
  have e1 : (txS ks).data.toList = 123 :: rowS (lL ks) := rfl
  have e0 : (txS ks).size = (txS ks).data.toList.length := by simp
  have e2 : Q.size = Q.data.toList.length := by simp
  have hm : k.data.toList ∈ lL ks := List.mem_map.2 ⟨k, hk, rfl⟩
  rw [e0, e1] at hs
  rw [e2] at hQ
  constructor
  · rw [ba_list, ba_list, e1, List.append_assoc, List.cons_append]
    rw [twice_no (lL ks) _ h.good h.nodup h34 hq hm]
    · rfl
    · simp only [List.length_cons, List.length_append, List.length_nil] at hs ⊢
      have : (⟨#[58, 48, 125]⟩ : ByteArray).data.toList.length = 3 := rfl
      omega
  · rw [ba_list, e1, List.cons_append]
    have := twice_no (lL ks) [] h.good h.nodup h34 hq hm (by
      simp only [List.length_cons, List.length_append, List.length_nil] at hs ⊢
      omega)
    rw [List.append_nil] at this
    rw [this]; rfl
theorem tw_g {ks : List ByteArray} (h : OKs ks) (hn : ks.length ≤ 20) (hk : nkB ∉ ks) : codeOf (pParse (txS ks ++ ⟨#[34, 110, 111, 98, 111, 100, 121, 39, 115, 32, 107, 101, 121, 34, 58, 48, 125]⟩).data.toList 10000) = 0 := by
  have hs := (tx_size h hn).1
  have e1 : (txS ks).data.toList = 123 :: rowS (lL ks) := rfl
  have e0 : (txS ks).size = (txS ks).data.toList.length := by simp
  rw [e0, e1] at hs
  have hg : (uRunes nkB.data.toList).isSome = true := by decide +kernel
  have hno : nkB.data.toList ∉ lL ks := by
    intro hm
    obtain ⟨x, hx, e⟩ := List.mem_map.1 hm
    have : x = nkB := Go.WideShapes.bytes_inj e
    exact hk (this ▸ hx)
  have e3 : (⟨#[34, 110, 111, 98, 111, 100, 121, 39, 115, 32, 107, 101, 121, 34, 58, 48, 125]⟩ : ByteArray).data.toList = uQuote nkB.data.toList ++ [58, 48, 125] := by decide +kernel
  obtain ⟨t, ht⟩ := twice_yes (lL ks) h.good h.nodup hg hno (by
    have : (uQuote nkB.data.toList).length = 14 := by decide +kernel
    simp only [List.length_cons, List.length_append, List.length_nil] at hs ⊢
    omega)
  rw [ba_list, e1, e3, List.cons_append, ht]
  rfl
theorem tw_h {ks : List ByteArray} (h : OKs ks) (hn : ks.length ≤ 20) (h0 : ks ≠ []) : codeOf (pParse (txT ks ++ ⟨#[48, 93]⟩).data.toList 10000) = 0 := by
  have hs := (tx_size h hn).2
  have e1 : (txT ks).data.toList = 91 :: rowT (lL ks) := rfl
  have e0 : (txT ks).size = (txT ks).data.toList.length := by simp
  rw [e0, e1] at hs
  obtain ⟨t, ht⟩ := rowT_ok (lL ks) h.good (by unfold lL; simpa using h0) (by
    simp only [List.length_cons, List.length_append, List.length_nil] at hs ⊢
    omega)
  rw [ba_list, e1, List.cons_append, show (⟨#[48, 93]⟩ : ByteArray).data.toList = [48, 93] from rfl, ht]
  rfl
end Go.Proofs.Ythcphfpkinfjoaa
