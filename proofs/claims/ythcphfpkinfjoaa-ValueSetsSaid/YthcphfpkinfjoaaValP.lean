/-
  Package value's search for a key: compare, place, Get, IntAt, TextAt.
  Conditions: none.
-/
import Derived.Test.YthcphfpkinfjoaaValB
import Derived.Test.YthcphfpkinfjoaaValN
namespace Go.Proofs.Ythcphfpkinfjoaa
open Go.RowKit

def cmpS (a b : ByteArray) : Int := if ltS a b then -1 else if ltS b a then 1 else 0
set_option maxHeartbeats 400000 in
theorem compare_any (a b : ByteArray) (w : World) : Calls Try.prog 62 #[.string a, .string b] w fun e w' => e = .returned (.int .i64 (cmpS a b)) ∧ w' = w := by
  generalize h1 : ltS a b = x
  generalize h2 : ltS b a = y
  have H1 := Lib.hid h1
  have H2 := Lib.hid h2
  have HC := Lib.hid (show cmpS a b = if x then -1 else if y then 1 else 0 by unfold cmpS; rw [h1, h2])
  clear h1 h2
  cases x with
  | true =>
    go_enter Try.func62, Try.ntmps62
    go_wp2_with (first | (go_at_call 63; refine (less_any _ _ true _ H1.out).mono ?_; rintro e w' ⟨rfl, rfl⟩))
    go_ret
    exact ⟨by rw [HC.out]; rfl, rfl⟩
  | false =>
    cases y with
    | true =>
      go_enter Try.func62, Try.ntmps62
      go_wp2_with fail
      refine (less_any _ _ false _ H1.out).mono ?_
      rintro e w' ⟨rfl, rfl⟩
      go_wp2_with fail
      refine (less_any _ _ true _ H2.out).mono ?_
      rintro e w' ⟨rfl, rfl⟩
      go_wp2
      go_ret
      exact ⟨by rw [HC.out]; rfl, rfl⟩
    | false =>
      go_enter Try.func62, Try.ntmps62
      go_wp2_with fail
      refine (less_any _ _ false _ H1.out).mono ?_
      rintro e w' ⟨rfl, rfl⟩
      go_wp2_with fail
      refine (less_any _ _ false _ H2.out).mono ?_
      rintro e w' ⟨rfl, rfl⟩
      go_wp2
      go_ret
      exact ⟨by rw [HC.out]; rfl, rfl⟩

theorem place1_any (key k2 : ByteArray) (c1 c2 c3 c4 c5 : Value) (w : World) : Calls Try.prog 65 #[.agg #[.string key, c1, c2, c3, c4, c5], .string k2] w fun e w' => e = .returned (.int .i64 (cmpS key k2)) ∧ Below w.heap.size w w' := by
  go_enter Try.func65, Try.ntmps65
  go_wp2_with fail
  refine (compare_any _ _ _).mono ?_
  rintro e w' ⟨rfl, rfl⟩
  go_wp2
  go_ret
  exact ⟨rfl, (Below.refl _ w).alloc (Nat.le_refl _) _⟩

theorem bl_trans : ∀ (a b c : List UInt8), Op.bytesLess a b = true → Op.bytesLess b c = true → Op.bytesLess a c = true
  | _, [], _ => by intro h; simp [Op.bytesLess] at h
  | _, _ :: _, [] => by intro _ h; simp [Op.bytesLess] at h
  | [], _ :: _, _ :: _ => by intro _ _; rfl
  | x :: a, y :: b, z :: c => by
    have ih := bl_trans a b c
    simp only [Op.bytesLess, Bool.or_eq_true, decide_eq_true_eq, Bool.and_eq_true, beq_iff_eq]
    rintro (h1 | ⟨rfl, h1⟩) (h2 | ⟨rfl, h2⟩)
    · exact .inl (UInt8.lt_trans h1 h2)
    · exact .inl h1
    · exact .inl h2
    · exact .inr ⟨rfl, ih h1 h2⟩
theorem bl_irrefl : ∀ (a : List UInt8), Op.bytesLess a a = false
  | [] => rfl
  | x :: a => by simp [Op.bytesLess, bl_irrefl a, UInt8.lt_irrefl]
theorem ltS_trans {a b c : ByteArray} (h1 : ltS a b = true) (h2 : ltS b c = true) : ltS a c = true := bl_trans _ _ _ h1 h2
theorem ltS_irrefl (a : ByteArray) : ltS a a = false := bl_irrefl _
theorem ltS_tri (a b : ByteArray) (h1 : ltS a b = false) (h2 : ltS b a = false) : a = b := by
  have := bl_total a.toList b.toList
  unfold ltS at h1 h2
  rw [h1, h2] at this
  exact (show ∀ {x y : ByteArray}, x.toList = y.toList → x = y from fun h => by rw [ByteArray.toList_eq, ByteArray.toList_eq] at h; exact Go.WideShapes.bytes_inj h) (by simpa using this)
/-- Keys that ascend. -/
def Asc (m : List (ByteArray × VT)) : Prop := ∀ i j (h : i < j) (h' : j < m.length), ltS m[i].1 m[j].1 = true
theorem KeysOK.asc {m : List (ByteArray × VT)} (h : KeysOK m) : Asc m := by
  intro i j hij
  induction j with
  | zero => omega
  | succ j ih =>
    intro h'
    have h1 := (h (j + 1) h').2 (by omega)
    simp only [Nat.add_sub_cancel] at h1
    by_cases e : i = j
    · subst e; exact h1
    · exact ltS_trans (ih (by omega) (by omega)) h1
theorem cmp_neg {a b : ByteArray} : cmpS a b < 0 ↔ ltS a b = true := by
  unfold cmpS
  cases ltS a b <;> cases ltS b a <;> simp
theorem cmp_zero {a b : ByteArray} : cmpS a b = 0 ↔ a = b := by
  constructor
  · intro h
    unfold cmpS at h
    cases h1 : ltS a b <;> cases h2 : ltS b a <;> simp [h1, h2] at h
    exact ltS_tri a b h1 h2
  · rintro rfl; unfold cmpS; rw [ltS_irrefl]; simp
set_option maxRecDepth 100000 in
set_option maxHeartbeats 1000000 in
theorem search_any {n₀ : Nat} {w0 : World} (m : List (ByteArray × VT)) (ao : Option Addr) (cap : Nat) (c : Nat → Nat → Value) (hr1 : RowAt n₀ w0 6 (.slice ao m.length cap) m.length c) (hK : ∀ i (h : i < m.length), c i 0 = .string m[i].1)
    (_hA : Asc m) (key : ByteArray) (w : World) (hw : Below n₀ w0 w) (hz : n₀ ≤ w.heap.size) (i : Nat) (f : Bool) (hi : i ≤ m.length) (h1 : ∀ j (h : j < m.length), j < i → ltS m[j].1 key = true) (h2 : ∀ j (h : j < m.length), i ≤ j → ltS m[j].1 key = false) (hf : f = true ↔ ∃ h : i < m.length, m[i].1 = key) :
    Calls Try.prog 64 #[.slice ao m.length cap, .string key, .func (.func 65) #[] #[]] w fun e w' => e = .returned (.tuple #[.int .i64 (i : Int), .bool f]) ∧ Below w.heap.size w w' := by
  have hll : m.length ≤ 1000000000000000 := by have := hr1.len; have := sMax_lt; omega
  have HR1 := Lib.hid hr1
  have HK := Lib.hid hK
  have HW := Lib.hid hw
  have HZ := Lib.hid hz
  have HI := Lib.hid (And.intro hi (And.intro h1 h2))
  have HF := Lib.hid hf
  clear hr1 hK hw hz hi h1 h2 hf _hA
  go_enter Try.func64, Try.ntmps64
  go_wp2_with fail
  go_loopw [9, 10] (fun iv jv wr => ∃ a b : Nat, a ≤ i ∧ i ≤ b ∧ b ≤ m.length ∧ iv = .int .i64 a ∧ jv = .int .i64 b ∧ Below w.heap.size w wr) (fun i j _ => (intOf j).toNat - (intOf i).toNat)
  case atStart => exact ⟨0, m.length, by omega, HI.out.1, by omega, rfl, rfl, Below.refl _ _⟩
  case round =>
    obtain ⟨a, b, ha, hb, hbm, rfl, rfl, hbr⟩ := hrel
    have HBR := Lib.hid hbr
    clear hbr
    by_cases hab : a < b
    · obtain ⟨h, hh⟩ : ∃ h : Nat, h = (a + b) / 2 := ⟨_, rfl⟩
      have hm : ((a : Int) + b) / 2 = (h : Int) := by omega
      have hah : a ≤ h := by omega
      have hhb : h < b := by omega
      have hhm : h < m.length := by omega
      have hhm' : (h : Int) < (m.length : Int) := by omega
      clear hh
      have HB0 := Lib.hid (show Below n₀ w0 wr from HW.out.trans (HBR.out.mono HZ.out))
      obtain ⟨bb, off, rfl, hbn, c0, c1, c2, c3, c4, c5⟩ := (HR1.out.below HB0.out).at6 hhm
      rw [HK.out h hhm] at c0
      have HLT := Lib.hid (@cmp_neg m[h].1 key)
      generalize hcp : cmpS m[h].1 key = cp at HLT
      have HCP := Lib.hid hcp
      clear hcp
      by_cases hlt : cp < 0
      · have HL := Lib.hid (show h < i by
          have h3 := HLT.out.1 hlt
          by_cases hx : h < i
          · exact hx
          · have := HI.out.2.2 h hhm (by omega); rw [h3] at this; cases this)
        go_wp2_with fail
        refine (place1_any _ _ _ _ _ _ _ _).mono ?_
        rintro e w' ⟨rfl, hb'⟩
        rw [HCP.out]
        go_wp2
        go_roundw
        case measure => simp [intOf]; omega
        case rel => exact ⟨h + 1, b, HL.out, hb, hbm, by go_num, rfl, HBR.out.trans (hb'.mono HBR.out.size)⟩
      · have HL := Lib.hid (show i ≤ h by
          by_cases hx : h < i
          · have := HLT.out.2 (HI.out.2.1 h hhm hx); omega
          · omega)
        go_wp2_with fail
        refine (place1_any _ _ _ _ _ _ _ _).mono ?_
        rintro e w' ⟨rfl, hb'⟩
        rw [HCP.out]
        go_wp2
        go_roundw
        case measure => simp [intOf]; omega
        case rel => exact ⟨a, h, ha, HL.out, by omega, rfl, by go_num, HBR.out.trans (hb'.mono HBR.out.size)⟩
    · obtain rfl : a = i := by omega
      by_cases hlen : a < m.length
      · have hlen' : (a : Int) < (m.length : Int) := by omega
        have HB0 := Lib.hid (show Below n₀ w0 wr from HW.out.trans (HBR.out.mono HZ.out))
        obtain ⟨bb, off, rfl, hbn, c0, c1, c2, c3, c4, c5⟩ := (HR1.out.below HB0.out).at6 hlen
        rw [HK.out a hlen] at c0
        have HFE := Lib.hid (show f = decide (cmpS m[a].1 key = 0) by
          rw [Bool.eq_iff_iff, HF.out, decide_eq_true_eq, cmp_zero]; exact ⟨fun h => h.2, fun h => ⟨hlen, h⟩⟩)
        generalize hcp : cmpS m[a].1 key = cp at HFE
        have HCP := Lib.hid hcp
        clear hcp
        go_wp2_with fail
        refine (place1_any _ _ _ _ _ _ _ _).mono ?_
        rintro e w' ⟨rfl, hb'⟩
        rw [HCP.out]
        go_wp2
        go_ret2
        exact ⟨by rw [HFE.out]; rfl, HBR.out.trans (hb'.mono HBR.out.size)⟩
      · have hrf : f = false := by
          rw [← Bool.not_eq_true, HF.out]
          rintro ⟨h, _⟩; omega
        subst hrf
        go_wp2
        go_ret2
        exact ⟨rfl, HBR.out⟩
end Go.Proofs.Ythcphfpkinfjoaa
