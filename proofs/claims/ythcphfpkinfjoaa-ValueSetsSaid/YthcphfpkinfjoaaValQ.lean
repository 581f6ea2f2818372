/-
  Package value's Same: whether two values are equal in all parts.
  Conditions: none.
-/
import Derived.Test.YthcphfpkinfjoaaValS
namespace Go.Proofs.Ythcphfpkinfjoaa
open Go.RowKit

set_option maxRecDepth 100000 in
set_option maxHeartbeats 1000000 in
theorem eqfL_any {n₀ : Nat} {w0 : World} (l l' : List VT) (ao ao' : Option Addr) (cap cap' : Nat) (c c' : Nat → Nat → Value) (hr1 : RowAt n₀ w0 5 (.slice ao l.length cap) l.length c) (hr2 : RowAt n₀ w0 5 (.slice ao' l'.length cap') l'.length c')
    (hf1 : ∀ i, i < l.length → Form5 (c i) 0) (hf2 : ∀ i, i < l'.length → Form5 (c' i) 0)
    (ih : ∀ i (h : i < l.length) (h' : i < l'.length) (w : World), Below n₀ w0 w → n₀ ≤ w.heap.size → ∀ r : Bool, (r = true ↔ l[i] = l'[i]) → Calls Try.prog 19 #[.agg #[c i 0, c i 1, c i 2, c i 3, c i 4], .agg #[c' i 0, c' i 1, c' i 2, c' i 3, c' i 4]] w fun e w' => e = .returned (.bool r) ∧ Below w.heap.size w w')
    (w : World) (hw : Below n₀ w0 w) (hz : n₀ ≤ w.heap.size) (r : Bool) (hr : r = true ↔ l = l') :
    Calls Try.prog 43 #[.slice ao l.length cap, .slice ao' l'.length cap', .func (.func 19) #[] #[]] w fun e w' => e = .returned (.bool r) ∧ Below w.heap.size w w' := by
  have hll : l.length ≤ 1000000000000000 := by have := hr1.len; have := sMax_lt; omega
  have IH := Lib.hid ih
  have HR := Lib.hid hr
  have HR1 := Lib.hid hr1
  have HR2 := Lib.hid hr2
  have HF1 := Lib.hid hf1
  have HF2 := Lib.hid hf2
  have HW := Lib.hid hw
  have HZ := Lib.hid hz
  clear ih hr hr1 hr2 hf1 hf2 hw hz
  by_cases hlen : l.length = l'.length
  · have HE := Lib.hid hlen
    have hne : (((l.length : Int) != (l'.length : Int)) = false) := by simp; omega
    clear hlen
    go_enter Try.func43, Try.ntmps43
    go_wp2_with fail
    clear hne
    go_loopw [17] (fun iv wr => ∃ j : Nat, j ≤ l.length ∧ iv = .int .i64 j ∧ Below w.heap.size w wr ∧ (∀ i : Nat, i < j → l[i]? = l'[i]?)) (fun i _ => l.length - (intOf i).toNat)
    case atStart => exact ⟨0, by omega, rfl, Below.refl _ _, fun _ h => absurd h (Nat.not_lt_zero _)⟩
    case round =>
      obtain ⟨j, hj, rfl, hbr, hal⟩ := hrel
      have HBR := Lib.hid hbr
      have HAL := Lib.hid hal
      clear hbr hal
      by_cases hj1 : j < l.length
      · have hj2 : j < l'.length := by have := HE.out; omega
        have HB0 := Lib.hid (show Below n₀ w0 wr from HW.out.trans (HBR.out.mono HZ.out))
        obtain ⟨b, off, rfl, hbn, c0, c1, c2, c3, c4⟩ := (HR1.out.below HB0.out).at5 hj1
        obtain ⟨b', off', rfl, hbn', d0, d1, d2, d3, d4⟩ := (HR2.out.below HB0.out).at5 hj2
        have hbz : b < wr.heap.size := by have := HZ.out; have := HBR.out.size; omega
        have hbz' : b' < wr.heap.size := by have := HZ.out; have := HBR.out.size; omega
        have IHJ := Lib.hid (IH.out j hj1 hj2)
        obtain ⟨ek, en, es, ea, el, ep, eb, em, eq, e0, e1, e2, e3, e4⟩ := HF1.out j hj1
        simp only [Nat.zero_add] at e0 e1 e2 e3 e4
        rw [e0] at c0
        rw [e1] at c1
        rw [e2] at c2
        rw [e3] at c3
        rw [e4] at c4
        obtain ⟨fk, fn, fs, fa, fl, fp, fb, fm, fq, f0, f1, f2, f3, f4⟩ := HF2.out j hj2
        simp only [Nat.zero_add] at f0 f1 f2 f3 f4
        rw [f0] at d0
        rw [f1] at d1
        rw [f2] at d2
        rw [f3] at d3
        rw [f4] at d4
        have HEE := Lib.hid (show (∀ w : World, Below n₀ w0 w → n₀ ≤ w.heap.size → ∀ r : Bool, (r = true ↔ l[j] = l'[j]) → Calls Try.prog 19 #[.agg #[.int .i64 ek, .int .i64 en, .string es, .slice ea el ep, .slice eb em eq], .agg #[.int .i64 fk, .int .i64 fn, .string fs, .slice fa fl fp, .slice fb fm fq]] w fun e w' => e = .returned (.bool r) ∧ Below w.heap.size w w') by rw [← e0, ← e1, ← e2, ← e3, ← e4, ← f0, ← f1, ← f2, ← f3, ← f4]; exact IHJ.out)
        clear IHJ e0 e1 e2 e3 e4 f0 f1 f2 f3 f4
        by_cases hx : l[j] = l'[j]
        · have HX := Lib.hid hx
          clear hx
          go_wp2_with fail
          refine (HEE.out _ (HB0.out.trans ((((Below.refl _ wr).alloc (Nat.le_refl _) _).alloc (by simp) _).mono (by have := HZ.out; have := HBR.out.size; omega))) (by have := HZ.out; have := HBR.out.size; simp; omega) true (by simp [HX.out])).mono ?_
          rintro e w' ⟨rfl, hb0⟩
          have hb' : Below wr.heap.size wr w' := (((Below.refl _ wr).alloc (Nat.le_refl _) _).alloc (by simp) _).trans (hb0.mono (by simp; omega))
          clear hb0
          go_wp2
          go_roundw
          case measure => simp [intOf]; omega
          case rel =>
            refine ⟨j + 1, by omega, by go_num, HBR.out.trans (hb'.mono HBR.out.size), fun i hij => ?_⟩
            by_cases hlt : i < j
            · exact HAL.out i hlt
            · obtain rfl : i = j := by omega
              rw [List.getElem?_eq_getElem hj1, List.getElem?_eq_getElem hj2, HX.out]
        · have HX := Lib.hid hx
          clear hx
          go_wp2_with fail
          refine (HEE.out _ (HB0.out.trans ((((Below.refl _ wr).alloc (Nat.le_refl _) _).alloc (by simp) _).mono (by have := HZ.out; have := HBR.out.size; omega))) (by have := HZ.out; have := HBR.out.size; simp; omega) false (by simp [HX.out])).mono ?_
          rintro e w' ⟨rfl, hb0⟩
          have hb' : Below wr.heap.size wr w' := (((Below.refl _ wr).alloc (Nat.le_refl _) _).alloc (by simp) _).trans (hb0.mono (by simp; omega))
          clear hb0
          go_wp2
          go_ret
          exact ⟨ret_b (Eq.symm (by rw [← Bool.not_eq_true, HR.out]; intro hh; exact HX.out (by simp only [hh]))), HBR.out.trans (hb'.mono HBR.out.size)⟩
      · have hrt : r = true := HR.out.2 (List.ext_getElem? fun i => by
          by_cases hi : i < j
          · exact HAL.out i hi
          · rw [List.getElem?_eq_none (by omega), List.getElem?_eq_none (by have := HE.out; omega)])
        subst hrt
        go_wp2
        go_ret
        exact ⟨rfl, HBR.out⟩
  · have hrf : r = false := by
      rw [← Bool.not_eq_true, HR.out]
      intro hh; rw [hh] at hlen; exact hlen rfl
    subst hrf
    have hne : (((l.length : Int) != (l'.length : Int)) = true) := by simp; omega
    go_enter Try.func43, Try.ntmps43
    go_wp2
    go_ret
    exact ⟨rfl, Below.refl _ _⟩

set_option maxRecDepth 100000 in
set_option maxHeartbeats 1000000 in
theorem eqfM_any {n₀ : Nat} {w0 : World} (m m' : List (ByteArray × VT)) (ao ao' : Option Addr) (cap cap' : Nat) (c c' : Nat → Nat → Value) (hr1 : RowAt n₀ w0 6 (.slice ao m.length cap) m.length c) (hr2 : RowAt n₀ w0 6 (.slice ao' m'.length cap') m'.length c')
    (hf1 : ∀ i, i < m.length → Form5 (c i) 1 ∧ ∃ key, c i 0 = .string key) (hf2 : ∀ i, i < m'.length → Form5 (c' i) 1 ∧ ∃ key, c' i 0 = .string key)
    (ih : ∀ i (h : i < m.length) (h' : i < m'.length) (w : World), Below n₀ w0 w → n₀ ≤ w.heap.size → ∀ r : Bool, (r = true ↔ m[i] = m'[i]) → Calls Try.prog 45 #[.agg #[c i 0, c i 1, c i 2, c i 3, c i 4, c i 5], .agg #[c' i 0, c' i 1, c' i 2, c' i 3, c' i 4, c' i 5]] w fun e w' => e = .returned (.bool r) ∧ Below w.heap.size w w')
    (w : World) (hw : Below n₀ w0 w) (hz : n₀ ≤ w.heap.size) (r : Bool) (hr : r = true ↔ m = m') :
    Calls Try.prog 44 #[.slice ao m.length cap, .slice ao' m'.length cap', .func (.func 45) #[] #[]] w fun e w' => e = .returned (.bool r) ∧ Below w.heap.size w w' := by
  have hll : m.length ≤ 1000000000000000 := by have := hr1.len; have := sMax_lt; omega
  have IH := Lib.hid ih
  have HR := Lib.hid hr
  have HR1 := Lib.hid hr1
  have HR2 := Lib.hid hr2
  have HF1 := Lib.hid hf1
  have HF2 := Lib.hid hf2
  have HW := Lib.hid hw
  have HZ := Lib.hid hz
  clear ih hr hr1 hr2 hf1 hf2 hw hz
  by_cases hlen : m.length = m'.length
  · have HE := Lib.hid hlen
    have hne : (((m.length : Int) != (m'.length : Int)) = false) := by simp; omega
    clear hlen
    go_enter Try.func44, Try.ntmps44
    go_wp2_with fail
    clear hne
    go_loopw [17] (fun iv wr => ∃ j : Nat, j ≤ m.length ∧ iv = .int .i64 j ∧ Below w.heap.size w wr ∧ (∀ i : Nat, i < j → m[i]? = m'[i]?)) (fun i _ => m.length - (intOf i).toNat)
    case atStart => exact ⟨0, by omega, rfl, Below.refl _ _, fun _ h => absurd h (Nat.not_lt_zero _)⟩
    case round =>
      obtain ⟨j, hj, rfl, hbr, hal⟩ := hrel
      have HBR := Lib.hid hbr
      have HAL := Lib.hid hal
      clear hbr hal
      by_cases hj1 : j < m.length
      · have hj2 : j < m'.length := by have := HE.out; omega
        have HB0 := Lib.hid (show Below n₀ w0 wr from HW.out.trans (HBR.out.mono HZ.out))
        obtain ⟨b, off, rfl, hbn, c0, c1, c2, c3, c4, c5⟩ := (HR1.out.below HB0.out).at6 hj1
        obtain ⟨b', off', rfl, hbn', d0, d1, d2, d3, d4, d5⟩ := (HR2.out.below HB0.out).at6 hj2
        have hbz : b < wr.heap.size := by have := HZ.out; have := HBR.out.size; omega
        have hbz' : b' < wr.heap.size := by have := HZ.out; have := HBR.out.size; omega
        have IHJ := Lib.hid (IH.out j hj1 hj2)
        obtain ⟨⟨ek, en, es, ea, el, ep, eb, em, eq, e1, e2, e3, e4, e5⟩, ey, e0⟩ := HF1.out j hj1
        simp only [Nat.reduceAdd] at e1 e2 e3 e4 e5
        rw [e0] at c0
        rw [e1] at c1
        rw [e2] at c2
        rw [e3] at c3
        rw [e4] at c4
        rw [e5] at c5
        obtain ⟨⟨fk, fn, fs, fa, fl, fp, fb, fm, fq, f1, f2, f3, f4, f5⟩, fy, f0⟩ := HF2.out j hj2
        simp only [Nat.reduceAdd] at f1 f2 f3 f4 f5
        rw [f0] at d0
        rw [f1] at d1
        rw [f2] at d2
        rw [f3] at d3
        rw [f4] at d4
        rw [f5] at d5
        have HEE := Lib.hid (show (∀ w : World, Below n₀ w0 w → n₀ ≤ w.heap.size → ∀ r : Bool, (r = true ↔ m[j] = m'[j]) → Calls Try.prog 45 #[.agg #[.string ey, .int .i64 ek, .int .i64 en, .string es, .slice ea el ep, .slice eb em eq], .agg #[.string fy, .int .i64 fk, .int .i64 fn, .string fs, .slice fa fl fp, .slice fb fm fq]] w fun e w' => e = .returned (.bool r) ∧ Below w.heap.size w w') by rw [← e0, ← e1, ← e2, ← e3, ← e4, ← e5, ← f0, ← f1, ← f2, ← f3, ← f4, ← f5]; exact IHJ.out)
        clear IHJ e0 e1 e2 e3 e4 e5 f0 f1 f2 f3 f4 f5
        by_cases hx : m[j] = m'[j]
        · have HX := Lib.hid hx
          clear hx
          go_wp2_with fail
          refine (HEE.out _ (HB0.out.trans ((((Below.refl _ wr).alloc (Nat.le_refl _) _).alloc (by simp) _).mono (by have := HZ.out; have := HBR.out.size; omega))) (by have := HZ.out; have := HBR.out.size; simp; omega) true (by simp [HX.out])).mono ?_
          rintro e w' ⟨rfl, hb0⟩
          have hb' : Below wr.heap.size wr w' := (((Below.refl _ wr).alloc (Nat.le_refl _) _).alloc (by simp) _).trans (hb0.mono (by simp; omega))
          clear hb0
          go_wp2
          go_roundw
          case measure => simp [intOf]; omega
          case rel =>
            refine ⟨j + 1, by omega, by go_num, HBR.out.trans (hb'.mono HBR.out.size), fun i hij => ?_⟩
            by_cases hlt : i < j
            · exact HAL.out i hlt
            · obtain rfl : i = j := by omega
              rw [List.getElem?_eq_getElem hj1, List.getElem?_eq_getElem hj2, HX.out]
        · have HX := Lib.hid hx
          clear hx
          go_wp2_with fail
          refine (HEE.out _ (HB0.out.trans ((((Below.refl _ wr).alloc (Nat.le_refl _) _).alloc (by simp) _).mono (by have := HZ.out; have := HBR.out.size; omega))) (by have := HZ.out; have := HBR.out.size; simp; omega) false (by simp [HX.out])).mono ?_
          rintro e w' ⟨rfl, hb0⟩
          have hb' : Below wr.heap.size wr w' := (((Below.refl _ wr).alloc (Nat.le_refl _) _).alloc (by simp) _).trans (hb0.mono (by simp; omega))
          clear hb0
          go_wp2
          go_ret
          exact ⟨ret_b (Eq.symm (by rw [← Bool.not_eq_true, HR.out]; intro hh; exact HX.out (by simp only [hh]))), HBR.out.trans (hb'.mono HBR.out.size)⟩
      · have hrt : r = true := HR.out.2 (List.ext_getElem? fun i => by
          by_cases hi : i < j
          · exact HAL.out i hi
          · rw [List.getElem?_eq_none (by omega), List.getElem?_eq_none (by have := HE.out; omega)])
        subst hrt
        go_wp2
        go_ret
        exact ⟨rfl, HBR.out⟩
  · have hrf : r = false := by
      rw [← Bool.not_eq_true, HR.out]
      intro hh; rw [hh] at hlen; exact hlen rfl
    subst hrf
    have hne : (((m.length : Int) != (m'.length : Int)) = true) := by simp; omega
    go_enter Try.func44, Try.ntmps44
    go_wp2
    go_ret
    exact ⟨rfl, Below.refl _ _⟩


set_option maxRecDepth 100000 in
set_option maxHeartbeats 1000000 in
theorem smem_any (key key' : ByteArray) (c1 c2 c3 c4 c5 d1 d2 d3 d4 d5 : Value) (p : Prop) (w : World)
    (ih : ∀ (w' : World), Below w.heap.size w w' → ∀ r : Bool, (r = true ↔ p) → Calls Try.prog 19 #[.agg #[c1, c2, c3, c4, c5], .agg #[d1, d2, d3, d4, d5]] w' fun e w'' => e = .returned (.bool r) ∧ Below w'.heap.size w' w'')
    (r : Bool) (hr : r = true ↔ key = key' ∧ p) :
    Calls Try.prog 45 #[.agg #[.string key, c1, c2, c3, c4, c5], .agg #[.string key', d1, d2, d3, d4, d5]] w fun e w' => e = .returned (.bool r) ∧ Below w.heap.size w w' := by
  have IH := Lib.hid ih
  have HR := Lib.hid hr
  clear ih hr
  by_cases hk : key.toList = key'.toList
  · have HK := Lib.hid (bytes_eq.1 hk)
    go_enter Try.func45, Try.ntmps45
    go_wp2_with fail
    refine (IH.out _ (((Below.refl _ w).alloc (Nat.le_refl _) _).alloc (by simp) _) r (by rw [HR.out]; simp [HK.out])).mono ?_
    rintro e w' ⟨rfl, hb0⟩
    have hb' : Below w.heap.size w w' := (((Below.refl _ w).alloc (Nat.le_refl _) _).alloc (by simp) _).trans (hb0.mono (by simp; omega))
    clear hb0
    go_wp2
    go_ret
    exact ⟨rfl, hb'⟩
  · have hrf : r = false := by
      rw [← Bool.not_eq_true, HR.out]
      rintro ⟨h1, _⟩; exact hk (by rw [h1])
    subst hrf
    have hkb : (key.toList == key'.toList) = false := by simpa using hk
    go_enter Try.func45, Try.ntmps45
    go_wp2
    go_ret
    exact ⟨rfl, ((Below.refl _ w).alloc (Nat.le_refl _) _).alloc (by simp) _⟩

set_option maxRecDepth 100000 in
set_option maxHeartbeats 2000000 in
theorem same_any {n₀ : Nat} {w0 : World} {t : VT} {v : Value} (h : VAt n₀ w0 t v) : ∀ {u : VT} {v' : Value} (_ : VAt n₀ w0 u v') (w : World) (_ : Below n₀ w0 w) (_ : n₀ ≤ w.heap.size) (r : Bool) (_ : r = true ↔ t = u),
    Calls Try.prog 19 #[v, v'] w fun e w' => e = .returned (.bool r) ∧ Below w.heap.size w w' := by
  induction h with
  | @mk k n s l m sl sm cl cm hk hn hs hl hm hL hK hM ihL ihM =>
    intro u v' h' w hw hz r hr
    cases h' with
    | @mk k' n' s' l' m' sl' sm' cl' cm' hk' hn' hs' hl' hm' hL' hK' hM' =>
    obtain ⟨aol, capl, rfl, -⟩ := hl.form
    obtain ⟨aom, capm, rfl, -⟩ := hm.form
    obtain ⟨aol', capl', rfl, -⟩ := hl'.form
    obtain ⟨aom', capm', rfl, -⟩ := hm'.form
    have HEL := Lib.hid (fun (w : World) hw hz r hr => eqfL_any l l' aol aol' capl capl' cl cl' hl hl' (fun i hi => (hL i hi).form5) (fun i hi => (hL' i hi).form5) (fun i h1 h2 w hw hz r hr => ihL i h1 (hL' i h2) w hw hz r hr) w hw hz r hr)
    have HEM := Lib.hid (fun (w : World) hw hz r hr => eqfM_any m m' aom aom' capm capm' cm cm' hm hm' (fun i hi => ⟨(hM i hi).form6, _, (hK i hi).1⟩) (fun i hi => ⟨(hM' i hi).form6, _, (hK' i hi).1⟩) (fun i h1 h2 w hw hz r hr => by
      rw [(hK i h1).1, (hK' i h2).1]
      exact smem_any _ _ _ _ _ _ _ _ _ _ _ _ (m[i].2 = m'[i].2) w (fun w' hb r' hr' => ihM i h1 (hM' i h2) w' (hw.trans (hb.mono hz)) (Nat.le_trans hz hb.size) r' hr') r (by rw [hr]; exact ⟨fun e => by rw [e]; exact ⟨rfl, rfl⟩, fun e => Prod.ext e.1 e.2⟩)) w hw hz r hr)
    have HR := Lib.hid hr
    have HW := Lib.hid hw
    have HZ := Lib.hid hz
    clear hr hs hk hn ihL ihM hL hM hK hl hm hw hz hk' hn' hs' hl' hm' hL' hK' hM'
    classical
    have hbd : r = (decide (k = k') && decide (n = n') && decide (s = s') && decide (l = l') && decide (m = m')) := by
      rw [Bool.eq_iff_iff, HR.out]; simp only [VT.mk.injEq, Bool.and_eq_true, decide_eq_true_eq]; constructor
      · rintro ⟨h1, h2, h3, h4, h5⟩; exact ⟨⟨⟨⟨h1, h2⟩, h3⟩, h4⟩, h5⟩
      · rintro ⟨⟨⟨⟨h1, h2⟩, h3⟩, h4⟩, h5⟩; exact ⟨h1, h2, h3, h4, h5⟩
    have HBD := Lib.hid hbd
    clear hbd
    by_cases e1 : k = k'
    · by_cases e2 : n = n'
      · by_cases e3 : s.toList = s'.toList
        · have e3' := bytes_eq.1 e3
          subst e1 e2 e3'
          clear e3
          go_enter Try.func19, Try.ntmps19
          go_wp2_with fail
          have hB2 : Below w.heap.size w ((w.alloc (.cells #[.int .i64 k, .int .i64 n, .string s, .slice aol l.length capl, .slice aom m.length capm] 26)).alloc (.cells #[.int .i64 k, .int .i64 n, .string s, .slice aol' l'.length capl', .slice aom' m'.length capm'] 26)) := ((Below.refl _ w).alloc (Nat.le_refl _) _).alloc (by simp) _
          refine (HEL.out _ (HW.out.trans (hB2.mono HZ.out)) (by have := HZ.out; simp; omega) (decide (l = l')) (by simp)).mono ?_
          rintro e w1 ⟨rfl, hb1⟩
          generalize hW2 : (w.alloc _).alloc _ = W2 at hb1 hB2
          have hv1 : W2.heap[w.heap.size]? = some (.cells #[.int .i64 k, .int .i64 n, .string s, .slice aol l.length capl, .slice aom m.length capm] 26 (0, 0)) := by
            subst hW2; rw [Below.heap_alloc _ _ _ (by simp)]; exact World.alloc_heap_new w _
          have hv2 : W2.heap[w.heap.size + 1]? = some (.cells #[.int .i64 k, .int .i64 n, .string s, .slice aol' l'.length capl', .slice aom' m'.length capm'] 26 (0, 0)) := by
            subst hW2; have := World.alloc_heap_new (w.alloc (.cells #[.int .i64 k, .int .i64 n, .string s, .slice aol l.length capl, .slice aom m.length capm] 26)) (.cells #[.int .i64 k, .int .i64 n, .string s, .slice aol' l'.length capl', .slice aom' m'.length capm'] 26); rwa [World.size_alloc] at this
          have hz2 : W2.heap.size = w.heap.size + 2 := by subst hW2; simp
          obtain ⟨-, -, -, -, x4⟩ := c5of ((hb1.block _ (by omega)).trans hv1)
          obtain ⟨-, -, -, -, y4⟩ := c5of ((hb1.block _ (by omega)).trans hv2)
          have HB1 := Lib.hid (hB2.trans (hb1.mono hB2.size))
          clear hW2 hv1 hv2 hb1 hB2 hz2
          by_cases e4 : l = l'
          · have d4 : decide (l = l') = true := by simpa using e4
            have HD4 := Lib.hid d4
            rw [d4]
            clear e4 d4
            go_wp2_with fail
            refine (HEM.out _ (HW.out.trans (HB1.out.mono HZ.out)) (by have := HZ.out; have := HB1.out.size; omega) r (by rw [HBD.out, HD4.out]; simp)).mono ?_
            rintro e w2 ⟨rfl, hb2⟩
            go_wp2
            go_ret
            exact ⟨rfl, HB1.out.trans (hb2.mono HB1.out.size)⟩
          · have d4 : decide (l = l') = false := by simpa using e4
            have hrf : r = false := by rw [HBD.out, d4]; simp
            rw [d4]
            clear e4 d4
            subst hrf
            go_wp2
            go_ret
            exact ⟨rfl, HB1.out⟩
        · have e3b : (s.toList == s'.toList) = false := by simpa using e3
          have hrf : r = false := by rw [HBD.out]; simp; intro _ _ h; exact absurd (by rw [h]) e3
          subst hrf
          have e1b : (k == k') = true := by simpa using e1
          have e2b : (n == n') = true := by simpa using e2
          go_enter Try.func19, Try.ntmps19
          go_wp2
          go_ret
          exact ⟨rfl, ((Below.refl _ w).alloc (Nat.le_refl _) _).alloc (by simp) _⟩
      · have e2b : (n == n') = false := by simpa using e2
        have hrf : r = false := by rw [HBD.out]; simp [e2]
        subst hrf
        have e1b : (k == k') = true := by simpa using e1
        go_enter Try.func19, Try.ntmps19
        go_wp2
        go_ret
        exact ⟨rfl, ((Below.refl _ w).alloc (Nat.le_refl _) _).alloc (by simp) _⟩
    · have e1b : (k == k') = false := by simpa using e1
      have hrf : r = false := by rw [HBD.out]; simp [e1]
      subst hrf
      go_enter Try.func19, Try.ntmps19
      go_wp2
      go_ret
      exact ⟨rfl, ((Below.refl _ w).alloc (Nat.le_refl _) _).alloc (by simp) _⟩
end Go.Proofs.Ythcphfpkinfjoaa
