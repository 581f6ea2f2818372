/-
  The document's own answers may and GoodValue.
  Conditions: none.
-/
import Derived.Test.YthcphfpkinfjoaaValN
namespace Go.Proofs.Ythcphfpkinfjoaa
open Go.RowKit Go.Shelf

theorem mapTo_iff (m : List (ByteArray × VT)) : MapTo m m.length ↔ KeysOK m ∧ MayM m := by
  rw [mayM_iff]
  constructor
  · intro h; exact ⟨fun i hi => ⟨(h i hi hi).1, (h i hi hi).2.1⟩, fun i hi => (h i hi hi).2.2⟩
  · rintro ⟨h1, h2⟩ i hi _; exact ⟨(h1 i hi).1, (h1 i hi).2, h2 i hi⟩

set_option maxRecDepth 100000 in
set_option maxHeartbeats 1000000 in
theorem may_any {n₀ : Nat} {w0 : World} {t : VT} {v : Value} (h : VAt n₀ w0 t v) : ∀ (w : World) (_ : Below n₀ w0 w) (_ : n₀ ≤ w.heap.size) (r : Bool) (_ : r = true ↔ May t),
    Calls Try.prog 102 #[v] w fun e w' => e = .returned (.bool r) ∧ Below w.heap.size w w' := by
  induction h with
  | @mk k n s l m sl sm cl cm hk hn hs hl hm hL hK hM ihL ihM =>
    intro w hw hz r hr
    obtain ⟨aol, capl, rfl, hl1, hl2, hl3⟩ := hl.form
    obtain ⟨aom, capm, rfl, hm1, hm2, hm3⟩ := hm.form
    have hll : l.length ≤ 1000000000000000 := by have := sMax_lt; omega
    have hmm : m.length ≤ 1000000000000000 := by have := sMax_lt; omega
    have IHL := Lib.hid ihL
    have IHM := Lib.hid ihM
    have HR := Lib.hid hr
    have HKE := Lib.hid hK
    have HS := Lib.hid hs
    have HRL := Lib.hid hl
    have HRM := Lib.hid hm
    have HW := Lib.hid hw
    have HZ := Lib.hid hz
    clear hr hs hk hn hl1 hl2 hl3 hm1 hm2 hm3 ihL ihM hL hM hK hl hm hw hz
    by_cases hin : 0 ≤ k ∧ k < 6
    · rcases (show k = 0 ∨ k = 1 ∨ k = 2 ∨ k = 3 ∨ k = 4 ∨ k = 5 by omega) with rfl | rfl | rfl | rfl | rfl | rfl
      · have hno : r = true ↔ n = 0 ∧ s.toList = [] ∧ l.length = 0 ∧ m.length = 0 := by rw [HR.out]; simp [May, NodeOK]
        have HNO := Lib.hid hno
        clear hno
        go_enter Try.func102, Try.ntmps102
        go_wp2
        all_goals go_ret
        all_goals exact ⟨ret_b (by rw [Bool.eq_iff_iff, HNO.out]; first | (simp [*]; done) | (simp; intros; omega)), (Below.refl _ w).alloc (Nat.le_refl _) _⟩
      · have hno : r = true ↔ (n = 0 ∨ n = 1) ∧ s.toList = [] ∧ l.length = 0 ∧ m.length = 0 := by rw [HR.out]; simp [May, NodeOK]
        have HNO := Lib.hid hno
        clear hno
        go_enter Try.func102, Try.ntmps102
        go_wp2
        all_goals go_ret
        all_goals exact ⟨ret_b (by rw [Bool.eq_iff_iff, HNO.out]; first | (simp [*]; done) | (simp; intros; omega)), (Below.refl _ w).alloc (Nat.le_refl _) _⟩
      · have hno : r = true ↔ -9007199254740991 ≤ n ∧ n ≤ 9007199254740991 ∧ s.toList = [] ∧ l.length = 0 ∧ m.length = 0 := by rw [HR.out]; simp [May, NodeOK]
        have HNO := Lib.hid hno
        clear hno
        go_enter Try.func102, Try.ntmps102
        go_wp2
        all_goals go_ret
        all_goals exact ⟨ret_b (by rw [Bool.eq_iff_iff, HNO.out]; first | (simp [*]; done) | (simp; intros; omega)), (Below.refl _ w).alloc (Nat.le_refl _) _⟩
      · have hno : r = true ↔ n = 0 ∧ gS s = true ∧ l.length = 0 ∧ m.length = 0 := by rw [HR.out]; simp [May, NodeOK]
        have HNO := Lib.hid hno
        generalize hg : gS s = g at HNO
        have HG := Lib.hid hg
        clear hno hg
        go_enter Try.func102, Try.ntmps102
        go_wp2_with (first | (go_at_call 54; refine (refGood_any s _ g (Nat.le_trans HS.out sMax_le) HG.out).mono ?_; rintro e w1 ⟨rfl, rfl⟩))
        all_goals go_ret
        all_goals exact ⟨ret_b (by rw [Bool.eq_iff_iff, HNO.out]; first | (simp [*]; done) | (simp; intros; omega)), (Below.refl _ w).alloc (Nat.le_refl _) _⟩
      · exact may_list n s l m.length aol aom capl capm cl HRL.out IHL.out w HW.out HZ.out r (by rw [HR.out, May]; simp only [NodeOK, mayL_iff]; simp; intros; constructor <;> (intro h; simp_all))
      · exact may_map n s m l.length aol aom capl capm cm HRM.out HKE.out IHM.out w HW.out HZ.out r (by rw [HR.out, May, mapTo_iff]; simp only [NodeOK]; simp; constructor <;> (intro h; simp_all))
    · have hno : r = false := by
        rw [← Bool.not_eq_true, HR.out]
        intro h
        have := h.1
        unfold NodeOK at this
        omega
      subst hno
      have h0 : (k == 0) = false := by simp; omega
      have h1 : (k == 1) = false := by simp; omega
      have h2 : (k == 2) = false := by simp; omega
      have h3 : (k == 3) = false := by simp; omega
      have h4 : (k == 4) = false := by simp; omega
      have h5 : (k == 5) = false := by simp; omega
      clear hin
      go_enter Try.func102, Try.ntmps102
      go_wp2
      go_ret
      exact ⟨rfl, (Below.refl _ w).alloc (Nat.le_refl _) _⟩

set_option maxRecDepth 100000 in
set_option maxHeartbeats 1000000 in
theorem rgood_any {n₀ : Nat} {w0 : World} {t : VT} {v : Value} (h : VAt n₀ w0 t v) (hbig : dep t ≤ 1000000) (w : World) (hw : Below n₀ w0 w) (hz : n₀ ≤ w.heap.size) (r : Bool) (hr : r = true ↔ GoodV t) :
    Calls Try.prog 80 #[v] w fun e w' => e = .returned (.bool r) ∧ Below w.heap.size w w' := by
  have HD := Lib.hid (fun w' hw' hz' => rdepth_any h hbig w' hw' hz')
  have HM := Lib.hid (fun w' hw' hz' r' hr' => may_any h w' hw' hz' r' hr')
  obtain ⟨c0, c1, c2, c3, c4, rfl⟩ : ∃ c0 c1 c2 c3 c4, v = .agg #[c0, c1, c2, c3, c4] := by cases h; exact ⟨_, _, _, _, _, rfl⟩
  rw [goodV_iff] at hr
  have HR := Lib.hid hr
  have HW := Lib.hid hw
  have HZ := Lib.hid hz
  clear h hr hw hz
  go_enter Try.func80, Try.ntmps80
  go_wp2_with fail
  refine (HD.out _ (HW.out.trans (((Below.refl _ w).alloc (Nat.le_refl _) _).mono HZ.out)) (by have := HZ.out; simp; omega)).mono ?_
  rintro e w1 ⟨rfl, hb1⟩
  generalize hW0 : w.alloc _ = W0 at hb1
  have hv0 : W0.heap[w.heap.size]? = some (.cells #[c0, c1, c2, c3, c4] 26 (0, 0)) := by subst hW0; exact World.alloc_heap_new w _
  have hw0 : Below w.heap.size w W0 := by subst hW0; exact (Below.refl _ w).alloc (Nat.le_refl _) _
  have hz0 : W0.heap.size = w.heap.size + 1 := by subst hW0; simp
  have HB1 := Lib.hid (show Below w.heap.size w w1 from hw0.trans (hb1.mono hw0.size))
  obtain ⟨x0, x1, x2, x3, x4⟩ := c5of ((hb1.block _ (by omega)).trans hv0)
  clear hW0 hv0 hw0 hb1
  generalize hd : dep t = d at HR hbig
  by_cases h50 : d ≤ 50
  · have h50' : (d : Int) ≤ 50 := by omega
    go_wp2_with fail
    refine (HM.out _ (HW.out.trans (HB1.out.mono HZ.out)) (by have := HZ.out; have := HB1.out.size; omega) r (by rw [HR.out]; simp [h50])).mono ?_
    rintro e w2 ⟨rfl, hb2⟩
    go_wp2
    go_ret
    exact ⟨rfl, HB1.out.trans (hb2.mono HB1.out.size)⟩
  · have h50' : ¬ (d : Int) ≤ 50 := by omega
    have hrf : r = false := by rw [← Bool.not_eq_true, HR.out]; omega
    subst hrf
    go_wp2
    go_ret
    exact ⟨rfl, HB1.out⟩
end Go.Proofs.Ythcphfpkinfjoaa
