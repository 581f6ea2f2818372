/-
  Package value's Good: whether a value is valid.
  Conditions: none.
-/
import Derived.Test.YthcphfpkinfjoaaValG
import Derived.Test.YthcphfpkinfjoaaValE
namespace Go.Proofs.Ythcphfpkinfjoaa
open Go.RowKit Go.Shelf
attribute [local go_sem] Oper.semAt_some

def NodeOK : VT → Prop
  | .mk k n s l m => (k = 0 ∧ n = 0 ∧ s.toList = [] ∧ l.length = 0 ∧ m.length = 0) ∨ (k = 1 ∧ (n = 0 ∨ n = 1) ∧ s.toList = [] ∧ l.length = 0 ∧ m.length = 0) ∨
    (k = 2 ∧ -9007199254740991 ≤ n ∧ n ≤ 9007199254740991 ∧ s.toList = [] ∧ l.length = 0 ∧ m.length = 0) ∨ (k = 3 ∧ n = 0 ∧ gS s = true ∧ l.length = 0 ∧ m.length = 0) ∨
    (k = 4 ∧ n = 0 ∧ s.toList = [] ∧ m.length = 0) ∨ (k = 5 ∧ n = 0 ∧ s.toList = [] ∧ l.length = 0 ∧ KeysOK m)
def Vld : Nat → VT → Prop
  | 0, t => NodeOK t ∧ t.k ≠ 4 ∧ t.k ≠ 5
  | L + 1, .mk k n s l m => NodeOK (.mk k n s l m) ∧ (k = 4 → ∀ i (h : i < l.length), Vld L l[i]) ∧ (k = 5 → ∀ i (h : i < m.length), Vld L m[i].2)

/-- The table of tests, in memory. -/
def TabAt (w : World) (b : Nat) : Prop := w.heap[b]? = some (.cells #[.func (.func 55) #[] #[], .func (.func 56) #[] #[], .func (.func 57) #[] #[], .func (.func 58) #[] #[], .func (.func 59) #[] #[], .func (.func 60) #[] #[]] 91 (0, 0))
theorem TabAt.lt {w : World} {b : Nat} (h : TabAt w b) : b < w.heap.size := lt_of_block h
theorem TabAt.keep {w w' : World} {b : Nat} (h : TabAt w b) (hb : Below w.heap.size w w') : TabAt w' b := (hb.block b h.lt).trans h

structure VSt (B Bt : Nat) (lv : Int) (c0 c1 c2 c3 c4 : Value) (W : World) : Prop where
  v : W.heap[B]? = some (.cells #[c0, c1, c2, c3, c4] 26 (0, 0))
  t : W.heap[B + 1]? = some (.cells #[.slice (some ⟨Bt, 0, none⟩) 6 6] 62 (0, 0))
  l : W.heap[B + 1 + 1]? = some (.cells #[.int .i64 lv] 3 (0, 0))
  r : Boxed W (B + 1 + 1 + 1) 4 (.bool false)
  tab : TabAt W Bt
theorem VSt.keep {B Bt : Nat} {lv : Int} {c0 c1 c2 c3 c4 : Value} {W W' : World} (h : VSt B Bt lv c0 c1 c2 c3 c4 W) (hb : Below W.heap.size W W') : VSt B Bt lv c0 c1 c2 c3 c4 W' :=
  ⟨(hb.block _ (lt_of_block h.v)).trans h.v, (hb.block _ (lt_of_block h.t)).trans h.t, (hb.block _ (lt_of_block h.l)).trans h.l, boxed_below h.r hb, h.tab.keep hb⟩
theorem VSt.put {B Bt : Nat} {lv : Int} {c0 c1 c2 c3 c4 : Value} {W : World} (h : VSt B Bt lv c0 c1 c2 c3 c4 W) : VSt B Bt lv c0 c1 c2 c3 c4 (W.setCell ⟨B + 1 + 1 + 1, 0, none⟩ (.bool false)) := by
  have hne : Bt ≠ B + 1 + 1 + 1 := by
    intro e; have h1 := h.tab; unfold TabAt at h1; rw [e, show W.heap[B + 1 + 1 + 1]? = _ from h.r] at h1; cases h1
  exact ⟨(Below.heap_setCell _ _ _ _ (show B ≠ B + 1 + 1 + 1 by omega)).trans h.v, (Below.heap_setCell _ _ _ _ (show B + 1 ≠ B + 1 + 1 + 1 by omega)).trans h.t, (Below.heap_setCell _ _ _ _ (show B + 1 + 1 ≠ B + 1 + 1 + 1 by omega)).trans h.l, h.r.set _, (Below.heap_setCell _ _ _ _ hne).trans h.tab⟩
theorem heap_own {β : Type} (b : Nat) (cs : Array Value) (t : TypeId) (fr : Nat × Nat) : Own (fun (_ : β) W => W.heap[b]? = some (.cells cs t fr)) := fun _ _ _ _ hs hg hr =>
  (hg.block b (lt_of_block hs) (fun e => by obtain ⟨o, ho, hc⟩ := hr b e.symm; rw [hs] at ho; cases ho; cases hc)).trans hs
theorem VSt.own {β : Type} (B Bt : Nat) (lv : Int) (c0 c1 c2 c3 c4 : Value) : Own (fun (_ : β) W => VSt B Bt lv c0 c1 c2 c3 c4 W) := fun s X Y row hs hg hr =>
  ⟨heap_own _ _ _ _ s X Y row hs.v hg hr, heap_own _ _ _ _ s X Y row hs.t hg hr, heap_own _ _ _ _ s X Y row hs.l hg hr, heap_own _ _ _ _ s X Y row hs.r hg hr, heap_own _ _ _ _ s X Y row hs.tab hg hr⟩
theorem c1of {W : World} {b : Nat} {v : Value} {t : TypeId} (h : W.heap[b]? = some (.cells #[v] t (0, 0))) : W.cell? ⟨b, 0, none⟩ = some v := by simp [World.cell?, h]
theorem c5of {W : World} {b : Nat} {c0 c1 c2 c3 c4 : Value} {t : TypeId} (h : W.heap[b]? = some (.cells #[c0, c1, c2, c3, c4] t (0, 0))) :
    W.cell? ⟨b, 0, none⟩ = some c0 ∧ W.cell? ⟨b, 1, none⟩ = some c1 ∧ W.cell? ⟨b, 2, none⟩ = some c2 ∧ W.cell? ⟨b, 3, none⟩ = some c3 ∧ W.cell? ⟨b, 4, none⟩ = some c4 := by simp [World.cell?, h]
theorem tabof {W : World} {b : Nat} (h : TabAt W b) : W.cell? ⟨b, 0, none⟩ = some (.func (.func 55) #[] #[]) ∧ W.cell? ⟨b, 1, none⟩ = some (.func (.func 56) #[] #[]) ∧ W.cell? ⟨b, 2, none⟩ = some (.func (.func 57) #[] #[]) ∧
    W.cell? ⟨b, 3, none⟩ = some (.func (.func 58) #[] #[]) ∧ W.cell? ⟨b, 4, none⟩ = some (.func (.func 59) #[] #[]) ∧ W.cell? ⟨b, 5, none⟩ = some (.func (.func 60) #[] #[]) := by
  simp [World.cell?, show W.heap[b]? = _ from h]

theorem tests_any (w : World) : Calls Try.prog 33 #[] w fun e w' => e = .returned (.slice (some ⟨w.heap.size, 0, none⟩) 6 6) ∧ TabAt w' w.heap.size ∧ Below w.heap.size w w' := by
  go_enter Try.func33, Try.ntmps33
  go_wp2
  go_ret
  exact ⟨rfl, World.alloc_heap_new w _, (Below.refl _ w).alloc (Nat.le_refl _) _⟩

set_option maxRecDepth 100000 in
set_option maxHeartbeats 2000000 in
theorem valid_any {n₀ : Nat} {w0 : World} {t : VT} {v : Value} (h : VAt n₀ w0 t v) : ∀ (w : World) (_ : Below n₀ w0 w) (_ : n₀ ≤ w.heap.size) (Bt : Nat) (_ : TabAt w Bt) (L : Nat) (_ : L ≤ 1000) (lv : Int) (_ : lv = L) (r : Bool) (_ : r = true ↔ Vld L t),
    Calls Try.prog 32 #[v, .slice (some ⟨Bt, 0, none⟩) 6 6, .int .i64 lv] w fun e w' => e = .returned (.bool r) ∧ Below w.heap.size w w' := by
  induction h with
  | @mk k n s l m sl sm cl cm hk hn hs hl hm hL hK hM ihL ihM =>
    intro w hw hz Bt hT L hL1 lv hlv r hr
    obtain ⟨aol, capl, rfl, hl1, hl2, hl3⟩ := hl.form
    obtain ⟨aom, capm, rfl, hm1, hm2, hm3⟩ := hm.form
    have hll : l.length ≤ 1000000000000000 := by have := sMax_lt; omega
    have hmm : m.length ≤ 1000000000000000 := by have := sMax_lt; omega
    have IHL := Lib.hid ihL
    have IHM := Lib.hid ihM
    have HR := Lib.hid hr
    have HFL := Lib.hid (fun i hi => (hL i hi).form5)
    have HFM := Lib.hid (fun i hi => (hM i hi).form6)
    have HKE := Lib.hid hK
    have HLV := Lib.hid hlv
    have HT := Lib.hid hT
    have HS := Lib.hid hs
    have HRL := Lib.hid hl
    have HRM := Lib.hid hm
    have HW := Lib.hid hw
    have hTl := hT.lt
    clear hr hs hk hn hl1 hl2 hl3 hm1 hm2 hm3 ihL ihM hL hM hK hlv hT hl hm hw
    refine (callsIn_wide (n := 9)).1 ?_
    refine callsIn_of_wp_marks Try.func32 rfl trivial ?_ rfl
    simp only [Try.ntmps32, List.size_toArray, List.length_cons, List.length_nil, Nat.reduceAdd, Nat.reduceSub, Array.replicate_succ, Array.replicate_zero, List.push_toArray, List.append_toArray, List.nil_append, List.cons_append]
    refine wpIn_wide.2 ?_
    go_wp2_with fail
    generalize hW4 : (((w.alloc _).alloc _).alloc _).alloc _ = W4
    have hst : VSt w.heap.size Bt lv (.int .i64 k) (.int .i64 n) (.string s) (.slice aol l.length capl) (.slice aom m.length capm) W4 := by
      subst hW4
      refine ⟨?_, ?_, ?_, ?_, HT.out.keep (((((Below.refl _ w).alloc (Nat.le_refl _) _).alloc (by simp) _).alloc (by simp; omega) _).alloc (by simp; omega) _)⟩
      · rw [Below.heap_alloc _ _ _ (by simp; omega), Below.heap_alloc _ _ _ (by simp; omega), Below.heap_alloc _ _ _ (by simp)]; exact World.alloc_heap_new w _
      · rw [Below.heap_alloc _ _ _ (by simp), Below.heap_alloc _ _ _ (by simp)]; have := World.alloc_heap_new (w.alloc (.cells #[.int .i64 k, .int .i64 n, .string s, .slice aol l.length capl, .slice aom m.length capm] 26)) (.cells #[.slice (some ⟨Bt, 0, none⟩) 6 6] 62); rwa [World.size_alloc] at this
      · rw [Below.heap_alloc _ _ _ (by simp)]; have := World.alloc_heap_new ((w.alloc (.cells #[.int .i64 k, .int .i64 n, .string s, .slice aol l.length capl, .slice aom m.length capm] 26)).alloc (.cells #[.slice (some ⟨Bt, 0, none⟩) 6 6] 62)) (.cells #[.int .i64 lv] 3); simp only [World.size_alloc] at this; exact this
      · have := World.alloc_heap_new (((w.alloc (.cells #[.int .i64 k, .int .i64 n, .string s, .slice aol l.length capl, .slice aom m.length capm] 26)).alloc (.cells #[.slice (some ⟨Bt, 0, none⟩) 6 6] 62)).alloc (.cells #[.int .i64 lv] 3)) (.cells #[.bool false] 4); simp only [World.size_alloc] at this; exact this
    have hB4 : Below w.heap.size w W4 := by
      subst hW4; exact ((((Below.refl _ w).alloc (Nat.le_refl _) _).alloc (by simp) _).alloc (by simp; omega) _).alloc (by simp; omega) _
    have hsz4 : W4.heap.size = w.heap.size + 4 := by subst hW4; simp
    obtain ⟨x0, x1, x2, x3, x4⟩ := c5of hst.v
    have y0 := c1of hst.t
    have z0 := c1of hst.l
    have r0 := hst.r.cell
    have rf := hst.r.frozen
    obtain ⟨t0, t1, t2, t3, t4, t5⟩ := tabof hst.tab
    have HST := Lib.hid hst
    have HB4 := Lib.hid hB4
    clear hW4 hst hB4
    have hnok : ¬ NodeOK (.mk k n s l m) → r = false := by
      intro h
      rw [← Bool.not_eq_true, HR.out]
      intro hv
      cases L with
      | zero => exact h hv.1
      | succ L => exact h hv.1
    have HNOK := Lib.hid hnok
    clear hnok
    by_cases hneg : k < 0
    · have g1 : decide (k < 0) = true := by simpa using hneg
      have hrf : r = false := HNOK.out (by unfold NodeOK; omega)
      have HRF := Lib.hid hrf
      clear hrf
      go_quiet (fail)
      go_wp2
      have hc : ((W4.drewN nq).setCell ⟨w.heap.size + 1 + 1 + 1, 0, none⟩ (.bool false)).cell? ⟨w.heap.size + 1 + 1 + 1, 0, none⟩ = some (.bool false) := World.cell?_setCell_same' _ _ _ (by show (W4.cell? _).isSome = true; rw [r0]; rfl)
      exact ⟨.bool false, by simp [results, Try.f32, go_sem, hc], by rw [HRF.out], ((belowN HB4.out nq)).setCell (p := ⟨w.heap.size + 1 + 1 + 1, 0, none⟩) (by simp; omega) _⟩
    · have g1 : decide (k < 0) = false := by simpa using hneg
      by_cases hbig : 6 ≤ k
      · have g2 : decide (6 ≤ k) = true := by simpa using hbig
        have hrf : r = false := HNOK.out (by unfold NodeOK; omega)
        have HRF := Lib.hid hrf
        clear hrf
        go_quiet (fail)
        go_wp2
        have hc : ((W4.drewN nq).setCell ⟨w.heap.size + 1 + 1 + 1, 0, none⟩ (.bool false)).cell? ⟨w.heap.size + 1 + 1 + 1, 0, none⟩ = some (.bool false) := World.cell?_setCell_same' _ _ _ (by show (W4.cell? _).isSome = true; rw [r0]; rfl)
        exact ⟨.bool false, by simp [results, Try.f32, go_sem, hc], by rw [HRF.out], ((belowN HB4.out nq)).setCell (p := ⟨w.heap.size + 1 + 1 + 1, 0, none⟩) (by simp; omega) _⟩
      · have hBn4 : Below n₀ w0 W4 := HW.out.trans (HB4.out.mono hz)
        have HBN4 := Lib.hid hBn4
        clear hBn4 g1
        rcases (show k = 0 ∨ k = 1 ∨ k = 2 ∨ k = 3 ∨ k = 4 ∨ k = 5 by omega) with rfl | rfl | rfl | rfl | rfl | rfl
        · have hno : NodeOK (.mk 0 n s l m) ↔ n = 0 ∧ s.toList = [] ∧ l.length = 0 ∧ m.length = 0 := by unfold NodeOK; simp
          have HNO := Lib.hid hno
          obtain ⟨rn, hrn⟩ : ∃ rn : Bool, rn = true ↔ n = 0 ∧ s.toList = [] ∧ l.length = 0 ∧ m.length = 0 := by
            classical
            exact ⟨decide (n = 0 ∧ s.toList = [] ∧ l.length = 0 ∧ m.length = 0), by rw [decide_eq_true_iff]⟩
          have HRN := Lib.hid hrn
          clear hno hrn
          have g1 : decide ((0 : Int) < 0) = false := by decide
          have g2 : decide ((6 : Int) ≤ 0) = false := by decide
          go_region_held3 (fun x => x.cell? ⟨w.heap.size, 0, none⟩ = some (.int .i64 0) ∧ x.cell? ⟨w.heap.size, 1, none⟩ = some (.int .i64 n) ∧ x.cell? ⟨w.heap.size, 2, none⟩ = some (.string s) ∧ x.cell? ⟨w.heap.size, 3, none⟩ = some (.slice aol l.length capl) ∧ x.cell? ⟨w.heap.size, 4, none⟩ = some (.slice aom m.length capm) ∧ x.cell? ⟨w.heap.size + 1, 0, none⟩ = some (.slice (some ⟨Bt, 0, none⟩) 6 6) ∧ x.cell? ⟨Bt, 0, none⟩ = some (.func (.func 55) #[] #[]) ∧ Below W4.heap.size W4 x)
            (first | exact ⟨x0, x1, x2, x3, x4, y0, t0, (Below.refl _ _).drew⟩ | exact ⟨by assumption, by assumption, by assumption, by assumption, by assumption, by assumption, by assumption, by assumption⟩)
            (first | (go_at_call 55; refine (null_any _ _ _ _ _ _ _ _ _ _ rn (HRN.out)).mono ?_; rintro e w1 ⟨rfl, hb0⟩; have hb1 : Below W4.heap.size W4 w1 := (Below.refl _ W4).drew.trans hb0; clear hb0; have hst1 := HST.out.keep hb1; obtain ⟨u0, u1, u2, u3, u4⟩ := c5of hst1.v; have v0 := c1of hst1.t; have tt := (tabof hst1.tab).1))
          have hz1 := hb1.size
          have HBW1 := Lib.hid (show Below w.heap.size w w1 from HB4.out.trans (hb1.mono HB4.out.size))
          have HST1 := Lib.hid hst1
          have w0' := c1of hst1.l
          have r1 := hst1.r.cell
          have rf1 := hst1.r.frozen
          clear x0 x1 x2 x3 x4 y0 z0 r0 rf t0 t1 t2 t3 t4 t5 tt g1 g2 hb1
          cases rn with
          | false =>
            have hrf : r = false := HNOK.out (by rw [HNO.out, ← HRN.out]; simp)
            have HRF := Lib.hid hrf
            clear hrf hst1
            go_wp2
            have hc : (w1.setCell ⟨w.heap.size + 1 + 1 + 1, 0, none⟩ (.bool false)).cell? ⟨w.heap.size + 1 + 1 + 1, 0, none⟩ = some (.bool false) := World.cell?_setCell_same' _ _ _ (by rw [r1]; rfl)
            exact ⟨.bool false, by simp [results, Try.f32, go_sem, hc], by rw [HRF.out], (HBW1.out.setCell (p := ⟨w.heap.size + 1 + 1 + 1, 0, none⟩) (by simp; omega) _)⟩
          | true =>
            have HOK := Lib.hid (HNO.out.2 (HRN.out.1 rfl))
            have hrt : r = true := by
              rw [HR.out]
              cases L with
              | zero => exact ⟨HOK.out, by simp [VT.k], by simp [VT.k]⟩
              | succ L => exact ⟨HOK.out, fun h => by simp at h, fun h => by simp at h⟩
            have HRT := Lib.hid hrt
            clear hrt
            go_wp2_with fail
            refine (nests_any _ _ _ _ _ _ false (by decide)).mono ?_
            rintro e w' ⟨rfl, rfl⟩
            have hB5 : Below w1.heap.size w1 (w1.alloc (.cells #[.int .i64 0, .int .i64 n, .string s, .slice aol l.length capl, .slice aom m.length capm] 26)) := (Below.refl _ w1).alloc (Nat.le_refl _) _
            have hsz5 : (w1.alloc (.cells #[.int .i64 0, .int .i64 n, .string s, .slice aol l.length capl, .slice aom m.length capm] 26)).heap.size = w1.heap.size + 1 := by simp
            have hst5 := HST1.out.keep hB5
            generalize (w1.alloc (.cells #[.int .i64 0, .int .i64 n, .string s, .slice aol l.length capl, .slice aom m.length capm] 26)) = W5 at hB5 hsz5 hst5 ⊢
            obtain ⟨s0, s1, s2, s3, s4⟩ := c5of hst5.v
            have s5 := c1of hst5.l
            go_wp2_with fail
            refine (within_any _ _ _ _ _ _ rfl _).mono ?_
            rintro e w' ⟨rfl, rfl⟩
            clear s0 s1 s2 s3 s4
            have hB6 : Below w1.heap.size w1 (W5.alloc (.cells #[.int .i64 0, .int .i64 n, .string s, .slice aol l.length capl, .slice aom m.length capm] 26)) := hB5.alloc hB5.size _
            have hsz6 : (W5.alloc (.cells #[.int .i64 0, .int .i64 n, .string s, .slice aol l.length capl, .slice aom m.length capm] 26)).heap.size = w1.heap.size + 2 := by simp; omega
            have q0 := (fun X : World => (by simp : (X.alloc (.cells #[.int .i64 0, .int .i64 n, .string s, .slice aol l.length capl, .slice aom m.length capm] 26)).cell? ⟨X.heap.size, 0, none⟩ = some (.int .i64 0))) W5
            rw [hsz5] at q0 ⊢
            generalize (W5.alloc (.cells #[.int .i64 0, .int .i64 n, .string s, .slice aol l.length capl, .slice aom m.length capm] 26)) = W6 at hB6 hsz6 q0 ⊢
            have hst6 := HST1.out.keep hB6
            have hBw6 : Below w.heap.size w W6 := HBW1.out.trans (hB6.mono HBW1.out.size)
            go_wp2_with fail
            refine (wpIn_wide (n := 9)).1 ?_
            refine wpIn_rangeFunc_ownH (α := Fin 0) rfl (by decide) (gf := 66) (lb := #[.pointer (some ⟨w1.heap.size + 1, 0, none⟩)]) rfl trivial (enters_of Try.func66 (by kernel_rfl) rfl)
              (within_none 8 (by decide) (w1.heap.size + 1) n₀ 0 (by decide) (by decide) (fun _ => #[.int .i64 0]) W6 (by omega) q0) KpB.t (KpB.b (by omega) (by omega)) (Below.refl _ _) (fun _ => rfl)
              (fun _ W => VSt w.heap.size Bt lv (.int .i64 0) (.int .i64 n) (.string s) (.slice aol l.length capl) (.slice aom m.length capm) W ∧ Below w.heap.size w W)
              (fun _ _ _ => False)
              (OwnFrom.and (Own.from (VSt.own _ _ _ _ _ _ _ _) _) (ownFrom_below (Nat.le_refl _) (by omega)))
              (fun _ _ _ _ _ hs _ _ => hs)
              ⟨hst6, hBw6⟩
              (fun _ _ _ => True)
              (fun _ _ _ _ _ _ hs _ _ => hs)
              ?assign ?body ?done ?stop
            case assign => exact fun _ _ x => x.elim0
            case body => exact fun _ _ x => x.elim0
            case done =>
              rintro D ys W hD _ ⟨stD, hBd⟩ hK
              have rc := stD.r.cell
              have rfz := stD.r.frozen
              go_wp2
              have hK' := (KeepsOthers.setCell W ⟨w.heap.size + 1 + 1 + 1, 0, none⟩ (.bool true)).same D _ hK rfl
              refine ⟨by simp, .inl ⟨_, _, rfl, run_takeDeferred hK', ?_⟩⟩
              have hc5 := cell_kept (World.cell?_setCell_same' W ⟨w.heap.size + 1 + 1 + 1, 0, none⟩ (.bool true) (by rw [stD.r.cell]; rfl)) (grownBy_putObj' _ D (.deferred none)) (fun r e => by cases e; exact ⟨_, hK', rfl⟩)
              refine ⟨.bool true, by simp [results, Try.f32, go_sem, hc5], by rw [HRT.out], (hBd.setCell (p := ⟨w.heap.size + 1 + 1 + 1, 0, none⟩) (by simp; omega) _).trans (belowK_b (w := w) (Nat.le_refl _) _ D _ _ (by omega) hK' rfl rfl)⟩
            case stop =>
              rintro D c pre W _ _ h _
              exact h.elim
        · have hno : NodeOK (.mk 1 n s l m) ↔ (n = 0 ∨ n = 1) ∧ s.toList = [] ∧ l.length = 0 ∧ m.length = 0 := by unfold NodeOK; simp
          have HNO := Lib.hid hno
          obtain ⟨rn, hrn⟩ : ∃ rn : Bool, rn = true ↔ (n = 0 ∨ n = 1) ∧ s.toList = [] ∧ l.length = 0 ∧ m.length = 0 := by
            classical
            exact ⟨decide ((n = 0 ∨ n = 1) ∧ s.toList = [] ∧ l.length = 0 ∧ m.length = 0), by rw [decide_eq_true_iff]⟩
          have HRN := Lib.hid hrn
          clear hno hrn
          have g1 : decide ((1 : Int) < 0) = false := by decide
          have g2 : decide ((6 : Int) ≤ 1) = false := by decide
          go_region_held3 (fun x => x.cell? ⟨w.heap.size, 0, none⟩ = some (.int .i64 1) ∧ x.cell? ⟨w.heap.size, 1, none⟩ = some (.int .i64 n) ∧ x.cell? ⟨w.heap.size, 2, none⟩ = some (.string s) ∧ x.cell? ⟨w.heap.size, 3, none⟩ = some (.slice aol l.length capl) ∧ x.cell? ⟨w.heap.size, 4, none⟩ = some (.slice aom m.length capm) ∧ x.cell? ⟨w.heap.size + 1, 0, none⟩ = some (.slice (some ⟨Bt, 0, none⟩) 6 6) ∧ x.cell? ⟨Bt, 1, none⟩ = some (.func (.func 56) #[] #[]) ∧ Below W4.heap.size W4 x)
            (first | exact ⟨x0, x1, x2, x3, x4, y0, t1, (Below.refl _ _).drew⟩ | exact ⟨by assumption, by assumption, by assumption, by assumption, by assumption, by assumption, by assumption, by assumption⟩)
            (first | (go_at_call 56; refine (bool_any _ _ _ _ _ _ _ _ _ _ rn (HRN.out)).mono ?_; rintro e w1 ⟨rfl, hb0⟩; have hb1 : Below W4.heap.size W4 w1 := (Below.refl _ W4).drew.trans hb0; clear hb0; have hst1 := HST.out.keep hb1; obtain ⟨u0, u1, u2, u3, u4⟩ := c5of hst1.v; have v0 := c1of hst1.t; have tt := (tabof hst1.tab).2.1))
          have hz1 := hb1.size
          have HBW1 := Lib.hid (show Below w.heap.size w w1 from HB4.out.trans (hb1.mono HB4.out.size))
          have HST1 := Lib.hid hst1
          have w0' := c1of hst1.l
          have r1 := hst1.r.cell
          have rf1 := hst1.r.frozen
          clear x0 x1 x2 x3 x4 y0 z0 r0 rf t0 t1 t2 t3 t4 t5 tt g1 g2 hb1
          cases rn with
          | false =>
            have hrf : r = false := HNOK.out (by rw [HNO.out, ← HRN.out]; simp)
            have HRF := Lib.hid hrf
            clear hrf hst1
            go_wp2
            have hc : (w1.setCell ⟨w.heap.size + 1 + 1 + 1, 0, none⟩ (.bool false)).cell? ⟨w.heap.size + 1 + 1 + 1, 0, none⟩ = some (.bool false) := World.cell?_setCell_same' _ _ _ (by rw [r1]; rfl)
            exact ⟨.bool false, by simp [results, Try.f32, go_sem, hc], by rw [HRF.out], (HBW1.out.setCell (p := ⟨w.heap.size + 1 + 1 + 1, 0, none⟩) (by simp; omega) _)⟩
          | true =>
            have HOK := Lib.hid (HNO.out.2 (HRN.out.1 rfl))
            have hrt : r = true := by
              rw [HR.out]
              cases L with
              | zero => exact ⟨HOK.out, by simp [VT.k], by simp [VT.k]⟩
              | succ L => exact ⟨HOK.out, fun h => by simp at h, fun h => by simp at h⟩
            have HRT := Lib.hid hrt
            clear hrt
            go_wp2_with fail
            refine (nests_any _ _ _ _ _ _ false (by decide)).mono ?_
            rintro e w' ⟨rfl, rfl⟩
            have hB5 : Below w1.heap.size w1 (w1.alloc (.cells #[.int .i64 1, .int .i64 n, .string s, .slice aol l.length capl, .slice aom m.length capm] 26)) := (Below.refl _ w1).alloc (Nat.le_refl _) _
            have hsz5 : (w1.alloc (.cells #[.int .i64 1, .int .i64 n, .string s, .slice aol l.length capl, .slice aom m.length capm] 26)).heap.size = w1.heap.size + 1 := by simp
            have hst5 := HST1.out.keep hB5
            generalize (w1.alloc (.cells #[.int .i64 1, .int .i64 n, .string s, .slice aol l.length capl, .slice aom m.length capm] 26)) = W5 at hB5 hsz5 hst5 ⊢
            obtain ⟨s0, s1, s2, s3, s4⟩ := c5of hst5.v
            have s5 := c1of hst5.l
            go_wp2_with fail
            refine (within_any _ _ _ _ _ _ rfl _).mono ?_
            rintro e w' ⟨rfl, rfl⟩
            clear s0 s1 s2 s3 s4
            have hB6 : Below w1.heap.size w1 (W5.alloc (.cells #[.int .i64 1, .int .i64 n, .string s, .slice aol l.length capl, .slice aom m.length capm] 26)) := hB5.alloc hB5.size _
            have hsz6 : (W5.alloc (.cells #[.int .i64 1, .int .i64 n, .string s, .slice aol l.length capl, .slice aom m.length capm] 26)).heap.size = w1.heap.size + 2 := by simp; omega
            have q0 := (fun X : World => (by simp : (X.alloc (.cells #[.int .i64 1, .int .i64 n, .string s, .slice aol l.length capl, .slice aom m.length capm] 26)).cell? ⟨X.heap.size, 0, none⟩ = some (.int .i64 1))) W5
            rw [hsz5] at q0 ⊢
            generalize (W5.alloc (.cells #[.int .i64 1, .int .i64 n, .string s, .slice aol l.length capl, .slice aom m.length capm] 26)) = W6 at hB6 hsz6 q0 ⊢
            have hst6 := HST1.out.keep hB6
            have hBw6 : Below w.heap.size w W6 := HBW1.out.trans (hB6.mono HBW1.out.size)
            go_wp2_with fail
            refine (wpIn_wide (n := 9)).1 ?_
            refine wpIn_rangeFunc_ownH (α := Fin 0) rfl (by decide) (gf := 66) (lb := #[.pointer (some ⟨w1.heap.size + 1, 0, none⟩)]) rfl trivial (enters_of Try.func66 (by kernel_rfl) rfl)
              (within_none 8 (by decide) (w1.heap.size + 1) n₀ 1 (by decide) (by decide) (fun _ => #[.int .i64 0]) W6 (by omega) q0) KpB.t (KpB.b (by omega) (by omega)) (Below.refl _ _) (fun _ => rfl)
              (fun _ W => VSt w.heap.size Bt lv (.int .i64 1) (.int .i64 n) (.string s) (.slice aol l.length capl) (.slice aom m.length capm) W ∧ Below w.heap.size w W)
              (fun _ _ _ => False)
              (OwnFrom.and (Own.from (VSt.own _ _ _ _ _ _ _ _) _) (ownFrom_below (Nat.le_refl _) (by omega)))
              (fun _ _ _ _ _ hs _ _ => hs)
              ⟨hst6, hBw6⟩
              (fun _ _ _ => True)
              (fun _ _ _ _ _ _ hs _ _ => hs)
              ?assign ?body ?done ?stop
            case assign => exact fun _ _ x => x.elim0
            case body => exact fun _ _ x => x.elim0
            case done =>
              rintro D ys W hD _ ⟨stD, hBd⟩ hK
              have rc := stD.r.cell
              have rfz := stD.r.frozen
              go_wp2
              have hK' := (KeepsOthers.setCell W ⟨w.heap.size + 1 + 1 + 1, 0, none⟩ (.bool true)).same D _ hK rfl
              refine ⟨by simp, .inl ⟨_, _, rfl, run_takeDeferred hK', ?_⟩⟩
              have hc5 := cell_kept (World.cell?_setCell_same' W ⟨w.heap.size + 1 + 1 + 1, 0, none⟩ (.bool true) (by rw [stD.r.cell]; rfl)) (grownBy_putObj' _ D (.deferred none)) (fun r e => by cases e; exact ⟨_, hK', rfl⟩)
              refine ⟨.bool true, by simp [results, Try.f32, go_sem, hc5], by rw [HRT.out], (hBd.setCell (p := ⟨w.heap.size + 1 + 1 + 1, 0, none⟩) (by simp; omega) _).trans (belowK_b (w := w) (Nat.le_refl _) _ D _ _ (by omega) hK' rfl rfl)⟩
            case stop =>
              rintro D c pre W _ _ h _
              exact h.elim
        · have hno : NodeOK (.mk 2 n s l m) ↔ -9007199254740991 ≤ n ∧ n ≤ 9007199254740991 ∧ s.toList = [] ∧ l.length = 0 ∧ m.length = 0 := by unfold NodeOK; simp
          have HNO := Lib.hid hno
          obtain ⟨rn, hrn⟩ : ∃ rn : Bool, rn = true ↔ -9007199254740991 ≤ n ∧ n ≤ 9007199254740991 ∧ s.toList = [] ∧ l.length = 0 ∧ m.length = 0 := by
            classical
            exact ⟨decide (-9007199254740991 ≤ n ∧ n ≤ 9007199254740991 ∧ s.toList = [] ∧ l.length = 0 ∧ m.length = 0), by rw [decide_eq_true_iff]⟩
          have HRN := Lib.hid hrn
          clear hno hrn
          have g1 : decide ((2 : Int) < 0) = false := by decide
          have g2 : decide ((6 : Int) ≤ 2) = false := by decide
          go_region_held3 (fun x => x.cell? ⟨w.heap.size, 0, none⟩ = some (.int .i64 2) ∧ x.cell? ⟨w.heap.size, 1, none⟩ = some (.int .i64 n) ∧ x.cell? ⟨w.heap.size, 2, none⟩ = some (.string s) ∧ x.cell? ⟨w.heap.size, 3, none⟩ = some (.slice aol l.length capl) ∧ x.cell? ⟨w.heap.size, 4, none⟩ = some (.slice aom m.length capm) ∧ x.cell? ⟨w.heap.size + 1, 0, none⟩ = some (.slice (some ⟨Bt, 0, none⟩) 6 6) ∧ x.cell? ⟨Bt, 2, none⟩ = some (.func (.func 57) #[] #[]) ∧ Below W4.heap.size W4 x)
            (first | exact ⟨x0, x1, x2, x3, x4, y0, t2, (Below.refl _ _).drew⟩ | exact ⟨by assumption, by assumption, by assumption, by assumption, by assumption, by assumption, by assumption, by assumption⟩)
            (first | (go_at_call 57; refine (int_any _ _ _ _ _ _ _ _ _ _ rn (HRN.out)).mono ?_; rintro e w1 ⟨rfl, hb0⟩; have hb1 : Below W4.heap.size W4 w1 := (Below.refl _ W4).drew.trans hb0; clear hb0; have hst1 := HST.out.keep hb1; obtain ⟨u0, u1, u2, u3, u4⟩ := c5of hst1.v; have v0 := c1of hst1.t; have tt := (tabof hst1.tab).2.2.1))
          have hz1 := hb1.size
          have HBW1 := Lib.hid (show Below w.heap.size w w1 from HB4.out.trans (hb1.mono HB4.out.size))
          have HST1 := Lib.hid hst1
          have w0' := c1of hst1.l
          have r1 := hst1.r.cell
          have rf1 := hst1.r.frozen
          clear x0 x1 x2 x3 x4 y0 z0 r0 rf t0 t1 t2 t3 t4 t5 tt g1 g2 hb1
          cases rn with
          | false =>
            have hrf : r = false := HNOK.out (by rw [HNO.out, ← HRN.out]; simp)
            have HRF := Lib.hid hrf
            clear hrf hst1
            go_wp2
            have hc : (w1.setCell ⟨w.heap.size + 1 + 1 + 1, 0, none⟩ (.bool false)).cell? ⟨w.heap.size + 1 + 1 + 1, 0, none⟩ = some (.bool false) := World.cell?_setCell_same' _ _ _ (by rw [r1]; rfl)
            exact ⟨.bool false, by simp [results, Try.f32, go_sem, hc], by rw [HRF.out], (HBW1.out.setCell (p := ⟨w.heap.size + 1 + 1 + 1, 0, none⟩) (by simp; omega) _)⟩
          | true =>
            have HOK := Lib.hid (HNO.out.2 (HRN.out.1 rfl))
            have hrt : r = true := by
              rw [HR.out]
              cases L with
              | zero => exact ⟨HOK.out, by simp [VT.k], by simp [VT.k]⟩
              | succ L => exact ⟨HOK.out, fun h => by simp at h, fun h => by simp at h⟩
            have HRT := Lib.hid hrt
            clear hrt
            go_wp2_with fail
            refine (nests_any _ _ _ _ _ _ false (by decide)).mono ?_
            rintro e w' ⟨rfl, rfl⟩
            have hB5 : Below w1.heap.size w1 (w1.alloc (.cells #[.int .i64 2, .int .i64 n, .string s, .slice aol l.length capl, .slice aom m.length capm] 26)) := (Below.refl _ w1).alloc (Nat.le_refl _) _
            have hsz5 : (w1.alloc (.cells #[.int .i64 2, .int .i64 n, .string s, .slice aol l.length capl, .slice aom m.length capm] 26)).heap.size = w1.heap.size + 1 := by simp
            have hst5 := HST1.out.keep hB5
            generalize (w1.alloc (.cells #[.int .i64 2, .int .i64 n, .string s, .slice aol l.length capl, .slice aom m.length capm] 26)) = W5 at hB5 hsz5 hst5 ⊢
            obtain ⟨s0, s1, s2, s3, s4⟩ := c5of hst5.v
            have s5 := c1of hst5.l
            go_wp2_with fail
            refine (within_any _ _ _ _ _ _ rfl _).mono ?_
            rintro e w' ⟨rfl, rfl⟩
            clear s0 s1 s2 s3 s4
            have hB6 : Below w1.heap.size w1 (W5.alloc (.cells #[.int .i64 2, .int .i64 n, .string s, .slice aol l.length capl, .slice aom m.length capm] 26)) := hB5.alloc hB5.size _
            have hsz6 : (W5.alloc (.cells #[.int .i64 2, .int .i64 n, .string s, .slice aol l.length capl, .slice aom m.length capm] 26)).heap.size = w1.heap.size + 2 := by simp; omega
            have q0 := (fun X : World => (by simp : (X.alloc (.cells #[.int .i64 2, .int .i64 n, .string s, .slice aol l.length capl, .slice aom m.length capm] 26)).cell? ⟨X.heap.size, 0, none⟩ = some (.int .i64 2))) W5
            rw [hsz5] at q0 ⊢
            generalize (W5.alloc (.cells #[.int .i64 2, .int .i64 n, .string s, .slice aol l.length capl, .slice aom m.length capm] 26)) = W6 at hB6 hsz6 q0 ⊢
            have hst6 := HST1.out.keep hB6
            have hBw6 : Below w.heap.size w W6 := HBW1.out.trans (hB6.mono HBW1.out.size)
            go_wp2_with fail
            refine (wpIn_wide (n := 9)).1 ?_
            refine wpIn_rangeFunc_ownH (α := Fin 0) rfl (by decide) (gf := 66) (lb := #[.pointer (some ⟨w1.heap.size + 1, 0, none⟩)]) rfl trivial (enters_of Try.func66 (by kernel_rfl) rfl)
              (within_none 8 (by decide) (w1.heap.size + 1) n₀ 2 (by decide) (by decide) (fun _ => #[.int .i64 0]) W6 (by omega) q0) KpB.t (KpB.b (by omega) (by omega)) (Below.refl _ _) (fun _ => rfl)
              (fun _ W => VSt w.heap.size Bt lv (.int .i64 2) (.int .i64 n) (.string s) (.slice aol l.length capl) (.slice aom m.length capm) W ∧ Below w.heap.size w W)
              (fun _ _ _ => False)
              (OwnFrom.and (Own.from (VSt.own _ _ _ _ _ _ _ _) _) (ownFrom_below (Nat.le_refl _) (by omega)))
              (fun _ _ _ _ _ hs _ _ => hs)
              ⟨hst6, hBw6⟩
              (fun _ _ _ => True)
              (fun _ _ _ _ _ _ hs _ _ => hs)
              ?assign ?body ?done ?stop
            case assign => exact fun _ _ x => x.elim0
            case body => exact fun _ _ x => x.elim0
            case done =>
              rintro D ys W hD _ ⟨stD, hBd⟩ hK
              have rc := stD.r.cell
              have rfz := stD.r.frozen
              go_wp2
              have hK' := (KeepsOthers.setCell W ⟨w.heap.size + 1 + 1 + 1, 0, none⟩ (.bool true)).same D _ hK rfl
              refine ⟨by simp, .inl ⟨_, _, rfl, run_takeDeferred hK', ?_⟩⟩
              have hc5 := cell_kept (World.cell?_setCell_same' W ⟨w.heap.size + 1 + 1 + 1, 0, none⟩ (.bool true) (by rw [stD.r.cell]; rfl)) (grownBy_putObj' _ D (.deferred none)) (fun r e => by cases e; exact ⟨_, hK', rfl⟩)
              refine ⟨.bool true, by simp [results, Try.f32, go_sem, hc5], by rw [HRT.out], (hBd.setCell (p := ⟨w.heap.size + 1 + 1 + 1, 0, none⟩) (by simp; omega) _).trans (belowK_b (w := w) (Nat.le_refl _) _ D _ _ (by omega) hK' rfl rfl)⟩
            case stop =>
              rintro D c pre W _ _ h _
              exact h.elim
        · have hno : NodeOK (.mk 3 n s l m) ↔ n = 0 ∧ gS s = true ∧ l.length = 0 ∧ m.length = 0 := by unfold NodeOK; simp
          have HNO := Lib.hid hno
          obtain ⟨rn, hrn⟩ : ∃ rn : Bool, rn = true ↔ n = 0 ∧ gS s = true ∧ l.length = 0 ∧ m.length = 0 := by
            classical
            exact ⟨decide (n = 0 ∧ gS s = true ∧ l.length = 0 ∧ m.length = 0), by rw [decide_eq_true_iff]⟩
          have HRN := Lib.hid hrn
          clear hno hrn
          have g1 : decide ((3 : Int) < 0) = false := by decide
          have g2 : decide ((6 : Int) ≤ 3) = false := by decide
          go_region_held3 (fun x => x.cell? ⟨w.heap.size, 0, none⟩ = some (.int .i64 3) ∧ x.cell? ⟨w.heap.size, 1, none⟩ = some (.int .i64 n) ∧ x.cell? ⟨w.heap.size, 2, none⟩ = some (.string s) ∧ x.cell? ⟨w.heap.size, 3, none⟩ = some (.slice aol l.length capl) ∧ x.cell? ⟨w.heap.size, 4, none⟩ = some (.slice aom m.length capm) ∧ x.cell? ⟨w.heap.size + 1, 0, none⟩ = some (.slice (some ⟨Bt, 0, none⟩) 6 6) ∧ x.cell? ⟨Bt, 3, none⟩ = some (.func (.func 58) #[] #[]) ∧ Below W4.heap.size W4 x)
            (first | exact ⟨x0, x1, x2, x3, x4, y0, t3, (Below.refl _ _).drew⟩ | exact ⟨by assumption, by assumption, by assumption, by assumption, by assumption, by assumption, by assumption, by assumption⟩)
            (first | (go_at_call 58; refine (text_any _ _ _ _ _ _ _ _ _ _ rn HS.out (HRN.out)).mono ?_; rintro e w1 ⟨rfl, hb0⟩; have hb1 : Below W4.heap.size W4 w1 := (Below.refl _ W4).drew.trans hb0; clear hb0; have hst1 := HST.out.keep hb1; obtain ⟨u0, u1, u2, u3, u4⟩ := c5of hst1.v; have v0 := c1of hst1.t; have tt := (tabof hst1.tab).2.2.2.1))
          have hz1 := hb1.size
          have HBW1 := Lib.hid (show Below w.heap.size w w1 from HB4.out.trans (hb1.mono HB4.out.size))
          have HST1 := Lib.hid hst1
          have w0' := c1of hst1.l
          have r1 := hst1.r.cell
          have rf1 := hst1.r.frozen
          clear x0 x1 x2 x3 x4 y0 z0 r0 rf t0 t1 t2 t3 t4 t5 tt g1 g2 hb1
          cases rn with
          | false =>
            have hrf : r = false := HNOK.out (by rw [HNO.out, ← HRN.out]; simp)
            have HRF := Lib.hid hrf
            clear hrf hst1
            go_wp2
            have hc : (w1.setCell ⟨w.heap.size + 1 + 1 + 1, 0, none⟩ (.bool false)).cell? ⟨w.heap.size + 1 + 1 + 1, 0, none⟩ = some (.bool false) := World.cell?_setCell_same' _ _ _ (by rw [r1]; rfl)
            exact ⟨.bool false, by simp [results, Try.f32, go_sem, hc], by rw [HRF.out], (HBW1.out.setCell (p := ⟨w.heap.size + 1 + 1 + 1, 0, none⟩) (by simp; omega) _)⟩
          | true =>
            have HOK := Lib.hid (HNO.out.2 (HRN.out.1 rfl))
            have hrt : r = true := by
              rw [HR.out]
              cases L with
              | zero => exact ⟨HOK.out, by simp [VT.k], by simp [VT.k]⟩
              | succ L => exact ⟨HOK.out, fun h => by simp at h, fun h => by simp at h⟩
            have HRT := Lib.hid hrt
            clear hrt
            go_wp2_with fail
            refine (nests_any _ _ _ _ _ _ false (by decide)).mono ?_
            rintro e w' ⟨rfl, rfl⟩
            have hB5 : Below w1.heap.size w1 (w1.alloc (.cells #[.int .i64 3, .int .i64 n, .string s, .slice aol l.length capl, .slice aom m.length capm] 26)) := (Below.refl _ w1).alloc (Nat.le_refl _) _
            have hsz5 : (w1.alloc (.cells #[.int .i64 3, .int .i64 n, .string s, .slice aol l.length capl, .slice aom m.length capm] 26)).heap.size = w1.heap.size + 1 := by simp
            have hst5 := HST1.out.keep hB5
            generalize (w1.alloc (.cells #[.int .i64 3, .int .i64 n, .string s, .slice aol l.length capl, .slice aom m.length capm] 26)) = W5 at hB5 hsz5 hst5 ⊢
            obtain ⟨s0, s1, s2, s3, s4⟩ := c5of hst5.v
            have s5 := c1of hst5.l
            go_wp2_with fail
            refine (within_any _ _ _ _ _ _ rfl _).mono ?_
            rintro e w' ⟨rfl, rfl⟩
            clear s0 s1 s2 s3 s4
            have hB6 : Below w1.heap.size w1 (W5.alloc (.cells #[.int .i64 3, .int .i64 n, .string s, .slice aol l.length capl, .slice aom m.length capm] 26)) := hB5.alloc hB5.size _
            have hsz6 : (W5.alloc (.cells #[.int .i64 3, .int .i64 n, .string s, .slice aol l.length capl, .slice aom m.length capm] 26)).heap.size = w1.heap.size + 2 := by simp; omega
            have q0 := (fun X : World => (by simp : (X.alloc (.cells #[.int .i64 3, .int .i64 n, .string s, .slice aol l.length capl, .slice aom m.length capm] 26)).cell? ⟨X.heap.size, 0, none⟩ = some (.int .i64 3))) W5
            rw [hsz5] at q0 ⊢
            generalize (W5.alloc (.cells #[.int .i64 3, .int .i64 n, .string s, .slice aol l.length capl, .slice aom m.length capm] 26)) = W6 at hB6 hsz6 q0 ⊢
            have hst6 := HST1.out.keep hB6
            have hBw6 : Below w.heap.size w W6 := HBW1.out.trans (hB6.mono HBW1.out.size)
            go_wp2_with fail
            refine (wpIn_wide (n := 9)).1 ?_
            refine wpIn_rangeFunc_ownH (α := Fin 0) rfl (by decide) (gf := 66) (lb := #[.pointer (some ⟨w1.heap.size + 1, 0, none⟩)]) rfl trivial (enters_of Try.func66 (by kernel_rfl) rfl)
              (within_none 8 (by decide) (w1.heap.size + 1) n₀ 3 (by decide) (by decide) (fun _ => #[.int .i64 0]) W6 (by omega) q0) KpB.t (KpB.b (by omega) (by omega)) (Below.refl _ _) (fun _ => rfl)
              (fun _ W => VSt w.heap.size Bt lv (.int .i64 3) (.int .i64 n) (.string s) (.slice aol l.length capl) (.slice aom m.length capm) W ∧ Below w.heap.size w W)
              (fun _ _ _ => False)
              (OwnFrom.and (Own.from (VSt.own _ _ _ _ _ _ _ _) _) (ownFrom_below (Nat.le_refl _) (by omega)))
              (fun _ _ _ _ _ hs _ _ => hs)
              ⟨hst6, hBw6⟩
              (fun _ _ _ => True)
              (fun _ _ _ _ _ _ hs _ _ => hs)
              ?assign ?body ?done ?stop
            case assign => exact fun _ _ x => x.elim0
            case body => exact fun _ _ x => x.elim0
            case done =>
              rintro D ys W hD _ ⟨stD, hBd⟩ hK
              have rc := stD.r.cell
              have rfz := stD.r.frozen
              go_wp2
              have hK' := (KeepsOthers.setCell W ⟨w.heap.size + 1 + 1 + 1, 0, none⟩ (.bool true)).same D _ hK rfl
              refine ⟨by simp, .inl ⟨_, _, rfl, run_takeDeferred hK', ?_⟩⟩
              have hc5 := cell_kept (World.cell?_setCell_same' W ⟨w.heap.size + 1 + 1 + 1, 0, none⟩ (.bool true) (by rw [stD.r.cell]; rfl)) (grownBy_putObj' _ D (.deferred none)) (fun r e => by cases e; exact ⟨_, hK', rfl⟩)
              refine ⟨.bool true, by simp [results, Try.f32, go_sem, hc5], by rw [HRT.out], (hBd.setCell (p := ⟨w.heap.size + 1 + 1 + 1, 0, none⟩) (by simp; omega) _).trans (belowK_b (w := w) (Nat.le_refl _) _ D _ _ (by omega) hK' rfl rfl)⟩
            case stop =>
              rintro D c pre W _ _ h _
              exact h.elim
        · have hno : NodeOK (.mk 4 n s l m) ↔ n = 0 ∧ s.toList = [] ∧ m.length = 0 := by unfold NodeOK; simp
          have HNO := Lib.hid hno
          obtain ⟨rn, hrn⟩ : ∃ rn : Bool, rn = true ↔ n = 0 ∧ s.toList = [] ∧ m.length = 0 := by
            classical
            exact ⟨decide (n = 0 ∧ s.toList = [] ∧ m.length = 0), by rw [decide_eq_true_iff]⟩
          have HRN := Lib.hid hrn
          clear hno hrn
          have g1 : decide ((4 : Int) < 0) = false := by decide
          have g2 : decide ((6 : Int) ≤ 4) = false := by decide
          go_region_held3 (fun x => x.cell? ⟨w.heap.size, 0, none⟩ = some (.int .i64 4) ∧ x.cell? ⟨w.heap.size, 1, none⟩ = some (.int .i64 n) ∧ x.cell? ⟨w.heap.size, 2, none⟩ = some (.string s) ∧ x.cell? ⟨w.heap.size, 3, none⟩ = some (.slice aol l.length capl) ∧ x.cell? ⟨w.heap.size, 4, none⟩ = some (.slice aom m.length capm) ∧ x.cell? ⟨w.heap.size + 1, 0, none⟩ = some (.slice (some ⟨Bt, 0, none⟩) 6 6) ∧ x.cell? ⟨Bt, 4, none⟩ = some (.func (.func 59) #[] #[]) ∧ Below W4.heap.size W4 x)
            (first | exact ⟨x0, x1, x2, x3, x4, y0, t4, (Below.refl _ _).drew⟩ | exact ⟨by assumption, by assumption, by assumption, by assumption, by assumption, by assumption, by assumption, by assumption⟩)
            (first | (go_at_call 59; refine (list_any _ _ _ _ _ _ _ _ _ _ rn (HRN.out)).mono ?_; rintro e w1 ⟨rfl, hb0⟩; have hb1 : Below W4.heap.size W4 w1 := (Below.refl _ W4).drew.trans hb0; clear hb0; have hst1 := HST.out.keep hb1; obtain ⟨u0, u1, u2, u3, u4⟩ := c5of hst1.v; have v0 := c1of hst1.t; have tt := (tabof hst1.tab).2.2.2.2.1))
          have hz1 := hb1.size
          have HBW1 := Lib.hid (show Below w.heap.size w w1 from HB4.out.trans (hb1.mono HB4.out.size))
          have HST1 := Lib.hid hst1
          have w0' := c1of hst1.l
          have r1 := hst1.r.cell
          have rf1 := hst1.r.frozen
          clear x0 x1 x2 x3 x4 y0 z0 r0 rf t0 t1 t2 t3 t4 t5 tt g1 g2 hb1
          cases rn with
          | false =>
            have hrf : r = false := HNOK.out (by rw [HNO.out, ← HRN.out]; simp)
            have HRF := Lib.hid hrf
            clear hrf hst1
            go_wp2
            have hc : (w1.setCell ⟨w.heap.size + 1 + 1 + 1, 0, none⟩ (.bool false)).cell? ⟨w.heap.size + 1 + 1 + 1, 0, none⟩ = some (.bool false) := World.cell?_setCell_same' _ _ _ (by rw [r1]; rfl)
            exact ⟨.bool false, by simp [results, Try.f32, go_sem, hc], by rw [HRF.out], (HBW1.out.setCell (p := ⟨w.heap.size + 1 + 1 + 1, 0, none⟩) (by simp; omega) _)⟩
          | true =>
            have HOK := Lib.hid (HNO.out.2 (HRN.out.1 rfl))
            by_cases hL0 : L = 0
            · subst hL0
              have hrf : r = false := by
                rw [← Bool.not_eq_true, HR.out]
                intro h
                have := h.2
                simp [VT.k] at this
              obtain rfl : lv = 0 := by have := HLV.out; omega
              have HRF := Lib.hid hrf
              clear hrf
              go_wp2_with fail
              refine (nests_any _ _ _ _ _ _ true (by decide)).mono ?_
              rintro e w' ⟨rfl, rfl⟩
              have hB5 : Below w1.heap.size w1 (w1.alloc (.cells #[.int .i64 4, .int .i64 n, .string s, .slice aol l.length capl, .slice aom m.length capm] 26)) := (Below.refl _ w1).alloc (Nat.le_refl _) _
              have hst5 := HST1.out.keep hB5
              generalize (w1.alloc (.cells #[.int .i64 4, .int .i64 n, .string s, .slice aol l.length capl, .slice aom m.length capm] 26)) = W5 at hB5 hst5 ⊢
              have s5 := c1of hst5.l
              have r2 := hst5.r.cell
              have rf2 := hst5.r.frozen
              go_wp2
              have hc : (W5.setCell ⟨w.heap.size + 1 + 1 + 1, 0, none⟩ (.bool false)).cell? ⟨w.heap.size + 1 + 1 + 1, 0, none⟩ = some (.bool false) := World.cell?_setCell_same' _ _ _ (by rw [r2]; rfl)
              exact ⟨.bool false, by simp [results, Try.f32, go_sem, hc], by rw [HRF.out], ((HBW1.out.trans (hB5.mono HBW1.out.size)).setCell (p := ⟨w.heap.size + 1 + 1 + 1, 0, none⟩) (by simp; omega) _)⟩
            · obtain ⟨L, rfl⟩ : ∃ L', L = L' + 1 := ⟨L - 1, by omega⟩
              have hlv0 : (lv == 0) = false := by have := HLV.out; simp; omega
              have hlv1 : lv ≤ 1000 := by have := HLV.out; omega
              have hlv2 : 1 ≤ lv := by have := HLV.out; omega
              have hiff : r = true ↔ ∀ i (h : i < l.length), Vld L l[i] := by
                rw [HR.out]
                constructor
                · intro h; exact h.2.1 rfl
                · intro h; exact ⟨HOK.out, fun _ => h, fun h => by simp at h⟩
              have HIFF := Lib.hid hiff
              clear hiff hL0
              go_wp2_with fail
              refine (nests_any _ _ _ _ _ _ true (by decide)).mono ?_
              rintro e w' ⟨rfl, rfl⟩
              have hB5 : Below w1.heap.size w1 (w1.alloc (.cells #[.int .i64 4, .int .i64 n, .string s, .slice aol l.length capl, .slice aom m.length capm] 26)) := (Below.refl _ w1).alloc (Nat.le_refl _) _
              have hsz5 : (w1.alloc (.cells #[.int .i64 4, .int .i64 n, .string s, .slice aol l.length capl, .slice aom m.length capm] 26)).heap.size = w1.heap.size + 1 := by simp
              have hst5 := HST1.out.keep hB5
              generalize (w1.alloc (.cells #[.int .i64 4, .int .i64 n, .string s, .slice aol l.length capl, .slice aom m.length capm] 26)) = W5 at hB5 hsz5 hst5 ⊢
              obtain ⟨s0, s1, s2, s3, s4⟩ := c5of hst5.v
              have s5 := c1of hst5.l
              go_wp2_with fail
              refine (within_any _ _ _ _ _ _ rfl _).mono ?_
              rintro e w' ⟨rfl, rfl⟩
              clear s0 s1 s2 s3 s4
              have hB6 : Below w1.heap.size w1 (W5.alloc (.cells #[.int .i64 4, .int .i64 n, .string s, .slice aol l.length capl, .slice aom m.length capm] 26)) := hB5.alloc hB5.size _
              have hsz6 : (W5.alloc (.cells #[.int .i64 4, .int .i64 n, .string s, .slice aol l.length capl, .slice aom m.length capm] 26)).heap.size = w1.heap.size + 2 := by simp; omega
              have q0 := (fun X : World => (by simp : (X.alloc (.cells #[.int .i64 4, .int .i64 n, .string s, .slice aol l.length capl, .slice aom m.length capm] 26)).cell? ⟨X.heap.size, 0, none⟩ = some (.int .i64 4))) W5
              have q3 := (fun X : World => (by simp : (X.alloc (.cells #[.int .i64 4, .int .i64 n, .string s, .slice aol l.length capl, .slice aom m.length capm] 26)).cell? ⟨X.heap.size, 3, none⟩ = some (.slice aol l.length capl))) W5
              rw [hsz5] at q0 q3 ⊢
              generalize (W5.alloc (.cells #[.int .i64 4, .int .i64 n, .string s, .slice aol l.length capl, .slice aom m.length capm] 26)) = W6 at hB6 hsz6 q0 q3 ⊢
              have hst6 := HST1.out.keep hB6
              have hBw6 : Below w.heap.size w W6 := HBW1.out.trans (hB6.mono HBW1.out.size)
              go_wp2_with fail
              refine (wpIn_wide (n := 9)).1 ?_
              have hrow := HRL.out.below (HW.out.trans (hBw6.mono hz))
              refine wpIn_rangeFunc_ownH rfl (by decide) (gf := 66) (lb := #[.pointer (some ⟨w1.heap.size + 1, 0, none⟩)]) rfl trivial (enters_of Try.func66 (by kernel_rfl) rfl)
                (within_list 8 (by decide) (w1.heap.size + 1) n₀ l.length capl aol cl W6 (by omega) (by omega) q0 q3 hrow (by omega) (fun i hi => HFL.out i hi)) KpB.t (KpB.b (by omega) (by omega)) (Below.refl _ _) (fun _ => rfl)
                (fun pre W => VSt w.heap.size Bt lv (.int .i64 4) (.int .i64 n) (.string s) (.slice aol l.length capl) (.slice aom m.length capm) W ∧ Below w.heap.size w W ∧ w1.heap.size + 2 ≤ W.heap.size ∧ ∀ x ∈ pre, Vld L (l[x.1]))
                (fun c _ W => VSt w.heap.size Bt lv (.int .i64 4) (.int .i64 n) (.string s) (.slice aol l.length capl) (.slice aom m.length capm) W ∧ Below w.heap.size w W ∧ c = .ret ∧ r = false)
                (OwnFrom.and (Own.from (VSt.own _ _ _ _ _ _ _ _) _) (OwnFrom.and (ownFrom_below (Nat.le_refl _) (by omega)) (OwnFrom.and (fun _ _ _ _ hs hg _ => Nat.le_trans hs hg.size) (ownFrom_pure _ _))))
                (fun c => OwnFrom.and (Own.from (VSt.own _ _ _ _ _ _ _ _) _) (OwnFrom.and (ownFrom_below (Nat.le_refl _) (by omega)) (fun _ _ _ _ hs _ _ => hs)))
                ⟨hst6, hBw6, by omega, fun _ h => by cases h⟩
                (fun x a' W => ∃ Bx, w1.heap.size + 1 < Bx ∧ W.heap[Bx]? = some (.cells #[cl x 0, cl x 1, cl x 2, cl x 3, cl x 4] 26 (0, 0)) ∧ a' = { tmps := #[.agg #[.int .i64 4, .int .i64 n, .string s, .slice aol l.length capl, .slice aom m.length capm], .slice (some ⟨Bt, 0, none⟩) 6 6, .int .i64 lv, .pointer (some ⟨w.heap.size, 0, none⟩), .pointer (some ⟨w.heap.size + 1, 0, none⟩), .pointer (some ⟨w.heap.size + 1 + 1, 0, none⟩), .pointer (some ⟨w.heap.size + 1 + 1 + 1, 0, none⟩), .pointer (some ⟨Bx, 0, none⟩), .pointer (some ⟨w.heap.size, 0, none⟩), .int .i64 4, .bool false, .bool false, .pointer (some ⟨w.heap.size, 0, none⟩), .int .i64 4, .slice (some ⟨Bt, 0, none⟩) 6 6, .int .i64 6, .bool false, .bool false, .bool false, .slice (some ⟨Bt, 0, none⟩) 6 6, .pointer (some ⟨w.heap.size, 0, none⟩), .int .i64 4, .pointer (some ⟨Bt, 4, none⟩), .func (.func 59) #[] #[], .agg #[.int .i64 4, .int .i64 n, .string s, .slice aol l.length capl, .slice aom m.length capm], .bool true, .bool false, .bool false, .agg #[.int .i64 4, .int .i64 n, .string s, .slice aol l.length capl, .slice aom m.length capm], .bool true, .bool true, .int .i64 lv, .bool false, .bool false, .agg #[.int .i64 4, .int .i64 n, .string s, .slice aol l.length capl, .slice aom m.length capm], .func (.func 66) #[] #[.pointer (some ⟨w1.heap.size + 1, 0, none⟩)], .agg #[cl x 0, cl x 1, cl x 2, cl x 3, cl x 4], undef, undef, undef, undef, undef, undef], defers := [] })
                (fun x a' _ X Y row hs hg hr => by
                  obtain ⟨Bx, h1, h2, h3⟩ := hs
                  exact ⟨Bx, h1, heap_own Bx _ _ _ () X Y row h2 hg (fun r e => (hr r e).2), h3⟩)
                ?assign ?body ?done ?stop
              case assign =>
                rintro lo pre x W K ⟨st1, hB1, hs1, hv1⟩ hK
                obtain ⟨kk, nn, ss, a1, l1, p1, a2, l2, p2, e0, e1, e2, e3, e4⟩ := HFL.out x x.2
                simp only [Nat.zero_add] at e0 e1 e2 e3 e4
                simp only [e0, e1, e2, e3, e4] at hK ⊢
                gi_wp2
                exact hK _ _ ((KeepsOthers.alloc _ _).from _) ⟨(Below.refl _ W).alloc (by omega) _, Below.heap_alloc _ _ _ (by omega)⟩ ⟨st1.keep ((Below.refl _ W).alloc (Nat.le_refl _) _), hB1.alloc hB1.size _, by simp; omega, hv1⟩ ⟨W.heap.size, by omega, World.alloc_heap_new W _, rfl⟩
              case body =>
                rintro lo pre x a' W hlo ⟨rr, hr⟩ ⟨st1, hB1, hs1, hv1⟩ ⟨Bx, hBx, bX, rfl⟩ hlt
                have hBxs : Bx < W.heap.size := lt_of_block bX
                obtain ⟨x0, x1, x2, x3, x4⟩ := c5of bX
                have y0 := c1of st1.t
                have z0 := c1of st1.l
                have HST2 := Lib.hid st1
                have HB2 := Lib.hid hB1
                have HV2 := Lib.hid hv1
                have HBN := Lib.hid (show Below n₀ w0 W from HW.out.trans (hB1.mono hz))
                have IHX := Lib.hid (IHL.out x x.2)
                clear bX st1 hB1 hv1
                by_cases hx : Vld L (l[x.1])
                · have HX := Lib.hid hx
                  clear hx
                  gi_wp2_with (refine ⟨trivial, ?_⟩; gi_at_call 32; refine (CallsIn.inRound lo (callsIn_wide.2 (IHX.out _ HBN.out (by omega) Bt HST2.out.tab L (by omega) _ (by have := HLV.out; omega) true (by simp [HX.out])))).mono ?_; rintro e w' ⟨rfl, hb⟩)
                  exact ⟨keepsFrom_below hb, ⟨hb.mono (by omega), hb.block _ (by omega)⟩, HST2.out.keep hb, HB2.out.trans (hb.mono (by omega)), by have := hb.size; omega, fun y hy => (List.mem_append.1 hy).elim (HV2.out y) (fun e => by simp at e; subst e; exact HX.out)⟩
                · have HX := Lib.hid hx
                  have hrf : r = false := by
                    rw [← Bool.not_eq_true, HIFF.out]
                    exact fun h => hx (h x.1 x.2)
                  have HRF := Lib.hid hrf
                  clear hx hrf
                  gi_wp2_with (refine ⟨trivial, ?_⟩; gi_at_call 32; refine (CallsIn.inRound lo (callsIn_wide.2 (IHX.out _ HBN.out (by omega) Bt HST2.out.tab L (by omega) _ (by have := HLV.out; omega) false (by simp [HX.out])))).mono ?_; rintro e w' ⟨rfl, hb⟩; have hst3 := HST2.out.keep hb; have rc := hst3.r.cell; have rfz := hst3.r.frozen)
                  exact ⟨(keepsFrom_below hb).trans ((KeepsOthers.setCell _ _ _).from _), ⟨(VSt.put hst3 : _), (HB2.out.trans (hb.mono (by omega))).setCell (p := ⟨w.heap.size + 1 + 1 + 1, 0, none⟩) (by simp; omega) _, rfl, HRF.out⟩⟩
              case done =>
                rintro D ys W hD rfl ⟨stD, hBd, hs1, hv1⟩ hK
                have rc := stD.r.cell
                have rfz := stD.r.frozen
                have hrt : r = true := HIFF.out.2 (fun i hi => hv1 ⟨i, hi⟩ (List.mem_finRange _))
                have HRT := Lib.hid hrt
                clear hrt
                go_wp2
                have hK' := (KeepsOthers.setCell W ⟨w.heap.size + 1 + 1 + 1, 0, none⟩ (.bool true)).same D _ hK rfl
                refine ⟨by simp, .inl ⟨_, _, rfl, run_takeDeferred hK', ?_⟩⟩
                have hc5 := cell_kept (World.cell?_setCell_same' W ⟨w.heap.size + 1 + 1 + 1, 0, none⟩ (.bool true) (by rw [stD.r.cell]; rfl)) (grownBy_putObj' _ D (.deferred none)) (fun r e => by cases e; exact ⟨_, hK', rfl⟩)
                refine ⟨.bool true, by simp [results, Try.f32, go_sem, hc5], by rw [HRT.out], (hBd.setCell (p := ⟨w.heap.size + 1 + 1 + 1, 0, none⟩) (by simp; omega) _).trans (belowK_b (w := w) (Nat.le_refl _) _ D _ _ (by omega) hK' rfl rfl)⟩
              case stop =>
                rintro D c pre W hD _ ⟨stD, hBd, rfl, hrf⟩ hK
                have HRF := Lib.hid hrf
                clear hrf
                have rc := stD.r.cell
                gi_wp2
                refine ⟨by simp, .inl ⟨_, _, rfl, run_takeDeferred hK, ?_⟩⟩
                have hc5 := cell_kept rc (grownBy_putObj' _ D (.deferred none)) (fun r e => by cases e; exact ⟨_, hK, rfl⟩)
                refine ⟨.bool false, by simp [results, Try.f32, go_sem, hc5], by rw [HRF.out], hBd.trans (belowK_b (w := w) (Nat.le_refl _) W D _ _ (by omega) hK rfl rfl)⟩
        · have hno : NodeOK (.mk 5 n s l m) ↔ n = 0 ∧ s.toList = [] ∧ l.length = 0 ∧ KeysOK m := by unfold NodeOK; simp
          have HNO := Lib.hid hno
          obtain ⟨rn, hrn⟩ : ∃ rn : Bool, rn = true ↔ n = 0 ∧ s.toList = [] ∧ l.length = 0 ∧ KeysOK m := by
            classical
            exact ⟨decide (n = 0 ∧ s.toList = [] ∧ l.length = 0 ∧ KeysOK m), by rw [decide_eq_true_iff]⟩
          have HRN := Lib.hid hrn
          clear hno hrn
          have g1 : decide ((5 : Int) < 0) = false := by decide
          have g2 : decide ((6 : Int) ≤ 5) = false := by decide
          go_region_held3 (fun x => x.cell? ⟨w.heap.size, 0, none⟩ = some (.int .i64 5) ∧ x.cell? ⟨w.heap.size, 1, none⟩ = some (.int .i64 n) ∧ x.cell? ⟨w.heap.size, 2, none⟩ = some (.string s) ∧ x.cell? ⟨w.heap.size, 3, none⟩ = some (.slice aol l.length capl) ∧ x.cell? ⟨w.heap.size, 4, none⟩ = some (.slice aom m.length capm) ∧ x.cell? ⟨w.heap.size + 1, 0, none⟩ = some (.slice (some ⟨Bt, 0, none⟩) 6 6) ∧ x.cell? ⟨Bt, 5, none⟩ = some (.func (.func 60) #[] #[]) ∧ Below W4.heap.size W4 x)
            (first | exact ⟨x0, x1, x2, x3, x4, y0, t5, (Below.refl _ _).drew⟩ | exact ⟨by assumption, by assumption, by assumption, by assumption, by assumption, by assumption, by assumption, by assumption⟩)
            (first | (go_at_call 60; refine (map_any m cm _ _ _ _ _ _ _ _ HRM.out HKE.out HFM.out _ HBN4.out.drew (by simp; omega) rn (HRN.out)).mono ?_; rintro e w1 ⟨rfl, hb0⟩; have hb1 : Below W4.heap.size W4 w1 := (Below.refl _ W4).drew.trans hb0; clear hb0; have hst1 := HST.out.keep hb1; obtain ⟨u0, u1, u2, u3, u4⟩ := c5of hst1.v; have v0 := c1of hst1.t; have tt := (tabof hst1.tab).2.2.2.2.2))
          have hz1 := hb1.size
          have HBW1 := Lib.hid (show Below w.heap.size w w1 from HB4.out.trans (hb1.mono HB4.out.size))
          have HST1 := Lib.hid hst1
          have w0' := c1of hst1.l
          have r1 := hst1.r.cell
          have rf1 := hst1.r.frozen
          clear x0 x1 x2 x3 x4 y0 z0 r0 rf t0 t1 t2 t3 t4 t5 tt g1 g2 hb1
          cases rn with
          | false =>
            have hrf : r = false := HNOK.out (by rw [HNO.out, ← HRN.out]; simp)
            have HRF := Lib.hid hrf
            clear hrf hst1
            go_wp2
            have hc : (w1.setCell ⟨w.heap.size + 1 + 1 + 1, 0, none⟩ (.bool false)).cell? ⟨w.heap.size + 1 + 1 + 1, 0, none⟩ = some (.bool false) := World.cell?_setCell_same' _ _ _ (by rw [r1]; rfl)
            exact ⟨.bool false, by simp [results, Try.f32, go_sem, hc], by rw [HRF.out], (HBW1.out.setCell (p := ⟨w.heap.size + 1 + 1 + 1, 0, none⟩) (by simp; omega) _)⟩
          | true =>
            have HOK := Lib.hid (HNO.out.2 (HRN.out.1 rfl))
            by_cases hL0 : L = 0
            · subst hL0
              have hrf : r = false := by
                rw [← Bool.not_eq_true, HR.out]
                intro h
                have := h.2
                simp [VT.k] at this
              obtain rfl : lv = 0 := by have := HLV.out; omega
              have HRF := Lib.hid hrf
              clear hrf
              go_wp2_with fail
              refine (nests_any _ _ _ _ _ _ true (by decide)).mono ?_
              rintro e w' ⟨rfl, rfl⟩
              have hB5 : Below w1.heap.size w1 (w1.alloc (.cells #[.int .i64 5, .int .i64 n, .string s, .slice aol l.length capl, .slice aom m.length capm] 26)) := (Below.refl _ w1).alloc (Nat.le_refl _) _
              have hst5 := HST1.out.keep hB5
              generalize (w1.alloc (.cells #[.int .i64 5, .int .i64 n, .string s, .slice aol l.length capl, .slice aom m.length capm] 26)) = W5 at hB5 hst5 ⊢
              have s5 := c1of hst5.l
              have r2 := hst5.r.cell
              have rf2 := hst5.r.frozen
              go_wp2
              have hc : (W5.setCell ⟨w.heap.size + 1 + 1 + 1, 0, none⟩ (.bool false)).cell? ⟨w.heap.size + 1 + 1 + 1, 0, none⟩ = some (.bool false) := World.cell?_setCell_same' _ _ _ (by rw [r2]; rfl)
              exact ⟨.bool false, by simp [results, Try.f32, go_sem, hc], by rw [HRF.out], ((HBW1.out.trans (hB5.mono HBW1.out.size)).setCell (p := ⟨w.heap.size + 1 + 1 + 1, 0, none⟩) (by simp; omega) _)⟩
            · obtain ⟨L, rfl⟩ : ∃ L', L = L' + 1 := ⟨L - 1, by omega⟩
              have hlv0 : (lv == 0) = false := by have := HLV.out; simp; omega
              have hlv1 : lv ≤ 1000 := by have := HLV.out; omega
              have hlv2 : 1 ≤ lv := by have := HLV.out; omega
              have hiff : r = true ↔ ∀ i (h : i < m.length), Vld L m[i].2 := by
                rw [HR.out]
                constructor
                · intro h; exact h.2.2 rfl
                · intro h; exact ⟨HOK.out, fun h => by simp at h, fun _ => h⟩
              have HIFF := Lib.hid hiff
              clear hiff hL0
              go_wp2_with fail
              refine (nests_any _ _ _ _ _ _ true (by decide)).mono ?_
              rintro e w' ⟨rfl, rfl⟩
              have hB5 : Below w1.heap.size w1 (w1.alloc (.cells #[.int .i64 5, .int .i64 n, .string s, .slice aol l.length capl, .slice aom m.length capm] 26)) := (Below.refl _ w1).alloc (Nat.le_refl _) _
              have hsz5 : (w1.alloc (.cells #[.int .i64 5, .int .i64 n, .string s, .slice aol l.length capl, .slice aom m.length capm] 26)).heap.size = w1.heap.size + 1 := by simp
              have hst5 := HST1.out.keep hB5
              generalize (w1.alloc (.cells #[.int .i64 5, .int .i64 n, .string s, .slice aol l.length capl, .slice aom m.length capm] 26)) = W5 at hB5 hsz5 hst5 ⊢
              obtain ⟨s0, s1, s2, s3, s4⟩ := c5of hst5.v
              have s5 := c1of hst5.l
              go_wp2_with fail
              refine (within_any _ _ _ _ _ _ rfl _).mono ?_
              rintro e w' ⟨rfl, rfl⟩
              clear s0 s1 s2 s3 s4
              have hB6 : Below w1.heap.size w1 (W5.alloc (.cells #[.int .i64 5, .int .i64 n, .string s, .slice aol l.length capl, .slice aom m.length capm] 26)) := hB5.alloc hB5.size _
              have hsz6 : (W5.alloc (.cells #[.int .i64 5, .int .i64 n, .string s, .slice aol l.length capl, .slice aom m.length capm] 26)).heap.size = w1.heap.size + 2 := by simp; omega
              have q0 := (fun X : World => (by simp : (X.alloc (.cells #[.int .i64 5, .int .i64 n, .string s, .slice aol l.length capl, .slice aom m.length capm] 26)).cell? ⟨X.heap.size, 0, none⟩ = some (.int .i64 5))) W5
              have q3 := (fun X : World => (by simp : (X.alloc (.cells #[.int .i64 5, .int .i64 n, .string s, .slice aol l.length capl, .slice aom m.length capm] 26)).cell? ⟨X.heap.size, 4, none⟩ = some (.slice aom m.length capm))) W5
              rw [hsz5] at q0 q3 ⊢
              generalize (W5.alloc (.cells #[.int .i64 5, .int .i64 n, .string s, .slice aol l.length capl, .slice aom m.length capm] 26)) = W6 at hB6 hsz6 q0 q3 ⊢
              have hst6 := HST1.out.keep hB6
              have hBw6 : Below w.heap.size w W6 := HBW1.out.trans (hB6.mono HBW1.out.size)
              go_wp2_with fail
              refine (wpIn_wide (n := 9)).1 ?_
              have hrow := HRM.out.below (HW.out.trans (hBw6.mono hz))
              refine wpIn_rangeFunc_ownH rfl (by decide) (gf := 66) (lb := #[.pointer (some ⟨w1.heap.size + 1, 0, none⟩)]) rfl trivial (enters_of Try.func66 (by kernel_rfl) rfl)
                (within_map 8 (by decide) (w1.heap.size + 1) n₀ m.length capm aom cm W6 (by omega) (by omega) q0 q3 hrow (by omega) (fun i hi => ⟨HFM.out i hi, _, (HKE.out i hi).1⟩)) KpB.t (KpB.b (by omega) (by omega)) (Below.refl _ _) (fun _ => rfl)
                (fun pre W => VSt w.heap.size Bt lv (.int .i64 5) (.int .i64 n) (.string s) (.slice aol l.length capl) (.slice aom m.length capm) W ∧ Below w.heap.size w W ∧ w1.heap.size + 2 ≤ W.heap.size ∧ ∀ x ∈ pre, Vld L (m[x.1].2))
                (fun c _ W => VSt w.heap.size Bt lv (.int .i64 5) (.int .i64 n) (.string s) (.slice aol l.length capl) (.slice aom m.length capm) W ∧ Below w.heap.size w W ∧ c = .ret ∧ r = false)
                (OwnFrom.and (Own.from (VSt.own _ _ _ _ _ _ _ _) _) (OwnFrom.and (ownFrom_below (Nat.le_refl _) (by omega)) (OwnFrom.and (fun _ _ _ _ hs hg _ => Nat.le_trans hs hg.size) (ownFrom_pure _ _))))
                (fun c => OwnFrom.and (Own.from (VSt.own _ _ _ _ _ _ _ _) _) (OwnFrom.and (ownFrom_below (Nat.le_refl _) (by omega)) (fun _ _ _ _ hs _ _ => hs)))
                ⟨hst6, hBw6, by omega, fun _ h => by cases h⟩
                (fun x a' W => ∃ Bx, w1.heap.size + 1 < Bx ∧ W.heap[Bx]? = some (.cells #[cm x 1, cm x 2, cm x 3, cm x 4, cm x 5] 26 (0, 0)) ∧ a' = { tmps := #[.agg #[.int .i64 5, .int .i64 n, .string s, .slice aol l.length capl, .slice aom m.length capm], .slice (some ⟨Bt, 0, none⟩) 6 6, .int .i64 lv, .pointer (some ⟨w.heap.size, 0, none⟩), .pointer (some ⟨w.heap.size + 1, 0, none⟩), .pointer (some ⟨w.heap.size + 1 + 1, 0, none⟩), .pointer (some ⟨w.heap.size + 1 + 1 + 1, 0, none⟩), .pointer (some ⟨Bx, 0, none⟩), .pointer (some ⟨w.heap.size, 0, none⟩), .int .i64 5, .bool false, .bool false, .pointer (some ⟨w.heap.size, 0, none⟩), .int .i64 5, .slice (some ⟨Bt, 0, none⟩) 6 6, .int .i64 6, .bool false, .bool false, .bool false, .slice (some ⟨Bt, 0, none⟩) 6 6, .pointer (some ⟨w.heap.size, 0, none⟩), .int .i64 5, .pointer (some ⟨Bt, 5, none⟩), .func (.func 60) #[] #[], .agg #[.int .i64 5, .int .i64 n, .string s, .slice aol l.length capl, .slice aom m.length capm], .bool true, .bool false, .bool false, .agg #[.int .i64 5, .int .i64 n, .string s, .slice aol l.length capl, .slice aom m.length capm], .bool true, .bool true, .int .i64 lv, .bool false, .bool false, .agg #[.int .i64 5, .int .i64 n, .string s, .slice aol l.length capl, .slice aom m.length capm], .func (.func 66) #[] #[.pointer (some ⟨w1.heap.size + 1, 0, none⟩)], .agg #[cm x 1, cm x 2, cm x 3, cm x 4, cm x 5], undef, undef, undef, undef, undef, undef], defers := [] })
                (fun x a' _ X Y row hs hg hr => by
                  obtain ⟨Bx, h1, h2, h3⟩ := hs
                  exact ⟨Bx, h1, heap_own Bx _ _ _ () X Y row h2 hg (fun r e => (hr r e).2), h3⟩)
                ?assign ?body ?done ?stop
              case assign =>
                rintro lo pre x W K ⟨st1, hB1, hs1, hv1⟩ hK
                obtain ⟨kk, nn, ss, a1, l1, p1, a2, l2, p2, e0, e1, e2, e3, e4⟩ := HFM.out x x.2
                simp only [Nat.reduceAdd] at e0 e1 e2 e3 e4
                simp only [e0, e1, e2, e3, e4] at hK ⊢
                gi_wp2
                exact hK _ _ ((KeepsOthers.alloc _ _).from _) ⟨(Below.refl _ W).alloc (by omega) _, Below.heap_alloc _ _ _ (by omega)⟩ ⟨st1.keep ((Below.refl _ W).alloc (Nat.le_refl _) _), hB1.alloc hB1.size _, by simp; omega, hv1⟩ ⟨W.heap.size, by omega, World.alloc_heap_new W _, rfl⟩
              case body =>
                rintro lo pre x a' W hlo ⟨rr, hr⟩ ⟨st1, hB1, hs1, hv1⟩ ⟨Bx, hBx, bX, rfl⟩ hlt
                have hBxs : Bx < W.heap.size := lt_of_block bX
                obtain ⟨x0, x1, x2, x3, x4⟩ := c5of bX
                have y0 := c1of st1.t
                have z0 := c1of st1.l
                have HST2 := Lib.hid st1
                have HB2 := Lib.hid hB1
                have HV2 := Lib.hid hv1
                have HBN := Lib.hid (show Below n₀ w0 W from HW.out.trans (hB1.mono hz))
                have IHX := Lib.hid (IHM.out x x.2)
                clear bX st1 hB1 hv1
                by_cases hx : Vld L (m[x.1].2)
                · have HX := Lib.hid hx
                  clear hx
                  gi_wp2_with (refine ⟨trivial, ?_⟩; gi_at_call 32; refine (CallsIn.inRound lo (callsIn_wide.2 (IHX.out _ HBN.out (by omega) Bt HST2.out.tab L (by omega) _ (by have := HLV.out; omega) true (by simp [HX.out])))).mono ?_; rintro e w' ⟨rfl, hb⟩)
                  exact ⟨keepsFrom_below hb, ⟨hb.mono (by omega), hb.block _ (by omega)⟩, HST2.out.keep hb, HB2.out.trans (hb.mono (by omega)), by have := hb.size; omega, fun y hy => (List.mem_append.1 hy).elim (HV2.out y) (fun e => by simp at e; subst e; exact HX.out)⟩
                · have HX := Lib.hid hx
                  have hrf : r = false := by
                    rw [← Bool.not_eq_true, HIFF.out]
                    exact fun h => hx (h x.1 x.2)
                  have HRF := Lib.hid hrf
                  clear hx hrf
                  gi_wp2_with (refine ⟨trivial, ?_⟩; gi_at_call 32; refine (CallsIn.inRound lo (callsIn_wide.2 (IHX.out _ HBN.out (by omega) Bt HST2.out.tab L (by omega) _ (by have := HLV.out; omega) false (by simp [HX.out])))).mono ?_; rintro e w' ⟨rfl, hb⟩; have hst3 := HST2.out.keep hb; have rc := hst3.r.cell; have rfz := hst3.r.frozen)
                  exact ⟨(keepsFrom_below hb).trans ((KeepsOthers.setCell _ _ _).from _), ⟨(VSt.put hst3 : _), (HB2.out.trans (hb.mono (by omega))).setCell (p := ⟨w.heap.size + 1 + 1 + 1, 0, none⟩) (by simp; omega) _, rfl, HRF.out⟩⟩
              case done =>
                rintro D ys W hD rfl ⟨stD, hBd, hs1, hv1⟩ hK
                have rc := stD.r.cell
                have rfz := stD.r.frozen
                have hrt : r = true := HIFF.out.2 (fun i hi => hv1 ⟨i, hi⟩ (List.mem_finRange _))
                have HRT := Lib.hid hrt
                clear hrt
                go_wp2
                have hK' := (KeepsOthers.setCell W ⟨w.heap.size + 1 + 1 + 1, 0, none⟩ (.bool true)).same D _ hK rfl
                refine ⟨by simp, .inl ⟨_, _, rfl, run_takeDeferred hK', ?_⟩⟩
                have hc5 := cell_kept (World.cell?_setCell_same' W ⟨w.heap.size + 1 + 1 + 1, 0, none⟩ (.bool true) (by rw [stD.r.cell]; rfl)) (grownBy_putObj' _ D (.deferred none)) (fun r e => by cases e; exact ⟨_, hK', rfl⟩)
                refine ⟨.bool true, by simp [results, Try.f32, go_sem, hc5], by rw [HRT.out], (hBd.setCell (p := ⟨w.heap.size + 1 + 1 + 1, 0, none⟩) (by simp; omega) _).trans (belowK_b (w := w) (Nat.le_refl _) _ D _ _ (by omega) hK' rfl rfl)⟩
              case stop =>
                rintro D c pre W hD _ ⟨stD, hBd, rfl, hrf⟩ hK
                have HRF := Lib.hid hrf
                clear hrf
                have rc := stD.r.cell
                gi_wp2
                refine ⟨by simp, .inl ⟨_, _, rfl, run_takeDeferred hK, ?_⟩⟩
                have hc5 := cell_kept rc (grownBy_putObj' _ D (.deferred none)) (fun r e => by cases e; exact ⟨_, hK, rfl⟩)
                refine ⟨.bool false, by simp [results, Try.f32, go_sem, hc5], by rw [HRF.out], hBd.trans (belowK_b (w := w) (Nat.le_refl _) W D _ _ (by omega) hK rfl rfl)⟩
end Go.Proofs.Ythcphfpkinfjoaa
