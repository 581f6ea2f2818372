/-
  Go's merge in place, of two sorted runs of two or more members each, if it merges shorter ones.
  Conditions: none.
-/
import Derived.Test.YthcphfpkinfjoaaValSmB
namespace Go.Proofs.Ythcphfpkinfjoaa
open Go.RowKit

/-- The merge of these two runs does what it must, wherever they stand. -/
def MergesTo (enc : Nat → Nat → Value) (key : Nat → ByteArray) (N g cap len : Nat) (X Y : List Nat) : Prop :=
  ∀ (P Q : List Nat) (w : World), (∀ z ∈ P ++ (X ++ (Y ++ Q)), z < N) → RowOwn w g cap enc (P ++ (X ++ (Y ++ Q))) → (P ++ (X ++ (Y ++ Q))).length = len → ∀ a m b : Nat, a = P.length → m = P.length + X.length → b = P.length + X.length + Y.length →
    Calls Try.prog 87 #[.slice (some ⟨g, 0, none⟩) len cap, .int .i64 (a : Nat), .int .i64 (m : Nat), .int .i64 (b : Nat), .func (.func 37) #[] #[]] w fun e w' => e = .returned (.tuple #[]) ∧ But g w w' ∧ ∃ Z, Z.Perm (X ++ Y) ∧ Z.Pairwise (sl key) ∧ RowOwn w' g cap enc (P ++ (Z ++ Q))
def MergesBelow (enc : Nat → Nat → Value) (key : Nat → ByteArray) (N g cap len n : Nat) : Prop :=
  ∀ X Y : List Nat, X.length + Y.length < n → 0 < X.length → 0 < Y.length → X.Pairwise (sl key) → Y.Pairwise (sl key) → (∀ x ∈ X, ∀ y ∈ Y, x < y) → MergesTo enc key N g cap len X Y
theorem getD_far2 (P X Y Q : List Nat) (t : Nat) (ht : t < Y.length) : (P ++ (X ++ (Y ++ Q))).getD (P.length + X.length + t) 0 = Y.getD t 0 := by
  have := getD_left (P ++ X) Y Q t ht
  simpa using this
def SrchT (key : Nat → ByteArray) (X Y : List Nat) (hf lo hi s t : Nat) : Prop := (s = lo ∨ Tm key X Y hf (s - 1) = false) ∧ (t = hi ∨ Tm key X Y hf t = true)
/-- What the search leaves: both runs parted, all of the first parts less than all of the second. -/
def Parted (key : Nat → ByteArray) (X Y : List Nat) (hf s : Nat) (X1 X2 Y1 Y2 : List Nat) : Prop :=
  X = X1 ++ X2 ∧ Y = Y1 ++ Y2 ∧ X1.length = s ∧ Y1.length = hf - s ∧ s ≤ hf ∧ (∀ x ∈ X1, ∀ y ∈ Y2, sl key x y) ∧ (∀ y ∈ Y1, ∀ x ∈ X2, sl key y x)
theorem parted_of {key : Nat → ByteArray} {X Y : List Nat} {hf s : Nat} (h : s ≤ X.length ∧ s ≤ hf ∧ hf - s ≤ Y.length ∧ (∀ x ∈ X.take s, ∀ y ∈ Y.drop (hf - s), sl key x y) ∧ (∀ y ∈ Y.take (hf - s), ∀ x ∈ X.drop s, sl key y x)) : ∃ X1 X2 Y1 Y2, Parted key X Y hf s X1 X2 Y1 Y2 :=
  ⟨X.take s, X.drop s, Y.take (hf - s), Y.drop (hf - s), (List.take_append_drop _ _).symm, (List.take_append_drop _ _).symm, by rw [List.length_take]; omega, by rw [List.length_take]; omega, h.2.1, h.2.2.2.1, h.2.2.2.2⟩
theorem joined {key : Nat → ByteArray} {X Y : List Nat} {hf s : Nat} {X1 X2 Y1 Y2 Z1 Z2 : List Nat} (h : Parted key X Y hf s X1 X2 Y1 Y2) (sX : X.Pairwise (sl key)) (sY : Y.Pairwise (sl key)) (p1 : Z1.Perm (X1 ++ Y1)) (p2 : Z2.Perm (X2 ++ Y2)) (s1 : Z1.Pairwise (sl key)) (s2 : Z2.Pairwise (sl key)) : (Z1 ++ Z2).Perm (X ++ Y) ∧ (Z1 ++ Z2).Pairwise (sl key) := by
  obtain ⟨hX, hY, _, _, _, c1, c2⟩ := h
  subst hX hY
  exact ⟨(halves sX sY p1 p2 s1 s2 c1 c2).2, (halves sX sY p1 p2 s1 s2 c1 c2).1⟩
theorem or_nil_sorted {key : Nat → ByteArray} {X Y : List Nat} (h : X = [] ∨ Y = []) (sX : X.Pairwise (sl key)) (sY : Y.Pairwise (sl key)) : (X ++ Y).Pairwise (sl key) := by
  rcases h with rfl | rfl
  · simpa using sY
  · simpa using sX

set_option maxRecDepth 100000 in
set_option maxHeartbeats 4000000 in
theorem symMerge_C1 (enc : Nat → Nat → Value) (key : Nat → ByteArray) (N : Nat) (hE : Mems enc key N) (g cap len : Nat) (P X Y Q : List Nat) (w : World) (hlt : ∀ z ∈ P ++ (X ++ (Y ++ Q)), z < N) (hrow : RowOwn w g cap enc (P ++ (X ++ (Y ++ Q)))) (hlen : (P ++ (X ++ (Y ++ Q))).length = len) (hN : len ≤ 1000000)
    (sX : X.Pairwise (sl key)) (sY : Y.Pairwise (sl key)) (hXY : ∀ x ∈ X, ∀ y ∈ Y, x < y) (hX2 : 2 ≤ X.length) (hY2 : 2 ≤ Y.length) (hgt :  (X.length + Y.length) / 2 < X.length) (IH : MergesBelow enc key N g cap len (X.length + Y.length)) (a m b : Nat) (ha : a = P.length) (hm : m = P.length + X.length) (hb : b = P.length + X.length + Y.length) :
    Calls Try.prog 87 #[.slice (some ⟨g, 0, none⟩) len cap, .int .i64 (a : Nat), .int .i64 (m : Nat), .int .i64 (b : Nat), .func (.func 37) #[] #[]] w fun e w' => e = .returned (.tuple #[]) ∧ But g w w' ∧ ∃ Z, Z.Perm (X ++ Y) ∧ Z.Pairwise (sl key) ∧ RowOwn w' g cap enc (P ++ (Z ++ Q)) := by
  obtain ⟨hf, hhf⟩ : ∃ hf, hf = (X.length + Y.length) / 2 := ⟨_, rfl⟩
  rw [← hhf] at hgt
  have HL := Lib.hid hlen
  have HE := Lib.hid hE
  have HLT := Lib.hid hlt
  have HROW := Lib.hid hrow
  have HAB := Lib.hid (And.intro ha (And.intro hm hb))
  have HSX := Lib.hid (And.intro sX (And.intro sY hXY))
  have hbl : P.length + X.length + Y.length + Q.length = len := by simp at hlen; omega
  have HBL := Lib.hid hbl
  have HHF := Lib.hid hhf
  have hma : a < m := by omega
  have hmb : m < b := by omega
  have hbm : b ≤ len := by omega
  have ha9 : a ≤ 1000000 := by omega
  have hm9 : m ≤ 1000000 := by omega
  have hb9 : b ≤ 1000000 := by omega
  have q1 : (((m : Int) - (a : Int)) == 1) = false := by simp; omega
  have q2 : (((b : Int) - (m : Int)) == 1) = false := by simp; omega
  obtain ⟨mid, hmid⟩ : ∃ mid, mid = a + hf := ⟨_, rfl⟩
  have q3 : ((a : Int) + b) / 2 = (mid : Int) := by omega
  obtain ⟨nn, hnn⟩ : ∃ nn, nn = mid + m := ⟨_, rfl⟩
  have q4 : (mid : Int) + (m : Int) = (nn : Int) := by omega
  obtain ⟨pp, hpp⟩ : ∃ pp, pp = nn - 1 := ⟨_, rfl⟩
  have q5 : (nn : Int) - 1 = (pp : Int) := by omega
  obtain ⟨lo, hlo⟩ : ∃ lo, lo = hf - Y.length := ⟨_, rfl⟩
  obtain ⟨st0, hst0⟩ : ∃ st0, st0 = a + lo := ⟨_, rfl⟩
  have q6 : (nn : Int) - (b : Int) = (st0 : Int) := by omega
  have q7 : mid < m := by omega
  obtain ⟨hi, hhi⟩ : ∃ hi, hi = hf := ⟨_, rfl⟩
  have HHI := Lib.hid (show (lo = hf - Y.length ∧ hi = hf ∧ hf < X.length ∧ Y.length ≤ hf) ∨ (lo = 0 ∧ hi = X.length ∧ X.length ≤ hf ∧ hf ≤ Y.length) from .inl ⟨hlo, hhi, hgt, by omega⟩)
  have HX0 := Lib.hid (And.intro hmid (And.intro hnn (And.intro hpp (And.intro hst0 (And.intro hhi hlo)))))
  have hlohi : lo ≤ hi := by omega
  have hmidl : mid ≤ 1000000 := by omega
  have hnnl : nn ≤ 2000000 := by omega
  have hppl : pp ≤ 2000000 := by omega
  have hst0l : st0 ≤ 1000000 := by omega
  have hnn1 : 1 ≤ nn := by omega
  have HRNG := Lib.hid (show hi ≤ X.length ∧ hi ≤ hf ∧ hf ≤ lo + Y.length by omega)
  clear hlen hE hlt hrow ha hm hb sX sY hXY hbl hX2 hY2 hgt hhf hmid hnn hpp hst0 hhi hlo
  go_enter Try.func87, Try.ntmps87
  go_wp2_with fail
  go_loopw [20, 21] (fun iv jv wr => ∃ s t : Nat, lo ≤ s ∧ s ≤ t ∧ t ≤ hi ∧ iv = .int .i64 (a + s : Nat) ∧ jv = .int .i64 (a + t : Nat) ∧ SrchT key X Y hf lo hi s t ∧ RowOwn wr g cap enc (P ++ (X ++ (Y ++ Q))) ∧ But g w wr) (fun i j _ => (intOf j).toNat - (intOf i).toNat)
  case atStart => exact ⟨lo, hi, Nat.le_refl _, hlohi, Nat.le_refl _, by have := HX0.out; congr 2; omega, by have := HX0.out; have := HAB.out; congr 2; omega, ⟨.inl rfl, .inl rfl⟩, HROW.out, But.refl _ _⟩
  case round =>
    obtain ⟨s, t, hls, hst, hth, rfl, rfl, hins, hrow, hbut⟩ := hrel
    have HINS := Lib.hid hins
    have HRW := Lib.hid hrow
    have HBT := Lib.hid hbut
    have hgz := hrow.lt
    clear hins hrow hbut
    obtain ⟨i, hi'⟩ : ∃ i, i = a + s := ⟨_, rfl⟩
    obtain ⟨j, hj'⟩ : ∃ j, j = a + t := ⟨_, rfl⟩
    rw [← hi', ← hj']
    have HIJ := Lib.hid (And.intro hi' hj')
    have hjl : j ≤ m := by have := HAB.out; have := HRNG.out; omega
    by_cases hlt : s < t
    · have hij : i < j := by omega
      obtain ⟨c, hc⟩ : ∃ c : Nat, c = (i + j) / 2 := ⟨_, rfl⟩
      have hm2 : ((i : Int) + j) / 2 = (c : Int) := by omega
      have hih : i ≤ c := by omega
      have hhj : c < j := by omega
      obtain ⟨u, hu⟩ : ∃ u, u = c - a := ⟨_, rfl⟩
      have HT := Lib.hid (show c = P.length + u ∧ s ≤ u ∧ u < t ∧ u < X.length ∧ hf - 1 - u < Y.length ∧ u < hf by have := HAB.out; have := HRNG.out; omega)
      obtain ⟨pc, hpc⟩ : ∃ pc, pc = m + (hf - 1 - u) := ⟨_, rfl⟩
      have HPC := Lib.hid (show pc = P.length + X.length + (hf - 1 - u) by have := HAB.out; omega)
      have e3 : (pp : Int) - (c : Int) = (pc : Int) := by have := HX0.out; have := HT.out; have := HAB.out; omega
      have e4 : IntKind.i64.wrap ((pp : Int) - (c : Int)) = (pc : Int) := by rw [e3]; exact iw_id _ (by have := HBL.out; have := HT.out; have := HAB.out; omega)
      clear hi' hj' hc hu
      obtain ⟨x, hx⟩ : ∃ x, x = X.getD u 0 := ⟨_, rfl⟩
      obtain ⟨y, hy⟩ : ∃ y, y = Y.getD (hf - 1 - u) 0 := ⟨_, rfl⟩
      have HX := Lib.hid hx
      have HY := Lib.hid hy
      have HxN := Lib.hid (show x < N from HLT.out x (by rw [hx]; exact List.mem_append_right _ (List.mem_append_left _ (getD_mem HT.out.2.2.2.1))))
      have HyN := Lib.hid (show y < N from HLT.out y (by rw [hy]; exact List.mem_append_right _ (List.mem_append_right _ (List.mem_append_left _ (getD_mem HT.out.2.2.2.2.1)))))
      have g7 : pc < len := by have := HBL.out; have := HT.out; have := HAB.out; omega
      clear hx hy hpc
      obtain ⟨ek, en, es, ea, el, ep, eb, em, eq, eE, x0, x1, x2, x3, x4, x5⟩ := HRW.out.open6 HE.out (show c < _ by have := HBL.out; have := HAB.out; have := HT.out; simp; omega) (by rw [HT.out.1, getD_left _ _ _ _ HT.out.2.2.2.1]; exact HX.out.symm) HxN.out
      have HeE := Lib.hid eE
      clear eE
      obtain ⟨fk, fn, fs, fa, fl, fp, fb, fm, fq, fE, y0, y1, y2, y3, y4, y5⟩ := HRW.out.open6 HE.out (show pc < _ by have := HBL.out; have := HAB.out; simp; omega) (by rw [HPC.out, getD_far2 _ _ _ _ _ HT.out.2.2.2.2.1]; exact HY.out.symm) HyN.out
      have HfE := Lib.hid fE
      clear fE
      have HCMP := Lib.hid (@cmp_neg (key y) (key x))
      generalize hcp : cmpS (key y) (key x) = cp at HCMP
      have HCP := Lib.hid hcp
      have HLTC := Lib.hid (show ltS (key y) (key x) = decide (cp < 0) by rw [Bool.eq_iff_iff, decide_eq_true_eq]; exact HCMP.out.symm)
      clear hcp
      have HC := Lib.hid (fun p : KidOf wr => (byKey_any (key y) (key x) (.int .i64 fk) (.int .i64 fn) (.string fs) (.slice fa fl fp) (.slice fb fm fq) (.int .i64 ek) (.int .i64 en) (.string es) (.slice ea el ep) (.slice eb em eq) p.x).mono (R' := fun e w' => e = .returned (.int .i64 cp) ∧ Below p.x.heap.size p.x w') (fun e w' h => ⟨by rw [← HCP.out]; exact h.1, h.2⟩))
      have kx0 := fun p => KidOf.cell hgz x0 p
      have ky0 := fun p => KidOf.cell hgz y0 p
      have kx1 := fun p => KidOf.cell hgz x1 p
      have ky1 := fun p => KidOf.cell hgz y1 p
      have kx2 := fun p => KidOf.cell hgz x2 p
      have ky2 := fun p => KidOf.cell hgz y2 p
      have kx3 := fun p => KidOf.cell hgz x3 p
      have ky3 := fun p => KidOf.cell hgz y3 p
      have kx4 := fun p => KidOf.cell hgz x4 p
      have ky4 := fun p => KidOf.cell hgz y4 p
      have kx5 := fun p => KidOf.cell hgz x5 p
      have ky5 := fun p => KidOf.cell hgz y5 p
      have HTM := Lib.hid (show Tm key X Y hf u = decide (cp < 0) by unfold Tm; rw [← HX.out, ← HY.out]; exact HLTC.out)
      have g4 : c < len := by omega
      have g5 : (c : Int) < (len : Int) := by omega
      have g6 : (pc : Int) < (len : Int) := by omega
      by_cases hneg : cp < 0
      · have hd : decide (cp < 0) = true := by simpa using hneg
        go_wp2_with fail
        refine wp_region_below (by kernel_rfl) (by kernel_rfl) ?_
        repeat (go_big_quiet_step (first | (go_at_call 37; exact Calls.below_of (HC.out _))))
        refine wpQuiet_nil ?_
        rintro wz ⟨⟨_, hbz0⟩, rfl⟩
        have hbz : Below wr.heap.size wr wz := hbz0
        have HBZ := Lib.hid hbz
        clear hbz0 hbz
        clear x0 y0 kx0 ky0 x1 y1 kx1 ky1 x2 y2 kx2 ky2 x3 y3 kx3 ky3 x4 y4 kx4 ky4 x5 y5 kx5 ky5
        go_wp2
        go_roundw
        case measure => simp [intOf]; omega
        case rel =>
          exact ⟨s, u, hls, HT.out.2.1, by have := HT.out; omega, by have := HIJ.out; go_num, by have := HT.out; have := HAB.out; go_num, ⟨HINS.out.1, .inr (by rw [HTM.out]; simpa using hneg)⟩, HRW.out.keep HBZ.out, HBT.out.trans (butOf HBZ.out)⟩
      · have hd : decide (cp < 0) = false := by simpa using hneg
        go_wp2_with fail
        refine wp_region_below (by kernel_rfl) (by kernel_rfl) ?_
        repeat (go_big_quiet_step (first | (go_at_call 37; exact Calls.below_of (HC.out _))))
        refine wpQuiet_nil ?_
        rintro wz ⟨⟨_, hbz0⟩, rfl⟩
        have hbz : Below wr.heap.size wr wz := hbz0
        have HBZ := Lib.hid hbz
        clear hbz0 hbz
        clear x0 y0 kx0 ky0 x1 y1 kx1 ky1 x2 y2 kx2 ky2 x3 y3 kx3 ky3 x4 y4 kx4 ky4 x5 y5 kx5 ky5
        go_wp2
        go_roundw
        case measure => simp [intOf]; omega
        case rel =>
          exact ⟨u + 1, t, by have := HT.out; omega, by have := HT.out; omega, hth, by have := HT.out; have := HAB.out; go_num, by have := HIJ.out; go_num, ⟨.inr (by rw [Nat.add_sub_cancel, HTM.out]; simpa using hneg), HINS.out.2⟩, HRW.out.keep HBZ.out, HBT.out.trans (butOf HBZ.out)⟩
    · have hij : ¬ i < j := by omega
      obtain rfl : s = t := by omega
      have HCR := Lib.hid (cross HSX.out.1 HSX.out.2.1 HSX.out.2.2 hf lo hi s HHI.out ⟨hls, hth⟩ HINS.out.1 HINS.out.2)
      obtain ⟨X1, X2, Y1, Y2, hpart⟩ := parted_of HCR.out
      have HPT := Lib.hid hpart
      have hXl : X.length = X1.length + X2.length := by rw [hpart.1]; simp
      have hYl : Y.length = Y1.length + Y2.length := by rw [hpart.2.1]; simp
      have HLN := Lib.hid (show X1.length = s ∧ Y1.length = hf - s ∧ s ≤ hf ∧ X.length = X1.length + X2.length ∧ Y.length = Y1.length + Y2.length from ⟨hpart.2.2.1, hpart.2.2.2.1, hpart.2.2.2.2.1, hXl, hYl⟩)
      have HSO := Lib.hid (show (X1.Pairwise (sl key) ∧ X2.Pairwise (sl key)) ∧ (Y1.Pairwise (sl key) ∧ Y2.Pairwise (sl key)) by
        have h1 := HSX.out.1
        have h2 := HSX.out.2.1
        rw [hpart.1, List.pairwise_append] at h1
        rw [hpart.2.1, List.pairwise_append] at h2
        exact ⟨⟨h1.1, h1.2.1⟩, h2.1, h2.2.1⟩)
      have HLE := Lib.hid (show (∀ x ∈ X1, ∀ y ∈ Y1, x < y) ∧ (∀ x ∈ X2, ∀ y ∈ Y2, x < y) by
        have h1 := HSX.out.2.2
        rw [hpart.1, hpart.2.1] at h1
        exact ⟨fun x hx y hy => h1 x (by simp [hx]) y (by simp [hy]), fun x hx y hy => h1 x (by simp [hx]) y (by simp [hy])⟩)
      have HRW1 := Lib.hid (show RowOwn wr g cap enc (P ++ (X1 ++ (X2 ++ (Y1 ++ (Y2 ++ Q))))) by
        have h1 := HRW.out
        rw [hpart.1, hpart.2.1] at h1
        simpa using h1)
      have HMEM := Lib.hid (show ∀ z ∈ P ++ (X1 ++ (X2 ++ (Y1 ++ (Y2 ++ Q)))), z < N by
        have h1 := HLT.out
        rw [hpart.1, hpart.2.1] at h1
        simpa using h1)
      obtain ⟨en, hen⟩ : ∃ en, en = m + (hf - s) := ⟨_, rfl⟩
      have e5 : (nn : Int) - (i : Int) = (en : Int) := by have := HX0.out; have := HLN.out; omega
      have HEN := Lib.hid hen
      clear hpart hXl hYl hen hi' hj'
      by_cases hro : i < m ∧ m < en
      · obtain ⟨hro1, hro2⟩ := hro
        go_wp2_with fail
        refine (rotate_any enc key N HE.out g cap len (P ++ X1) X2 Y1 (Y2 ++ Q) _ (by have := HMEM.out; simpa using this) (by have := HRW1.out; simpa using this) (by have := HLN.out; have := HBL.out; simp; omega) hN (by have := HLN.out; have := HIJ.out; have := HAB.out; omega) (by have := HLN.out; have := HEN.out; omega) (i : Nat) (m : Nat) (en : Nat) (by have := HLN.out; have := HIJ.out; have := HAB.out; simp; omega) (by have := HLN.out; have := HIJ.out; have := HAB.out; simp; omega) (by have := HLN.out; have := HEN.out; have := HAB.out; simp; omega) _).mono ?_
        rintro e w1 ⟨rfl, hb1, hrow1⟩
        have HRWa := Lib.hid (show RowOwn w1 g cap enc (P ++ (X1 ++ (Y1 ++ (X2 ++ (Y2 ++ Q))))) by simpa using hrow1)
        have HBTa := Lib.hid (HBT.out.trans hb1)
        clear hrow1 hb1 HRW1 HBT
        have HRW1 := HRWa
        have HBT := HBTa
        by_cases hl1 : a < i ∧ i < mid
        · obtain ⟨hl2, hl3⟩ := hl1
          go_wp2_with fail
          refine (IH X1 Y1 (by have := HLN.out; have := HEN.out; have := HAB.out; have := HX0.out; have := HHF.out; omega) (by have := HLN.out; have := HIJ.out; omega) (by have := HLN.out; have := HIJ.out; have := HX0.out; omega) HSO.out.1.1 HSO.out.2.1 HLE.out.1 P ((X2 ++ Y2) ++ Q) _ (by
            intro z hz
            refine HMEM.out z ?_
            simp only [List.mem_append] at hz ⊢
            rcases hz with h | h | h | (h | h) | h <;> simp [h]) (by have := HRW1.out; simpa using this) (by have := HLN.out; have := HBL.out; simp; omega) a i mid (by have := HAB.out; omega) (by have := HLN.out; have := HIJ.out; have := HAB.out; omega) (by have := HLN.out; have := HX0.out; have := HAB.out; omega)).mono ?_
          rintro e w2 ⟨rfl, hb2, Z1, hp2, hs2, hrow2⟩
          have HZ1 := Lib.hid (And.intro hp2 hs2)
          have HRW2 := Lib.hid (show RowOwn w2 g cap enc (P ++ (Z1 ++ (X2 ++ (Y2 ++ Q)))) by simpa using hrow2)
          have HBT2 := Lib.hid (HBT.out.trans hb2)
          clear hp2 hs2 hrow2 hb2 HRW1 HBT
          have HBT := HBT2
          by_cases hr1 : mid < en ∧ en < b
          · obtain ⟨hr2, hr3⟩ := hr1
            go_wp2_with fail
            refine (IH X2 Y2 (by have := HLN.out; have := HEN.out; have := HAB.out; have := HX0.out; omega) (by have := HLN.out; have := HEN.out; have := HAB.out; have := HX0.out; omega) (by have := HLN.out; have := HEN.out; have := HAB.out; have := HX0.out; omega) HSO.out.1.2 HSO.out.2.2 HLE.out.2 (P ++ Z1) Q _ (by
              intro z hz
              refine HMEM.out z ?_
              simp only [List.mem_append] at hz ⊢
              have h1 := HZ1.out.1.mem_iff (a := z)
              simp only [List.mem_append] at h1
              rw [h1] at hz
              rcases hz with (h | h | h) | h | h | h <;> simp [h]) (by have := HRW2.out; simpa using this) (by have h1 := HZ1.out.1.length_eq; have := HLN.out; have := HBL.out; simp at h1 ⊢; omega) mid en b (by have h1 := HZ1.out.1.length_eq; have := HLN.out; have := HX0.out; have := HAB.out; simp at h1 ⊢; omega) (by have h1 := HZ1.out.1.length_eq; have := HLN.out; have := HEN.out; have := HX0.out; have := HAB.out; simp at h1 ⊢; omega) (by have h1 := HZ1.out.1.length_eq; have := HLN.out; have := HEN.out; have := HX0.out; have := HAB.out; simp at h1 ⊢; omega)).mono ?_
            rintro e w3 ⟨rfl, hb3, Z2, hp3, hs3, hrow3⟩
            have HZ2 := Lib.hid (And.intro hp3 hs3)
            have HRW3 := Lib.hid (show RowOwn w3 g cap enc (P ++ (Z1 ++ (Z2 ++ Q))) by simpa using hrow3)
            have HBT3 := Lib.hid (HBT.out.trans hb3)
            clear hp3 hs3 hrow3 hb3 HRW2 HBT
            have HRW2 := HRW3
            have HBT := HBT3
            go_wp2
            go_end0
            obtain ⟨p3, s3⟩ := joined HPT.out HSX.out.1 HSX.out.2.1 HZ1.out.1 HZ2.out.1 HZ1.out.2 HZ2.out.2
            exact ⟨rfl, HBT.out, Z1 ++ Z2, p3, s3, by simpa using HRW2.out⟩
          · have HZ2 := Lib.hid (show (X2 ++ Y2).Perm (X2 ++ Y2) ∧ (X2 ++ Y2).Pairwise (sl key) from ⟨List.Perm.refl _, or_nil_sorted (by
              rcases Nat.lt_or_ge mid en with h | h
              · exact .inr (List.eq_nil_of_length_eq_zero (by have := HLN.out; have := HEN.out; have := HAB.out; have := HX0.out; omega))
              · exact .inl (List.eq_nil_of_length_eq_zero (by have := HLN.out; have := HEN.out; have := HAB.out; have := HX0.out; omega))) HSO.out.1.2 HSO.out.2.2⟩)
            obtain ⟨Z2, hZ2⟩ : ∃ Z2, Z2 = X2 ++ Y2 := ⟨_, rfl⟩
            have HRW3 := Lib.hid (show RowOwn w2 g cap enc (P ++ (Z1 ++ (Z2 ++ Q))) by have := HRW2.out; rw [hZ2]; simpa using this)
            have HZ3 := Lib.hid (show Z2.Perm (X2 ++ Y2) ∧ Z2.Pairwise (sl key) by rw [hZ2]; exact HZ2.out)
            clear HRW2 HZ2
            have HRW2 := HRW3
            have HZ2 := HZ3
            clear hZ2
            by_cases hr2 : mid < en
            · have hr3 : ¬ en < b := by omega
              clear hr1
              go_wp2
              go_end0
              obtain ⟨p3, s3⟩ := joined HPT.out HSX.out.1 HSX.out.2.1 HZ1.out.1 HZ2.out.1 HZ1.out.2 HZ2.out.2
              exact ⟨rfl, HBT.out, Z1 ++ Z2, p3, s3, by simpa using HRW2.out⟩
            · clear hr1
              go_wp2
              go_end0
              obtain ⟨p3, s3⟩ := joined HPT.out HSX.out.1 HSX.out.2.1 HZ1.out.1 HZ2.out.1 HZ1.out.2 HZ2.out.2
              exact ⟨rfl, HBT.out, Z1 ++ Z2, p3, s3, by simpa using HRW2.out⟩
        · have HZ0 := Lib.hid (show (X1 ++ Y1).Perm (X1 ++ Y1) ∧ (X1 ++ Y1).Pairwise (sl key) from ⟨List.Perm.refl _, or_nil_sorted (by
            rcases Nat.lt_or_ge a i with h | h
            · exact .inr (List.eq_nil_of_length_eq_zero (by have := HLN.out; have := HIJ.out; have := HX0.out; omega))
            · exact .inl (List.eq_nil_of_length_eq_zero (by have := HLN.out; have := HIJ.out; omega))) HSO.out.1.1 HSO.out.2.1⟩)
          obtain ⟨Z1, hZ1⟩ : ∃ Z1, Z1 = X1 ++ Y1 := ⟨_, rfl⟩
          have HRW2 := Lib.hid (show RowOwn w1 g cap enc (P ++ (Z1 ++ (X2 ++ (Y2 ++ Q)))) by have := HRW1.out; rw [hZ1]; simpa using this)
          have HZ1 := Lib.hid (show Z1.Perm (X1 ++ Y1) ∧ Z1.Pairwise (sl key) by rw [hZ1]; exact HZ0.out)
          clear hZ1 HZ0 HRW1
          by_cases hl2 : a < i
          · have hl3 : ¬ i < mid := by omega
            clear hl1
            by_cases hr1 : mid < en ∧ en < b
            · obtain ⟨hr2, hr3⟩ := hr1
              go_wp2_with fail
              refine (IH X2 Y2 (by have := HLN.out; have := HEN.out; have := HAB.out; have := HX0.out; omega) (by have := HLN.out; have := HEN.out; have := HAB.out; have := HX0.out; omega) (by have := HLN.out; have := HEN.out; have := HAB.out; have := HX0.out; omega) HSO.out.1.2 HSO.out.2.2 HLE.out.2 (P ++ Z1) Q _ (by
                intro z hz
                refine HMEM.out z ?_
                simp only [List.mem_append] at hz ⊢
                have h1 := HZ1.out.1.mem_iff (a := z)
                simp only [List.mem_append] at h1
                rw [h1] at hz
                rcases hz with (h | h | h) | h | h | h <;> simp [h]) (by have := HRW2.out; simpa using this) (by have h1 := HZ1.out.1.length_eq; have := HLN.out; have := HBL.out; simp at h1 ⊢; omega) mid en b (by have h1 := HZ1.out.1.length_eq; have := HLN.out; have := HX0.out; have := HAB.out; simp at h1 ⊢; omega) (by have h1 := HZ1.out.1.length_eq; have := HLN.out; have := HEN.out; have := HX0.out; have := HAB.out; simp at h1 ⊢; omega) (by have h1 := HZ1.out.1.length_eq; have := HLN.out; have := HEN.out; have := HX0.out; have := HAB.out; simp at h1 ⊢; omega)).mono ?_
              rintro e w3 ⟨rfl, hb3, Z2, hp3, hs3, hrow3⟩
              have HZ2 := Lib.hid (And.intro hp3 hs3)
              have HRW3 := Lib.hid (show RowOwn w3 g cap enc (P ++ (Z1 ++ (Z2 ++ Q))) by simpa using hrow3)
              have HBT3 := Lib.hid (HBT.out.trans hb3)
              clear hp3 hs3 hrow3 hb3 HRW2 HBT
              have HRW2 := HRW3
              have HBT := HBT3
              go_wp2
              go_end0
              obtain ⟨p3, s3⟩ := joined HPT.out HSX.out.1 HSX.out.2.1 HZ1.out.1 HZ2.out.1 HZ1.out.2 HZ2.out.2
              exact ⟨rfl, HBT.out, Z1 ++ Z2, p3, s3, by simpa using HRW2.out⟩
            · have HZ2 := Lib.hid (show (X2 ++ Y2).Perm (X2 ++ Y2) ∧ (X2 ++ Y2).Pairwise (sl key) from ⟨List.Perm.refl _, or_nil_sorted (by
                rcases Nat.lt_or_ge mid en with h | h
                · exact .inr (List.eq_nil_of_length_eq_zero (by have := HLN.out; have := HEN.out; have := HAB.out; have := HX0.out; omega))
                · exact .inl (List.eq_nil_of_length_eq_zero (by have := HLN.out; have := HEN.out; have := HAB.out; have := HX0.out; omega))) HSO.out.1.2 HSO.out.2.2⟩)
              obtain ⟨Z2, hZ2⟩ : ∃ Z2, Z2 = X2 ++ Y2 := ⟨_, rfl⟩
              have HRW3 := Lib.hid (show RowOwn w1 g cap enc (P ++ (Z1 ++ (Z2 ++ Q))) by have := HRW2.out; rw [hZ2]; simpa using this)
              have HZ3 := Lib.hid (show Z2.Perm (X2 ++ Y2) ∧ Z2.Pairwise (sl key) by rw [hZ2]; exact HZ2.out)
              clear HRW2 HZ2
              have HRW2 := HRW3
              have HZ2 := HZ3
              clear hZ2
              by_cases hr2 : mid < en
              · have hr3 : ¬ en < b := by omega
                clear hr1
                go_wp2
                go_end0
                obtain ⟨p3, s3⟩ := joined HPT.out HSX.out.1 HSX.out.2.1 HZ1.out.1 HZ2.out.1 HZ1.out.2 HZ2.out.2
                exact ⟨rfl, HBT.out, Z1 ++ Z2, p3, s3, by simpa using HRW2.out⟩
              · clear hr1
                go_wp2
                go_end0
                obtain ⟨p3, s3⟩ := joined HPT.out HSX.out.1 HSX.out.2.1 HZ1.out.1 HZ2.out.1 HZ1.out.2 HZ2.out.2
                exact ⟨rfl, HBT.out, Z1 ++ Z2, p3, s3, by simpa using HRW2.out⟩
          · clear hl1
            by_cases hr1 : mid < en ∧ en < b
            · obtain ⟨hr2, hr3⟩ := hr1
              go_wp2_with fail
              refine (IH X2 Y2 (by have := HLN.out; have := HEN.out; have := HAB.out; have := HX0.out; omega) (by have := HLN.out; have := HEN.out; have := HAB.out; have := HX0.out; omega) (by have := HLN.out; have := HEN.out; have := HAB.out; have := HX0.out; omega) HSO.out.1.2 HSO.out.2.2 HLE.out.2 (P ++ Z1) Q _ (by
                intro z hz
                refine HMEM.out z ?_
                simp only [List.mem_append] at hz ⊢
                have h1 := HZ1.out.1.mem_iff (a := z)
                simp only [List.mem_append] at h1
                rw [h1] at hz
                rcases hz with (h | h | h) | h | h | h <;> simp [h]) (by have := HRW2.out; simpa using this) (by have h1 := HZ1.out.1.length_eq; have := HLN.out; have := HBL.out; simp at h1 ⊢; omega) mid en b (by have h1 := HZ1.out.1.length_eq; have := HLN.out; have := HX0.out; have := HAB.out; simp at h1 ⊢; omega) (by have h1 := HZ1.out.1.length_eq; have := HLN.out; have := HEN.out; have := HX0.out; have := HAB.out; simp at h1 ⊢; omega) (by have h1 := HZ1.out.1.length_eq; have := HLN.out; have := HEN.out; have := HX0.out; have := HAB.out; simp at h1 ⊢; omega)).mono ?_
              rintro e w3 ⟨rfl, hb3, Z2, hp3, hs3, hrow3⟩
              have HZ2 := Lib.hid (And.intro hp3 hs3)
              have HRW3 := Lib.hid (show RowOwn w3 g cap enc (P ++ (Z1 ++ (Z2 ++ Q))) by simpa using hrow3)
              have HBT3 := Lib.hid (HBT.out.trans hb3)
              clear hp3 hs3 hrow3 hb3 HRW2 HBT
              have HRW2 := HRW3
              have HBT := HBT3
              go_wp2
              go_end0
              obtain ⟨p3, s3⟩ := joined HPT.out HSX.out.1 HSX.out.2.1 HZ1.out.1 HZ2.out.1 HZ1.out.2 HZ2.out.2
              exact ⟨rfl, HBT.out, Z1 ++ Z2, p3, s3, by simpa using HRW2.out⟩
            · have HZ2 := Lib.hid (show (X2 ++ Y2).Perm (X2 ++ Y2) ∧ (X2 ++ Y2).Pairwise (sl key) from ⟨List.Perm.refl _, or_nil_sorted (by
                rcases Nat.lt_or_ge mid en with h | h
                · exact .inr (List.eq_nil_of_length_eq_zero (by have := HLN.out; have := HEN.out; have := HAB.out; have := HX0.out; omega))
                · exact .inl (List.eq_nil_of_length_eq_zero (by have := HLN.out; have := HEN.out; have := HAB.out; have := HX0.out; omega))) HSO.out.1.2 HSO.out.2.2⟩)
              obtain ⟨Z2, hZ2⟩ : ∃ Z2, Z2 = X2 ++ Y2 := ⟨_, rfl⟩
              have HRW3 := Lib.hid (show RowOwn w1 g cap enc (P ++ (Z1 ++ (Z2 ++ Q))) by have := HRW2.out; rw [hZ2]; simpa using this)
              have HZ3 := Lib.hid (show Z2.Perm (X2 ++ Y2) ∧ Z2.Pairwise (sl key) by rw [hZ2]; exact HZ2.out)
              clear HRW2 HZ2
              have HRW2 := HRW3
              have HZ2 := HZ3
              clear hZ2
              by_cases hr2 : mid < en
              · have hr3 : ¬ en < b := by omega
                clear hr1
                go_wp2
                go_end0
                obtain ⟨p3, s3⟩ := joined HPT.out HSX.out.1 HSX.out.2.1 HZ1.out.1 HZ2.out.1 HZ1.out.2 HZ2.out.2
                exact ⟨rfl, HBT.out, Z1 ++ Z2, p3, s3, by simpa using HRW2.out⟩
              · clear hr1
                go_wp2
                go_end0
                obtain ⟨p3, s3⟩ := joined HPT.out HSX.out.1 HSX.out.2.1 HZ1.out.1 HZ2.out.1 HZ1.out.2 HZ2.out.2
                exact ⟨rfl, HBT.out, Z1 ++ Z2, p3, s3, by simpa using HRW2.out⟩
      · have HRWa := Lib.hid (show RowOwn wr g cap enc (P ++ (X1 ++ (Y1 ++ (X2 ++ (Y2 ++ Q))))) by
          have h1 := HRW1.out
          rcases Nat.lt_or_ge i m with h | h
          · obtain rfl : Y1 = [] := List.eq_nil_of_length_eq_zero (by have := HLN.out; have := HEN.out; omega)
            simpa using h1
          · obtain rfl : X2 = [] := List.eq_nil_of_length_eq_zero (by have := HLN.out; have := HIJ.out; have := HAB.out; omega)
            simpa using h1)
        clear HRW1
        have HRW1 := HRWa
        by_cases hro1 : i < m
        · have hro2 : ¬ m < en := by omega
          clear hro
          by_cases hl1 : a < i ∧ i < mid
          · obtain ⟨hl2, hl3⟩ := hl1
            go_wp2_with fail
            refine (IH X1 Y1 (by have := HLN.out; have := HEN.out; have := HAB.out; have := HX0.out; have := HHF.out; omega) (by have := HLN.out; have := HIJ.out; omega) (by have := HLN.out; have := HIJ.out; have := HX0.out; omega) HSO.out.1.1 HSO.out.2.1 HLE.out.1 P ((X2 ++ Y2) ++ Q) _ (by
              intro z hz
              refine HMEM.out z ?_
              simp only [List.mem_append] at hz ⊢
              rcases hz with h | h | h | (h | h) | h <;> simp [h]) (by have := HRW1.out; simpa using this) (by have := HLN.out; have := HBL.out; simp; omega) a i mid (by have := HAB.out; omega) (by have := HLN.out; have := HIJ.out; have := HAB.out; omega) (by have := HLN.out; have := HX0.out; have := HAB.out; omega)).mono ?_
            rintro e w2 ⟨rfl, hb2, Z1, hp2, hs2, hrow2⟩
            have HZ1 := Lib.hid (And.intro hp2 hs2)
            have HRW2 := Lib.hid (show RowOwn w2 g cap enc (P ++ (Z1 ++ (X2 ++ (Y2 ++ Q)))) by simpa using hrow2)
            have HBT2 := Lib.hid (HBT.out.trans hb2)
            clear hp2 hs2 hrow2 hb2 HRW1 HBT
            have HBT := HBT2
            by_cases hr1 : mid < en ∧ en < b
            · obtain ⟨hr2, hr3⟩ := hr1
              go_wp2_with fail
              refine (IH X2 Y2 (by have := HLN.out; have := HEN.out; have := HAB.out; have := HX0.out; omega) (by have := HLN.out; have := HEN.out; have := HAB.out; have := HX0.out; omega) (by have := HLN.out; have := HEN.out; have := HAB.out; have := HX0.out; omega) HSO.out.1.2 HSO.out.2.2 HLE.out.2 (P ++ Z1) Q _ (by
                intro z hz
                refine HMEM.out z ?_
                simp only [List.mem_append] at hz ⊢
                have h1 := HZ1.out.1.mem_iff (a := z)
                simp only [List.mem_append] at h1
                rw [h1] at hz
                rcases hz with (h | h | h) | h | h | h <;> simp [h]) (by have := HRW2.out; simpa using this) (by have h1 := HZ1.out.1.length_eq; have := HLN.out; have := HBL.out; simp at h1 ⊢; omega) mid en b (by have h1 := HZ1.out.1.length_eq; have := HLN.out; have := HX0.out; have := HAB.out; simp at h1 ⊢; omega) (by have h1 := HZ1.out.1.length_eq; have := HLN.out; have := HEN.out; have := HX0.out; have := HAB.out; simp at h1 ⊢; omega) (by have h1 := HZ1.out.1.length_eq; have := HLN.out; have := HEN.out; have := HX0.out; have := HAB.out; simp at h1 ⊢; omega)).mono ?_
              rintro e w3 ⟨rfl, hb3, Z2, hp3, hs3, hrow3⟩
              have HZ2 := Lib.hid (And.intro hp3 hs3)
              have HRW3 := Lib.hid (show RowOwn w3 g cap enc (P ++ (Z1 ++ (Z2 ++ Q))) by simpa using hrow3)
              have HBT3 := Lib.hid (HBT.out.trans hb3)
              clear hp3 hs3 hrow3 hb3 HRW2 HBT
              have HRW2 := HRW3
              have HBT := HBT3
              go_wp2
              go_end0
              obtain ⟨p3, s3⟩ := joined HPT.out HSX.out.1 HSX.out.2.1 HZ1.out.1 HZ2.out.1 HZ1.out.2 HZ2.out.2
              exact ⟨rfl, HBT.out, Z1 ++ Z2, p3, s3, by simpa using HRW2.out⟩
            · have HZ2 := Lib.hid (show (X2 ++ Y2).Perm (X2 ++ Y2) ∧ (X2 ++ Y2).Pairwise (sl key) from ⟨List.Perm.refl _, or_nil_sorted (by
                rcases Nat.lt_or_ge mid en with h | h
                · exact .inr (List.eq_nil_of_length_eq_zero (by have := HLN.out; have := HEN.out; have := HAB.out; have := HX0.out; omega))
                · exact .inl (List.eq_nil_of_length_eq_zero (by have := HLN.out; have := HEN.out; have := HAB.out; have := HX0.out; omega))) HSO.out.1.2 HSO.out.2.2⟩)
              obtain ⟨Z2, hZ2⟩ : ∃ Z2, Z2 = X2 ++ Y2 := ⟨_, rfl⟩
              have HRW3 := Lib.hid (show RowOwn w2 g cap enc (P ++ (Z1 ++ (Z2 ++ Q))) by have := HRW2.out; rw [hZ2]; simpa using this)
              have HZ3 := Lib.hid (show Z2.Perm (X2 ++ Y2) ∧ Z2.Pairwise (sl key) by rw [hZ2]; exact HZ2.out)
              clear HRW2 HZ2
              have HRW2 := HRW3
              have HZ2 := HZ3
              clear hZ2
              by_cases hr2 : mid < en
              · have hr3 : ¬ en < b := by omega
                clear hr1
                go_wp2
                go_end0
                obtain ⟨p3, s3⟩ := joined HPT.out HSX.out.1 HSX.out.2.1 HZ1.out.1 HZ2.out.1 HZ1.out.2 HZ2.out.2
                exact ⟨rfl, HBT.out, Z1 ++ Z2, p3, s3, by simpa using HRW2.out⟩
              · clear hr1
                go_wp2
                go_end0
                obtain ⟨p3, s3⟩ := joined HPT.out HSX.out.1 HSX.out.2.1 HZ1.out.1 HZ2.out.1 HZ1.out.2 HZ2.out.2
                exact ⟨rfl, HBT.out, Z1 ++ Z2, p3, s3, by simpa using HRW2.out⟩
          · have HZ0 := Lib.hid (show (X1 ++ Y1).Perm (X1 ++ Y1) ∧ (X1 ++ Y1).Pairwise (sl key) from ⟨List.Perm.refl _, or_nil_sorted (by
              rcases Nat.lt_or_ge a i with h | h
              · exact .inr (List.eq_nil_of_length_eq_zero (by have := HLN.out; have := HIJ.out; have := HX0.out; omega))
              · exact .inl (List.eq_nil_of_length_eq_zero (by have := HLN.out; have := HIJ.out; omega))) HSO.out.1.1 HSO.out.2.1⟩)
            obtain ⟨Z1, hZ1⟩ : ∃ Z1, Z1 = X1 ++ Y1 := ⟨_, rfl⟩
            have HRW2 := Lib.hid (show RowOwn wr g cap enc (P ++ (Z1 ++ (X2 ++ (Y2 ++ Q)))) by have := HRW1.out; rw [hZ1]; simpa using this)
            have HZ1 := Lib.hid (show Z1.Perm (X1 ++ Y1) ∧ Z1.Pairwise (sl key) by rw [hZ1]; exact HZ0.out)
            clear hZ1 HZ0 HRW1
            by_cases hl2 : a < i
            · have hl3 : ¬ i < mid := by omega
              clear hl1
              by_cases hr1 : mid < en ∧ en < b
              · obtain ⟨hr2, hr3⟩ := hr1
                go_wp2_with fail
                refine (IH X2 Y2 (by have := HLN.out; have := HEN.out; have := HAB.out; have := HX0.out; omega) (by have := HLN.out; have := HEN.out; have := HAB.out; have := HX0.out; omega) (by have := HLN.out; have := HEN.out; have := HAB.out; have := HX0.out; omega) HSO.out.1.2 HSO.out.2.2 HLE.out.2 (P ++ Z1) Q _ (by
                  intro z hz
                  refine HMEM.out z ?_
                  simp only [List.mem_append] at hz ⊢
                  have h1 := HZ1.out.1.mem_iff (a := z)
                  simp only [List.mem_append] at h1
                  rw [h1] at hz
                  rcases hz with (h | h | h) | h | h | h <;> simp [h]) (by have := HRW2.out; simpa using this) (by have h1 := HZ1.out.1.length_eq; have := HLN.out; have := HBL.out; simp at h1 ⊢; omega) mid en b (by have h1 := HZ1.out.1.length_eq; have := HLN.out; have := HX0.out; have := HAB.out; simp at h1 ⊢; omega) (by have h1 := HZ1.out.1.length_eq; have := HLN.out; have := HEN.out; have := HX0.out; have := HAB.out; simp at h1 ⊢; omega) (by have h1 := HZ1.out.1.length_eq; have := HLN.out; have := HEN.out; have := HX0.out; have := HAB.out; simp at h1 ⊢; omega)).mono ?_
                rintro e w3 ⟨rfl, hb3, Z2, hp3, hs3, hrow3⟩
                have HZ2 := Lib.hid (And.intro hp3 hs3)
                have HRW3 := Lib.hid (show RowOwn w3 g cap enc (P ++ (Z1 ++ (Z2 ++ Q))) by simpa using hrow3)
                have HBT3 := Lib.hid (HBT.out.trans hb3)
                clear hp3 hs3 hrow3 hb3 HRW2 HBT
                have HRW2 := HRW3
                have HBT := HBT3
                go_wp2
                go_end0
                obtain ⟨p3, s3⟩ := joined HPT.out HSX.out.1 HSX.out.2.1 HZ1.out.1 HZ2.out.1 HZ1.out.2 HZ2.out.2
                exact ⟨rfl, HBT.out, Z1 ++ Z2, p3, s3, by simpa using HRW2.out⟩
              · have HZ2 := Lib.hid (show (X2 ++ Y2).Perm (X2 ++ Y2) ∧ (X2 ++ Y2).Pairwise (sl key) from ⟨List.Perm.refl _, or_nil_sorted (by
                  rcases Nat.lt_or_ge mid en with h | h
                  · exact .inr (List.eq_nil_of_length_eq_zero (by have := HLN.out; have := HEN.out; have := HAB.out; have := HX0.out; omega))
                  · exact .inl (List.eq_nil_of_length_eq_zero (by have := HLN.out; have := HEN.out; have := HAB.out; have := HX0.out; omega))) HSO.out.1.2 HSO.out.2.2⟩)
                obtain ⟨Z2, hZ2⟩ : ∃ Z2, Z2 = X2 ++ Y2 := ⟨_, rfl⟩
                have HRW3 := Lib.hid (show RowOwn wr g cap enc (P ++ (Z1 ++ (Z2 ++ Q))) by have := HRW2.out; rw [hZ2]; simpa using this)
                have HZ3 := Lib.hid (show Z2.Perm (X2 ++ Y2) ∧ Z2.Pairwise (sl key) by rw [hZ2]; exact HZ2.out)
                clear HRW2 HZ2
                have HRW2 := HRW3
                have HZ2 := HZ3
                clear hZ2
                by_cases hr2 : mid < en
                · have hr3 : ¬ en < b := by omega
                  clear hr1
                  go_wp2
                  go_end0
                  obtain ⟨p3, s3⟩ := joined HPT.out HSX.out.1 HSX.out.2.1 HZ1.out.1 HZ2.out.1 HZ1.out.2 HZ2.out.2
                  exact ⟨rfl, HBT.out, Z1 ++ Z2, p3, s3, by simpa using HRW2.out⟩
                · clear hr1
                  go_wp2
                  go_end0
                  obtain ⟨p3, s3⟩ := joined HPT.out HSX.out.1 HSX.out.2.1 HZ1.out.1 HZ2.out.1 HZ1.out.2 HZ2.out.2
                  exact ⟨rfl, HBT.out, Z1 ++ Z2, p3, s3, by simpa using HRW2.out⟩
            · clear hl1
              by_cases hr1 : mid < en ∧ en < b
              · obtain ⟨hr2, hr3⟩ := hr1
                go_wp2_with fail
                refine (IH X2 Y2 (by have := HLN.out; have := HEN.out; have := HAB.out; have := HX0.out; omega) (by have := HLN.out; have := HEN.out; have := HAB.out; have := HX0.out; omega) (by have := HLN.out; have := HEN.out; have := HAB.out; have := HX0.out; omega) HSO.out.1.2 HSO.out.2.2 HLE.out.2 (P ++ Z1) Q _ (by
                  intro z hz
                  refine HMEM.out z ?_
                  simp only [List.mem_append] at hz ⊢
                  have h1 := HZ1.out.1.mem_iff (a := z)
                  simp only [List.mem_append] at h1
                  rw [h1] at hz
                  rcases hz with (h | h | h) | h | h | h <;> simp [h]) (by have := HRW2.out; simpa using this) (by have h1 := HZ1.out.1.length_eq; have := HLN.out; have := HBL.out; simp at h1 ⊢; omega) mid en b (by have h1 := HZ1.out.1.length_eq; have := HLN.out; have := HX0.out; have := HAB.out; simp at h1 ⊢; omega) (by have h1 := HZ1.out.1.length_eq; have := HLN.out; have := HEN.out; have := HX0.out; have := HAB.out; simp at h1 ⊢; omega) (by have h1 := HZ1.out.1.length_eq; have := HLN.out; have := HEN.out; have := HX0.out; have := HAB.out; simp at h1 ⊢; omega)).mono ?_
                rintro e w3 ⟨rfl, hb3, Z2, hp3, hs3, hrow3⟩
                have HZ2 := Lib.hid (And.intro hp3 hs3)
                have HRW3 := Lib.hid (show RowOwn w3 g cap enc (P ++ (Z1 ++ (Z2 ++ Q))) by simpa using hrow3)
                have HBT3 := Lib.hid (HBT.out.trans hb3)
                clear hp3 hs3 hrow3 hb3 HRW2 HBT
                have HRW2 := HRW3
                have HBT := HBT3
                go_wp2
                go_end0
                obtain ⟨p3, s3⟩ := joined HPT.out HSX.out.1 HSX.out.2.1 HZ1.out.1 HZ2.out.1 HZ1.out.2 HZ2.out.2
                exact ⟨rfl, HBT.out, Z1 ++ Z2, p3, s3, by simpa using HRW2.out⟩
              · have HZ2 := Lib.hid (show (X2 ++ Y2).Perm (X2 ++ Y2) ∧ (X2 ++ Y2).Pairwise (sl key) from ⟨List.Perm.refl _, or_nil_sorted (by
                  rcases Nat.lt_or_ge mid en with h | h
                  · exact .inr (List.eq_nil_of_length_eq_zero (by have := HLN.out; have := HEN.out; have := HAB.out; have := HX0.out; omega))
                  · exact .inl (List.eq_nil_of_length_eq_zero (by have := HLN.out; have := HEN.out; have := HAB.out; have := HX0.out; omega))) HSO.out.1.2 HSO.out.2.2⟩)
                obtain ⟨Z2, hZ2⟩ : ∃ Z2, Z2 = X2 ++ Y2 := ⟨_, rfl⟩
                have HRW3 := Lib.hid (show RowOwn wr g cap enc (P ++ (Z1 ++ (Z2 ++ Q))) by have := HRW2.out; rw [hZ2]; simpa using this)
                have HZ3 := Lib.hid (show Z2.Perm (X2 ++ Y2) ∧ Z2.Pairwise (sl key) by rw [hZ2]; exact HZ2.out)
                clear HRW2 HZ2
                have HRW2 := HRW3
                have HZ2 := HZ3
                clear hZ2
                by_cases hr2 : mid < en
                · have hr3 : ¬ en < b := by omega
                  clear hr1
                  go_wp2
                  go_end0
                  obtain ⟨p3, s3⟩ := joined HPT.out HSX.out.1 HSX.out.2.1 HZ1.out.1 HZ2.out.1 HZ1.out.2 HZ2.out.2
                  exact ⟨rfl, HBT.out, Z1 ++ Z2, p3, s3, by simpa using HRW2.out⟩
                · clear hr1
                  go_wp2
                  go_end0
                  obtain ⟨p3, s3⟩ := joined HPT.out HSX.out.1 HSX.out.2.1 HZ1.out.1 HZ2.out.1 HZ1.out.2 HZ2.out.2
                  exact ⟨rfl, HBT.out, Z1 ++ Z2, p3, s3, by simpa using HRW2.out⟩
        · clear hro
          by_cases hl1 : a < i ∧ i < mid
          · obtain ⟨hl2, hl3⟩ := hl1
            go_wp2_with fail
            refine (IH X1 Y1 (by have := HLN.out; have := HEN.out; have := HAB.out; have := HX0.out; have := HHF.out; omega) (by have := HLN.out; have := HIJ.out; omega) (by have := HLN.out; have := HIJ.out; have := HX0.out; omega) HSO.out.1.1 HSO.out.2.1 HLE.out.1 P ((X2 ++ Y2) ++ Q) _ (by
              intro z hz
              refine HMEM.out z ?_
              simp only [List.mem_append] at hz ⊢
              rcases hz with h | h | h | (h | h) | h <;> simp [h]) (by have := HRW1.out; simpa using this) (by have := HLN.out; have := HBL.out; simp; omega) a i mid (by have := HAB.out; omega) (by have := HLN.out; have := HIJ.out; have := HAB.out; omega) (by have := HLN.out; have := HX0.out; have := HAB.out; omega)).mono ?_
            rintro e w2 ⟨rfl, hb2, Z1, hp2, hs2, hrow2⟩
            have HZ1 := Lib.hid (And.intro hp2 hs2)
            have HRW2 := Lib.hid (show RowOwn w2 g cap enc (P ++ (Z1 ++ (X2 ++ (Y2 ++ Q)))) by simpa using hrow2)
            have HBT2 := Lib.hid (HBT.out.trans hb2)
            clear hp2 hs2 hrow2 hb2 HRW1 HBT
            have HBT := HBT2
            by_cases hr1 : mid < en ∧ en < b
            · obtain ⟨hr2, hr3⟩ := hr1
              go_wp2_with fail
              refine (IH X2 Y2 (by have := HLN.out; have := HEN.out; have := HAB.out; have := HX0.out; omega) (by have := HLN.out; have := HEN.out; have := HAB.out; have := HX0.out; omega) (by have := HLN.out; have := HEN.out; have := HAB.out; have := HX0.out; omega) HSO.out.1.2 HSO.out.2.2 HLE.out.2 (P ++ Z1) Q _ (by
                intro z hz
                refine HMEM.out z ?_
                simp only [List.mem_append] at hz ⊢
                have h1 := HZ1.out.1.mem_iff (a := z)
                simp only [List.mem_append] at h1
                rw [h1] at hz
                rcases hz with (h | h | h) | h | h | h <;> simp [h]) (by have := HRW2.out; simpa using this) (by have h1 := HZ1.out.1.length_eq; have := HLN.out; have := HBL.out; simp at h1 ⊢; omega) mid en b (by have h1 := HZ1.out.1.length_eq; have := HLN.out; have := HX0.out; have := HAB.out; simp at h1 ⊢; omega) (by have h1 := HZ1.out.1.length_eq; have := HLN.out; have := HEN.out; have := HX0.out; have := HAB.out; simp at h1 ⊢; omega) (by have h1 := HZ1.out.1.length_eq; have := HLN.out; have := HEN.out; have := HX0.out; have := HAB.out; simp at h1 ⊢; omega)).mono ?_
              rintro e w3 ⟨rfl, hb3, Z2, hp3, hs3, hrow3⟩
              have HZ2 := Lib.hid (And.intro hp3 hs3)
              have HRW3 := Lib.hid (show RowOwn w3 g cap enc (P ++ (Z1 ++ (Z2 ++ Q))) by simpa using hrow3)
              have HBT3 := Lib.hid (HBT.out.trans hb3)
              clear hp3 hs3 hrow3 hb3 HRW2 HBT
              have HRW2 := HRW3
              have HBT := HBT3
              go_wp2
              go_end0
              obtain ⟨p3, s3⟩ := joined HPT.out HSX.out.1 HSX.out.2.1 HZ1.out.1 HZ2.out.1 HZ1.out.2 HZ2.out.2
              exact ⟨rfl, HBT.out, Z1 ++ Z2, p3, s3, by simpa using HRW2.out⟩
            · have HZ2 := Lib.hid (show (X2 ++ Y2).Perm (X2 ++ Y2) ∧ (X2 ++ Y2).Pairwise (sl key) from ⟨List.Perm.refl _, or_nil_sorted (by
                rcases Nat.lt_or_ge mid en with h | h
                · exact .inr (List.eq_nil_of_length_eq_zero (by have := HLN.out; have := HEN.out; have := HAB.out; have := HX0.out; omega))
                · exact .inl (List.eq_nil_of_length_eq_zero (by have := HLN.out; have := HEN.out; have := HAB.out; have := HX0.out; omega))) HSO.out.1.2 HSO.out.2.2⟩)
              obtain ⟨Z2, hZ2⟩ : ∃ Z2, Z2 = X2 ++ Y2 := ⟨_, rfl⟩
              have HRW3 := Lib.hid (show RowOwn w2 g cap enc (P ++ (Z1 ++ (Z2 ++ Q))) by have := HRW2.out; rw [hZ2]; simpa using this)
              have HZ3 := Lib.hid (show Z2.Perm (X2 ++ Y2) ∧ Z2.Pairwise (sl key) by rw [hZ2]; exact HZ2.out)
              clear HRW2 HZ2
              have HRW2 := HRW3
              have HZ2 := HZ3
              clear hZ2
              by_cases hr2 : mid < en
              · have hr3 : ¬ en < b := by omega
                clear hr1
                go_wp2
                go_end0
                obtain ⟨p3, s3⟩ := joined HPT.out HSX.out.1 HSX.out.2.1 HZ1.out.1 HZ2.out.1 HZ1.out.2 HZ2.out.2
                exact ⟨rfl, HBT.out, Z1 ++ Z2, p3, s3, by simpa using HRW2.out⟩
              · clear hr1
                go_wp2
                go_end0
                obtain ⟨p3, s3⟩ := joined HPT.out HSX.out.1 HSX.out.2.1 HZ1.out.1 HZ2.out.1 HZ1.out.2 HZ2.out.2
                exact ⟨rfl, HBT.out, Z1 ++ Z2, p3, s3, by simpa using HRW2.out⟩
          · have HZ0 := Lib.hid (show (X1 ++ Y1).Perm (X1 ++ Y1) ∧ (X1 ++ Y1).Pairwise (sl key) from ⟨List.Perm.refl _, or_nil_sorted (by
              rcases Nat.lt_or_ge a i with h | h
              · exact .inr (List.eq_nil_of_length_eq_zero (by have := HLN.out; have := HIJ.out; have := HX0.out; omega))
              · exact .inl (List.eq_nil_of_length_eq_zero (by have := HLN.out; have := HIJ.out; omega))) HSO.out.1.1 HSO.out.2.1⟩)
            obtain ⟨Z1, hZ1⟩ : ∃ Z1, Z1 = X1 ++ Y1 := ⟨_, rfl⟩
            have HRW2 := Lib.hid (show RowOwn wr g cap enc (P ++ (Z1 ++ (X2 ++ (Y2 ++ Q)))) by have := HRW1.out; rw [hZ1]; simpa using this)
            have HZ1 := Lib.hid (show Z1.Perm (X1 ++ Y1) ∧ Z1.Pairwise (sl key) by rw [hZ1]; exact HZ0.out)
            clear hZ1 HZ0 HRW1
            by_cases hl2 : a < i
            · have hl3 : ¬ i < mid := by omega
              clear hl1
              by_cases hr1 : mid < en ∧ en < b
              · obtain ⟨hr2, hr3⟩ := hr1
                go_wp2_with fail
                refine (IH X2 Y2 (by have := HLN.out; have := HEN.out; have := HAB.out; have := HX0.out; omega) (by have := HLN.out; have := HEN.out; have := HAB.out; have := HX0.out; omega) (by have := HLN.out; have := HEN.out; have := HAB.out; have := HX0.out; omega) HSO.out.1.2 HSO.out.2.2 HLE.out.2 (P ++ Z1) Q _ (by
                  intro z hz
                  refine HMEM.out z ?_
                  simp only [List.mem_append] at hz ⊢
                  have h1 := HZ1.out.1.mem_iff (a := z)
                  simp only [List.mem_append] at h1
                  rw [h1] at hz
                  rcases hz with (h | h | h) | h | h | h <;> simp [h]) (by have := HRW2.out; simpa using this) (by have h1 := HZ1.out.1.length_eq; have := HLN.out; have := HBL.out; simp at h1 ⊢; omega) mid en b (by have h1 := HZ1.out.1.length_eq; have := HLN.out; have := HX0.out; have := HAB.out; simp at h1 ⊢; omega) (by have h1 := HZ1.out.1.length_eq; have := HLN.out; have := HEN.out; have := HX0.out; have := HAB.out; simp at h1 ⊢; omega) (by have h1 := HZ1.out.1.length_eq; have := HLN.out; have := HEN.out; have := HX0.out; have := HAB.out; simp at h1 ⊢; omega)).mono ?_
                rintro e w3 ⟨rfl, hb3, Z2, hp3, hs3, hrow3⟩
                have HZ2 := Lib.hid (And.intro hp3 hs3)
                have HRW3 := Lib.hid (show RowOwn w3 g cap enc (P ++ (Z1 ++ (Z2 ++ Q))) by simpa using hrow3)
                have HBT3 := Lib.hid (HBT.out.trans hb3)
                clear hp3 hs3 hrow3 hb3 HRW2 HBT
                have HRW2 := HRW3
                have HBT := HBT3
                go_wp2
                go_end0
                obtain ⟨p3, s3⟩ := joined HPT.out HSX.out.1 HSX.out.2.1 HZ1.out.1 HZ2.out.1 HZ1.out.2 HZ2.out.2
                exact ⟨rfl, HBT.out, Z1 ++ Z2, p3, s3, by simpa using HRW2.out⟩
              · have HZ2 := Lib.hid (show (X2 ++ Y2).Perm (X2 ++ Y2) ∧ (X2 ++ Y2).Pairwise (sl key) from ⟨List.Perm.refl _, or_nil_sorted (by
                  rcases Nat.lt_or_ge mid en with h | h
                  · exact .inr (List.eq_nil_of_length_eq_zero (by have := HLN.out; have := HEN.out; have := HAB.out; have := HX0.out; omega))
                  · exact .inl (List.eq_nil_of_length_eq_zero (by have := HLN.out; have := HEN.out; have := HAB.out; have := HX0.out; omega))) HSO.out.1.2 HSO.out.2.2⟩)
                obtain ⟨Z2, hZ2⟩ : ∃ Z2, Z2 = X2 ++ Y2 := ⟨_, rfl⟩
                have HRW3 := Lib.hid (show RowOwn wr g cap enc (P ++ (Z1 ++ (Z2 ++ Q))) by have := HRW2.out; rw [hZ2]; simpa using this)
                have HZ3 := Lib.hid (show Z2.Perm (X2 ++ Y2) ∧ Z2.Pairwise (sl key) by rw [hZ2]; exact HZ2.out)
                clear HRW2 HZ2
                have HRW2 := HRW3
                have HZ2 := HZ3
                clear hZ2
                by_cases hr2 : mid < en
                · have hr3 : ¬ en < b := by omega
                  clear hr1
                  go_wp2
                  go_end0
                  obtain ⟨p3, s3⟩ := joined HPT.out HSX.out.1 HSX.out.2.1 HZ1.out.1 HZ2.out.1 HZ1.out.2 HZ2.out.2
                  exact ⟨rfl, HBT.out, Z1 ++ Z2, p3, s3, by simpa using HRW2.out⟩
                · clear hr1
                  go_wp2
                  go_end0
                  obtain ⟨p3, s3⟩ := joined HPT.out HSX.out.1 HSX.out.2.1 HZ1.out.1 HZ2.out.1 HZ1.out.2 HZ2.out.2
                  exact ⟨rfl, HBT.out, Z1 ++ Z2, p3, s3, by simpa using HRW2.out⟩
            · clear hl1
              by_cases hr1 : mid < en ∧ en < b
              · obtain ⟨hr2, hr3⟩ := hr1
                go_wp2_with fail
                refine (IH X2 Y2 (by have := HLN.out; have := HEN.out; have := HAB.out; have := HX0.out; omega) (by have := HLN.out; have := HEN.out; have := HAB.out; have := HX0.out; omega) (by have := HLN.out; have := HEN.out; have := HAB.out; have := HX0.out; omega) HSO.out.1.2 HSO.out.2.2 HLE.out.2 (P ++ Z1) Q _ (by
                  intro z hz
                  refine HMEM.out z ?_
                  simp only [List.mem_append] at hz ⊢
                  have h1 := HZ1.out.1.mem_iff (a := z)
                  simp only [List.mem_append] at h1
                  rw [h1] at hz
                  rcases hz with (h | h | h) | h | h | h <;> simp [h]) (by have := HRW2.out; simpa using this) (by have h1 := HZ1.out.1.length_eq; have := HLN.out; have := HBL.out; simp at h1 ⊢; omega) mid en b (by have h1 := HZ1.out.1.length_eq; have := HLN.out; have := HX0.out; have := HAB.out; simp at h1 ⊢; omega) (by have h1 := HZ1.out.1.length_eq; have := HLN.out; have := HEN.out; have := HX0.out; have := HAB.out; simp at h1 ⊢; omega) (by have h1 := HZ1.out.1.length_eq; have := HLN.out; have := HEN.out; have := HX0.out; have := HAB.out; simp at h1 ⊢; omega)).mono ?_
                rintro e w3 ⟨rfl, hb3, Z2, hp3, hs3, hrow3⟩
                have HZ2 := Lib.hid (And.intro hp3 hs3)
                have HRW3 := Lib.hid (show RowOwn w3 g cap enc (P ++ (Z1 ++ (Z2 ++ Q))) by simpa using hrow3)
                have HBT3 := Lib.hid (HBT.out.trans hb3)
                clear hp3 hs3 hrow3 hb3 HRW2 HBT
                have HRW2 := HRW3
                have HBT := HBT3
                go_wp2
                go_end0
                obtain ⟨p3, s3⟩ := joined HPT.out HSX.out.1 HSX.out.2.1 HZ1.out.1 HZ2.out.1 HZ1.out.2 HZ2.out.2
                exact ⟨rfl, HBT.out, Z1 ++ Z2, p3, s3, by simpa using HRW2.out⟩
              · have HZ2 := Lib.hid (show (X2 ++ Y2).Perm (X2 ++ Y2) ∧ (X2 ++ Y2).Pairwise (sl key) from ⟨List.Perm.refl _, or_nil_sorted (by
                  rcases Nat.lt_or_ge mid en with h | h
                  · exact .inr (List.eq_nil_of_length_eq_zero (by have := HLN.out; have := HEN.out; have := HAB.out; have := HX0.out; omega))
                  · exact .inl (List.eq_nil_of_length_eq_zero (by have := HLN.out; have := HEN.out; have := HAB.out; have := HX0.out; omega))) HSO.out.1.2 HSO.out.2.2⟩)
                obtain ⟨Z2, hZ2⟩ : ∃ Z2, Z2 = X2 ++ Y2 := ⟨_, rfl⟩
                have HRW3 := Lib.hid (show RowOwn wr g cap enc (P ++ (Z1 ++ (Z2 ++ Q))) by have := HRW2.out; rw [hZ2]; simpa using this)
                have HZ3 := Lib.hid (show Z2.Perm (X2 ++ Y2) ∧ Z2.Pairwise (sl key) by rw [hZ2]; exact HZ2.out)
                clear HRW2 HZ2
                have HRW2 := HRW3
                have HZ2 := HZ3
                clear hZ2
                by_cases hr2 : mid < en
                · have hr3 : ¬ en < b := by omega
                  clear hr1
                  go_wp2
                  go_end0
                  obtain ⟨p3, s3⟩ := joined HPT.out HSX.out.1 HSX.out.2.1 HZ1.out.1 HZ2.out.1 HZ1.out.2 HZ2.out.2
                  exact ⟨rfl, HBT.out, Z1 ++ Z2, p3, s3, by simpa using HRW2.out⟩
                · clear hr1
                  go_wp2
                  go_end0
                  obtain ⟨p3, s3⟩ := joined HPT.out HSX.out.1 HSX.out.2.1 HZ1.out.1 HZ2.out.1 HZ1.out.2 HZ2.out.2
                  exact ⟨rfl, HBT.out, Z1 ++ Z2, p3, s3, by simpa using HRW2.out⟩
end Go.Proofs.Ythcphfpkinfjoaa
