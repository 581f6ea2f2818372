/-
  Go's merge in place, of a sorted run and one member behind it: it is inserted.
  Conditions: none.
-/
import Derived.Test.YtghkfbhmabnecaaValSmA
namespace Go.Proofs.Ytghkfbhmabnecaa
open Go.RowKit

theorem getD_left (P X R : List Nat) (t : Nat) (ht : t < X.length) : (P ++ (X ++ R)).getD (P.length + t) 0 = X.getD t 0 := by
  rw [List.getD_eq_getElem?_getD, List.getElem?_append_right (by omega), List.getElem?_append_left (by omega), List.getD_eq_getElem?_getD]
  congr 2; omega
theorem getD_right (P X R : List Nat) (y : Nat) : (P ++ (X ++ y :: R)).getD (P.length + X.length) 0 = y := by
  simp
def InsL (key : Nat → ByteArray) (y : Nat) (X : List Nat) (p q : Nat) : Prop := (p = 0 ∨ ltS (key y) (key (X.getD (p - 1) 0)) = false) ∧ (q = X.length ∨ ltS (key y) (key (X.getD q 0)) = true)

set_option maxRecDepth 100000 in
set_option maxHeartbeats 2000000 in
theorem symMerge_B (enc : Nat → Nat → Value) (key : Nat → ByteArray) (N : Nat) (hE : Mems enc key N) (g cap len : Nat) (P X : List Nat) (y : Nat) (Q : List Nat) (w : World) (hlt : ∀ z ∈ P ++ (X ++ y :: Q), z < N) (hrow : RowOwn w g cap enc (P ++ (X ++ y :: Q))) (hlen : (P ++ (X ++ y :: Q)).length = len) (hN : len ≤ 1000000)
    (sX : X.Pairwise (sl key)) (hXY : ∀ x ∈ X, x < y) (hX1 : X.length ≠ 1) (a m b : Nat) (ha : a = P.length) (hm : m = P.length + X.length) (hb : b = P.length + X.length + 1) :
    Calls Try.prog 89 #[.slice (some ⟨g, 0, none⟩) len cap, .int .i64 (a : Nat), .int .i64 (m : Nat), .int .i64 (b : Nat), .func (.func 39) #[] #[]] w fun e w' => e = .returned (.tuple #[]) ∧ But g w w' ∧ ∃ Z, Z.Perm (X ++ [y]) ∧ Z.Pairwise (sl key) ∧ RowOwn w' g cap enc (P ++ (Z ++ Q)) := by
  have HL := Lib.hid hlen
  have HE := Lib.hid hE
  have HLT := Lib.hid hlt
  have HROW := Lib.hid hrow
  have HAB := Lib.hid (And.intro ha (And.intro hm hb))
  have HSX := Lib.hid (And.intro sX hXY)
  have hbl : P.length + X.length + 1 + Q.length = len := by simp at hlen; omega
  have HBL := Lib.hid hbl
  have hma : a ≤ m := by omega
  have hmb : m < b := by omega
  have hbm : b ≤ len := by omega
  have ha9 : a ≤ 1000000 := by omega
  have hm9 : m ≤ 1000000 := by omega
  have hb9 : b ≤ 1000000 := by omega
  have q1 : (((m : Int) - (a : Int)) == 1) = false := by simp; omega
  have q2 : (((b : Int) - (m : Int)) == 1) = true := by simp; omega
  clear hlen hE hlt hrow ha hm hb sX hXY hbl hX1
  go_enter Try.func89, Try.ntmps89
  go_wp2_with fail
  go_loopw [14, 15] (fun iv jv wr => ∃ p q : Nat, p ≤ q ∧ q ≤ X.length ∧ iv = .int .i64 (a + p : Nat) ∧ jv = .int .i64 (a + q : Nat) ∧ InsL key y X p q ∧ RowOwn wr g cap enc (P ++ (X ++ y :: Q)) ∧ But g w wr) (fun i j _ => (intOf j).toNat - (intOf i).toNat)
  case atStart => exact ⟨0, X.length, by omega, Nat.le_refl _, by simp, by have := HAB.out; congr 2; omega, ⟨.inl rfl, .inl rfl⟩, HROW.out, But.refl _ _⟩
  case round =>
    obtain ⟨p, q, hpq, hq, rfl, rfl, hins, hrow, hbut⟩ := hrel
    have HINS := Lib.hid hins
    have HRW := Lib.hid hrow
    have HBT := Lib.hid hbut
    have hgz := hrow.lt
    clear hins hrow hbut
    obtain ⟨i, hi⟩ : ∃ i, i = a + p := ⟨_, rfl⟩
    obtain ⟨j, hj⟩ : ∃ j, j = a + q := ⟨_, rfl⟩
    rw [← hi, ← hj]
    have HIJ := Lib.hid (And.intro hi hj)
    have hjl : j ≤ m := by have := HAB.out; omega
    by_cases hlt : p < q
    · have hij : i < j := by omega
      obtain ⟨h, hh⟩ : ∃ h : Nat, h = (i + j) / 2 := ⟨_, rfl⟩
      have hm2 : ((i : Int) + j) / 2 = (h : Int) := by omega
      have hih : i ≤ h := by omega
      have hhj : h < j := by omega
      obtain ⟨t, ht⟩ : ∃ t, t = h - a := ⟨_, rfl⟩
      have HT := Lib.hid (show h = P.length + t ∧ p ≤ t ∧ t < q ∧ t < X.length by have := HAB.out; omega)
      clear hi hj hh ht
      obtain ⟨x, hx⟩ : ∃ x, x = X.getD t 0 := ⟨_, rfl⟩
      have HX := Lib.hid hx
      have HyN := Lib.hid (show y < N from HLT.out y (by simp))
      have HxN := Lib.hid (show x < N from HLT.out x (by rw [hx]; exact List.mem_append_right _ (List.mem_append_left _ (getD_mem HT.out.2.2.2))))
      clear hx
      obtain ⟨ek, en, es, ea, el, ep, eb, em, eq, eE, x0, x1, x2, x3, x4, x5⟩ := HRW.out.open6 HE.out (show h < _ by have := HBL.out; have := HAB.out; have := HT.out; simp; omega) (by rw [HT.out.1, getD_left _ _ _ _ HT.out.2.2.2]; exact HX.out.symm) HxN.out
      have HeE := Lib.hid eE
      clear eE
      obtain ⟨fk, fn, fs, fa, fl, fp, fb, fm, fq, fE, y0, y1, y2, y3, y4, y5⟩ := HRW.out.open6 HE.out (show m < _ by have := HBL.out; have := HAB.out; simp; omega) (by rw [HAB.out.2.1]; exact getD_right _ _ _ _) HyN.out
      have HfE := Lib.hid fE
      clear fE
      have HCMP := Lib.hid (@cmp_neg (key y) (key x))
      generalize hcp : cmpS (key y) (key x) = cp at HCMP
      have HCP := Lib.hid hcp
      have HLTC := Lib.hid (show ltS (key y) (key x) = decide (cp < 0) by rw [Bool.eq_iff_iff, decide_eq_true_eq]; exact HCMP.out.symm)
      clear hcp
      have HC := Lib.hid (fun p : KidOf wr => (byKey_any (key y) (key x) (.int .i64 fk) (.int .i64 fn) (.string fs) (.slice fa fl fp) (.slice fb fm fq) (.int .i64 ek) (.int .i64 en) (.string es) (.slice ea el ep) (.slice eb em eq) p.x).mono (R' := fun e w' => e = .returned (.int .i64 cp) ∧ Below p.x.heap.size p.x w') (fun e w' h => ⟨by rw [← HCP.out]; exact h.1, h.2⟩))
      have kx0 := fun p => KidOf.cell hgz x0 p
      have ky0 := fun p => KidOf.cell hgz y0 p
      have kx1 := fun p => KidOf.cell hgz x1 p
      have ky1 := fun p => KidOf.cell hgz y1 p
      have kx2 := fun p => KidOf.cell hgz x2 p
      have ky2 := fun p => KidOf.cell hgz y2 p
      have kx3 := fun p => KidOf.cell hgz x3 p
      have ky3 := fun p => KidOf.cell hgz y3 p
      have kx4 := fun p => KidOf.cell hgz x4 p
      have ky4 := fun p => KidOf.cell hgz y4 p
      have kx5 := fun p => KidOf.cell hgz x5 p
      have ky5 := fun p => KidOf.cell hgz y5 p
      have g4 : h < len := by omega
      have g5 : (h : Int) < (len : Int) := by omega
      have g6 : (m : Int) < (len : Int) := by omega
      have g7 : m < len := by omega
      by_cases hneg : cp < 0
      · have hd : decide (cp < 0) = true := by simpa using hneg
        go_wp2_with fail
        refine wp_region_below (by kernel_rfl) (by kernel_rfl) ?_
        repeat (go_big_quiet_step (first | (go_at_call 39; exact Calls.below_of (HC.out _))))
        refine wpQuiet_nil ?_
        rintro wz ⟨⟨_, hbz0⟩, rfl⟩
        have hbz : Below wr.heap.size wr wz := hbz0
        have HBZ := Lib.hid hbz
        clear hbz0 hbz
        clear x0 y0 kx0 ky0 x1 y1 kx1 ky1 x2 y2 kx2 ky2 x3 y3 kx3 ky3 x4 y4 kx4 ky4 x5 y5 kx5 ky5
        go_wp2
        go_roundw
        case measure => simp [intOf]; omega
        case rel =>
          refine ⟨p, t, HT.out.2.1, by have := HT.out; omega, by have := HIJ.out; go_num, by have := HT.out; have := HAB.out; go_num, ⟨HINS.out.1, .inr ?_⟩, HRW.out.keep HBZ.out, HBT.out.trans (butOf HBZ.out)⟩
          rw [← HX.out, HLTC.out]; simpa using hneg
      · have hd : decide (cp < 0) = false := by simpa using hneg
        go_wp2_with fail
        refine wp_region_below (by kernel_rfl) (by kernel_rfl) ?_
        repeat (go_big_quiet_step (first | (go_at_call 39; exact Calls.below_of (HC.out _))))
        refine wpQuiet_nil ?_
        rintro wz ⟨⟨_, hbz0⟩, rfl⟩
        have hbz : Below wr.heap.size wr wz := hbz0
        have HBZ := Lib.hid hbz
        clear hbz0 hbz
        clear x0 y0 kx0 ky0 x1 y1 kx1 ky1 x2 y2 kx2 ky2 x3 y3 kx3 ky3 x4 y4 kx4 ky4 x5 y5 kx5 ky5
        go_wp2
        go_roundw
        case measure => simp [intOf]; omega
        case rel =>
          refine ⟨t + 1, q, by have := HT.out; omega, hq, by have := HT.out; have := HAB.out; go_num, by have := HIJ.out; go_num, ⟨.inr ?_, HINS.out.2⟩, HRW.out.keep HBZ.out, HBT.out.trans (butOf HBZ.out)⟩
          rw [Nat.add_sub_cancel, ← HX.out, HLTC.out]; simpa using hneg
    · have hij : ¬ i < j := by omega
      have HP := Lib.hid (show p = q by omega)
      clear hi hj
      have HFIN := Lib.hid (ins_left HSX.out.1 HSX.out.2 (p := p) (by omega) HINS.out.1 (by have h1 := HINS.out.2; rw [← HP.out] at h1; exact h1))
      have hil : i ≤ len := by have := HIJ.out; omega
      go_wp2_with fail
      go_loopw [17] (fun kv wq => ∃ Xa Xb : List Nat, Xa ++ Xb = X.drop p ∧ kv = .int .i64 (i + Xa.length : Nat) ∧ RowOwn wq g cap enc ((P ++ (X.take p ++ Xa)) ++ y :: (Xb ++ Q)) ∧ But g w wq) (fun k _ => (intOf k).toNat)
      case atStart => exact ⟨X.drop p, [], by simp, by rw [List.length_drop, HAB.out.2.1, HIJ.out.1, HAB.out.1]; congr 2; omega, by have := HRW.out; rw [List.take_append_drop]; simpa using this, HBT.out⟩
      case round =>
        obtain ⟨Xa, Xb, hyy, rfl, hrow, hbut⟩ := hrel
        have HYY := Lib.hid hyy
        have HRW2 := Lib.hid hrow
        have HBT2 := Lib.hid hbut
        have hln : Xa.length + Xb.length = X.length - p := by have := congrArg List.length hyy; rw [List.length_append, List.length_drop] at this; omega
        have HLN := Lib.hid hln
        clear hyy hrow hbut HBT
        have HBT := HBT2
        obtain ⟨k, hk⟩ : ∃ k, k = i + Xa.length := ⟨_, rfl⟩
        rw [← hk]
        have HK := Lib.hid hk
        rcases List.eq_nil_or_concat Xa with rfl | ⟨Xc, x, rfl⟩
        · have hki : ¬ (i : Int) < (k : Int) := by simp at hk; omega
          clear hk hln
          go_wp2
          refine bodyPost_ret (results_none rfl _ _ _) rfl ?_
          refine ⟨rfl, HBT.out, X.take p ++ y :: X.drop p, HFIN.out.2, HFIN.out.1, ?_⟩
          have h1 := HRW2.out
          have h2 := HYY.out
          rw [List.nil_append] at h2
          rw [h2] at h1
          simpa using h1
        · have hki : (i : Int) < (k : Int) := by simp at hk; omega
          have HYM := Lib.hid (show x ∈ X from List.mem_of_mem_drop (i := p) (by rw [← HYY.out]; simp))
          have HyN := Lib.hid (show y < N from HLT.out y (by simp))
          have HxN := Lib.hid (show x < N from HLT.out x (by simp [HYM.out]))
          obtain ⟨A, hA⟩ : ∃ A, A = P ++ (X.take p ++ Xc) := ⟨_, rfl⟩
          obtain ⟨B, hB⟩ : ∃ B, B = Xb ++ Q := ⟨_, rfl⟩
          have hrow3 : RowOwn wr g cap enc (A ++ x :: y :: B) := by have := HRW2.out; subst hA hB; simpa using this
          obtain ⟨k1, hk1⟩ : ∃ k1, k1 = k - 1 := ⟨_, rfl⟩
          have hkA : k1 = A.length := by have := HIJ.out; have := HAB.out; subst hA; simp at hk ⊢; omega
          have HK1 := Lib.hid (show k = k1 + 1 by omega)
          have HRO3 := Lib.hid hrow3
          have HAB2 := Lib.hid (And.intro hA (And.intro hB hkA))
          have HFZ := Lib.hid (fun i => hrow3.frozen i)
          obtain ⟨ek, en, es, ea, el, ep, eb, em, eq, eE, x0, x1, x2, x3, x4, x5⟩ := HRO3.out.open6 HE.out (show k1 < _ by have := HAB2.out.2.2; simp; omega) (by rw [HAB2.out.2.2]; exact getD_mid _ _ _) HxN.out
          have HeE := Lib.hid eE
          clear eE
          obtain ⟨fk, fn, fs, fa, fl, fp, fb, fm, fq, fE, y0, y1, y2, y3, y4, y5⟩ := HRO3.out.open6 HE.out (show k < _ by have := HAB2.out.2.2; have := HK1.out; simp; omega) (by rw [HK1.out, HAB2.out.2.2]; exact getD_mid1 _ _ _ _) HyN.out
          have HfE := Lib.hid fE
          clear fE
          have hgz := hrow3.lt
          have g1 : (k : Int) - 1 = (k1 : Int) := by omega
          have g2 : IntKind.i64.wrap ((k : Int) - 1) = (k1 : Int) := by rw [iw_id _ (by have := HBL.out; have := HLN.out; have := HIJ.out; have := HAB.out; omega)]; omega
          have g4 : k < len := by have := HBL.out; have := HLN.out; have := HIJ.out; have := HAB.out; omega
          have g3 : k1 < len := by omega
          have g5 : (k1 : Int) < (len : Int) := by omega
          have g6 : (k : Int) < (len : Int) := by omega
          have hkk : k ≠ k1 := by omega
          clear hrow3 hA hB hkA hk1 hk hln
          have ff0 := HFZ.out (k * 6 + 0)
          have fe0 := HFZ.out (k1 * 6 + 0)
          have ff1 := HFZ.out (k * 6 + 1)
          have fe1 := HFZ.out (k1 * 6 + 1)
          have ff2 := HFZ.out (k * 6 + 2)
          have fe2 := HFZ.out (k1 * 6 + 2)
          have ff3 := HFZ.out (k * 6 + 3)
          have fe3 := HFZ.out (k1 * 6 + 3)
          have ff4 := HFZ.out (k * 6 + 4)
          have fe4 := HFZ.out (k1 * 6 + 4)
          have ff5 := HFZ.out (k * 6 + 5)
          have fe5 := HFZ.out (k1 * 6 + 5)
          simp only [Nat.add_zero] at ff0 fe0
          go_wp2_with fail
          go_region
          have hW : ((((((((((((wr.setCell ⟨g, k * 6, none⟩ (.string (key x))).setCell ⟨g, k * 6 + 1, none⟩ (.int .i64 ek)).setCell ⟨g, k * 6 + 2, none⟩ (.int .i64 en)).setCell ⟨g, k * 6 + 3, none⟩ (.string es)).setCell ⟨g, k * 6 + 4, none⟩ (.slice ea el ep)).setCell ⟨g, k * 6 + 5, none⟩ (.slice eb em eq)).setCell ⟨g, k1 * 6, none⟩ (.string (key y))).setCell ⟨g, k1 * 6 + 1, none⟩ (.int .i64 fk)).setCell ⟨g, k1 * 6 + 2, none⟩ (.int .i64 fn)).setCell ⟨g, k1 * 6 + 3, none⟩ (.string fs)).setCell ⟨g, k1 * 6 + 4, none⟩ (.slice fa fl fp)).setCell ⟨g, k1 * 6 + 5, none⟩ (.slice fb fm fq)) = put6 (put6 wr g (k * 6) (enc x)) g (k1 * 6) (enc y) := by
            obtain ⟨e0, e1, e2, e3, e4, e5⟩ := HfE.out
            obtain ⟨f0, f1, f2, f3, f4, f5⟩ := HeE.out
            unfold put6; rw [e0, e1, e2, e3, e4, e5, f0, f1, f2, f3, f4, f5]
          rw [hW]
          have hrow4 : RowOwn (put6 (put6 wr g (k * 6) (enc x)) g (k1 * 6) (enc y)) g cap enc (A ++ y :: x :: B) := by
            have h1 := put6_row HRO3.out k x (by have := HAB2.out.2.2; have := HK1.out; simp; omega)
            have h2 := put6_row h1 k1 y (by have := HAB2.out.2.2; have := HK1.out; simp; omega)
            have h3 := swap_list A B y x
            rw [← HAB2.out.2.2, ← HK1.out] at h3
            rw [h3] at h2
            exact h2
          have hbut4 := put6_but (o := k1 * 6) (c := enc y) (put6_but (o := k * 6) (c := enc x) HBT.out)
          have HR4 := Lib.hid hrow4
          have HB4 := Lib.hid hbut4
          generalize put6 (put6 wr g (k * 6) (enc x)) g (k1 * 6) (enc y) = W4 at HR4 HB4 ⊢
          clear hW hrow4 hbut4
          clear ff0 fe0 ff1 fe1 ff2 fe2 ff3 fe3 ff4 fe4 ff5 fe5
          clear x0 x1 x2 x3 x4 x5 y0 y1 y2 y3 y4 y5
          go_wp2
          go_roundw
          case measure => simp [intOf]; omega
          case rel =>
            refine ⟨Xc, x :: Xb, by rw [← HYY.out]; simp, by have h1 := HK.out; have h2 := HK1.out; simp at h1 ⊢; omega, ?_, HB4.out.drew⟩
            have h5 := HR4.out.keep ((Below.refl _ W4).drew)
            rw [HAB2.out.1, HAB2.out.2.1] at h5
            simpa using h5
end Go.Proofs.Ytghkfbhmabnecaa
