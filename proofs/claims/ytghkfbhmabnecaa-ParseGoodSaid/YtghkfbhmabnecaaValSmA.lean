/-
  Go's merge in place, of one member and a sorted run: it is inserted.
  Conditions: none.
-/
import Derived.Test.YtghkfbhmabnecaaValSm
namespace Go.Proofs.Ytghkfbhmabnecaa
open Go.RowKit

theorem RowOwn.open6 {W : World} {g cap N : Nat} {enc : Nat → Nat → Value} {key : Nat → ByteArray} {d : List Nat} (h : RowOwn W g cap enc d) (hE : Mems enc key N) {i x : Nat} (hi : i < d.length) (hx : d.getD i 0 = x) (hxN : x < N) :
    ∃ (k n : Int) (s : ByteArray) (a1 : Option Addr) (l1 p1 : Nat) (a2 : Option Addr) (l2 p2 : Nat), (enc x 0 = .string (key x) ∧ enc x 1 = .int .i64 k ∧ enc x 2 = .int .i64 n ∧ enc x 3 = .string s ∧ enc x 4 = .slice a1 l1 p1 ∧ enc x 5 = .slice a2 l2 p2) ∧
      W.cell? ⟨g, i * 6, none⟩ = some (.string (key x)) ∧ W.cell? ⟨g, i * 6 + 1, none⟩ = some (.int .i64 k) ∧ W.cell? ⟨g, i * 6 + 2, none⟩ = some (.int .i64 n) ∧ W.cell? ⟨g, i * 6 + 3, none⟩ = some (.string s) ∧ W.cell? ⟨g, i * 6 + 4, none⟩ = some (.slice a1 l1 p1) ∧ W.cell? ⟨g, i * 6 + 5, none⟩ = some (.slice a2 l2 p2) := by
  have hx' : d[i] = x := by simpa [hi] using hx
  obtain ⟨c0, c1, c2, c3, c4, c5⟩ := h.at hi
  rw [hx'] at c0 c1 c2 c3 c4 c5
  obtain ⟨k, n, s, a1, l1, p1, a2, l2, p2, e1, e2, e3, e4, e5⟩ := hE.f x hxN
  simp only [Nat.reduceAdd] at e1 e2 e3 e4 e5
  have e0 := hE.k x hxN
  rw [e0] at c0; rw [e1] at c1; rw [e2] at c2; rw [e3] at c3; rw [e4] at c4; rw [e5] at c5
  exact ⟨k, n, s, a1, l1, p1, a2, l2, p2, ⟨e0, e1, e2, e3, e4, e5⟩, c0, c1, c2, c3, c4, c5⟩
theorem getD_mid (A B : List Nat) (x : Nat) : (A ++ x :: B).getD A.length 0 = x := by simp
theorem getD_far (A Y B : List Nat) (x t : Nat) (ht : t < Y.length) : (A ++ x :: (Y ++ B)).getD (A.length + 1 + t) 0 = Y.getD t 0 := by
  have e : A ++ x :: (Y ++ B) = (A ++ [x]) ++ (Y ++ B) := by simp
  rw [e, List.getD_eq_getElem?_getD, List.getElem?_append_right (by simp <;> omega), List.getElem?_append_left (by simp <;> omega), List.getD_eq_getElem?_getD]
  congr 2 <;> simp
theorem swap1_list (A B : List Nat) (x y : Nat) : ((A ++ x :: y :: B).set A.length y).set (A.length + 1) x = A ++ y :: x :: B := by
  induction A with
  | nil => rfl
  | cons z A ih => simp only [List.cons_append, List.length_cons, List.set_cons_succ]; rw [ih]
theorem getD_mid1 (A B : List Nat) (x y : Nat) : (A ++ x :: y :: B).getD (A.length + 1) 0 = y := by
  have e : A ++ x :: y :: B = (A ++ [x]) ++ y :: B := by simp
  rw [e]
  simp
theorem getD_mem {Y : List Nat} {t : Nat} (h : t < Y.length) : Y.getD t 0 ∈ Y := by simp [h]

/-- The search's state. -/
def InsR (key : Nat → ByteArray) (x : Nat) (Y : List Nat) (p q : Nat) : Prop := (p = 0 ∨ ltS (key (Y.getD (p - 1) 0)) (key x) = true) ∧ (q = Y.length ∨ ltS (key (Y.getD q 0)) (key x) = false)

set_option maxRecDepth 100000 in
set_option maxHeartbeats 2000000 in
theorem symMerge_A (enc : Nat → Nat → Value) (key : Nat → ByteArray) (N : Nat) (hE : Mems enc key N) (g cap len : Nat) (P : List Nat) (x : Nat) (Y Q : List Nat) (w : World) (hlt : ∀ z ∈ P ++ x :: (Y ++ Q), z < N) (hrow : RowOwn w g cap enc (P ++ x :: (Y ++ Q))) (hlen : (P ++ x :: (Y ++ Q)).length = len) (hN : len ≤ 1000000)
    (sY : Y.Pairwise (sl key)) (hXY : ∀ y ∈ Y, x < y) (a m b : Nat) (ha : a = P.length) (hm : m = P.length + 1) (hb : b = P.length + 1 + Y.length) :
    Calls Try.prog 89 #[.slice (some ⟨g, 0, none⟩) len cap, .int .i64 (a : Nat), .int .i64 (m : Nat), .int .i64 (b : Nat), .func (.func 39) #[] #[]] w fun e w' => e = .returned (.tuple #[]) ∧ But g w w' ∧ ∃ Z, Z.Perm ([x] ++ Y) ∧ Z.Pairwise (sl key) ∧ RowOwn w' g cap enc (P ++ (Z ++ Q)) := by
  have HL := Lib.hid hlen
  have HE := Lib.hid hE
  have HLT := Lib.hid hlt
  have HROW := Lib.hid hrow
  have HAB := Lib.hid (And.intro ha (And.intro hm hb))
  have HSY := Lib.hid (And.intro sY hXY)
  have hbl : P.length + 1 + Y.length + Q.length = len := by simp at hlen; omega
  have HBL := Lib.hid hbl
  have hal : a < len := by omega
  have hma : a < m := by omega
  have hbm : b ≤ len := by omega
  have ha9 : a ≤ 1000000 := by omega
  have hm9 : m ≤ 1000000 := by omega
  have hb9 : b ≤ 1000000 := by omega
  have q1 : (((m : Int) - (a : Int)) == 1) = true := by simp; omega
  clear hlen hE hlt hrow ha hm hb sY hXY hbl
  go_enter Try.func89, Try.ntmps89
  go_wp2_with fail
  go_loopw [10, 11] (fun iv jv wr => ∃ p q : Nat, p ≤ q ∧ q ≤ Y.length ∧ iv = .int .i64 (m + p : Nat) ∧ jv = .int .i64 (m + q : Nat) ∧ InsR key x Y p q ∧ RowOwn wr g cap enc (P ++ x :: (Y ++ Q)) ∧ But g w wr) (fun i j _ => (intOf j).toNat - (intOf i).toNat)
  case atStart => exact ⟨0, Y.length, by omega, Nat.le_refl _, by simp, by have := HAB.out; congr 2; omega, ⟨.inl rfl, .inl rfl⟩, HROW.out, But.refl _ _⟩
  case round =>
    obtain ⟨p, q, hpq, hq, rfl, rfl, hins, hrow, hbut⟩ := hrel
    have HINS := Lib.hid hins
    have HRW := Lib.hid hrow
    have HBT := Lib.hid hbut
    have hgz := hrow.lt
    clear hins hrow hbut
    obtain ⟨i, hi⟩ : ∃ i, i = m + p := ⟨_, rfl⟩
    obtain ⟨j, hj⟩ : ∃ j, j = m + q := ⟨_, rfl⟩
    rw [← hi, ← hj]
    have HIJ := Lib.hid (And.intro hi hj)
    have hjl : j ≤ len := by have := HAB.out; omega
    by_cases hlt : p < q
    · have hij : i < j := by omega
      obtain ⟨h, hh⟩ : ∃ h : Nat, h = (i + j) / 2 := ⟨_, rfl⟩
      have hm2 : ((i : Int) + j) / 2 = (h : Int) := by omega
      have hih : i ≤ h := by omega
      have hhj : h < j := by omega
      obtain ⟨t, ht⟩ : ∃ t, t = h - m := ⟨_, rfl⟩
      have HT := Lib.hid (show h = P.length + 1 + t ∧ p ≤ t ∧ t < q ∧ t < Y.length by have := HAB.out; omega)
      clear hi hj hh ht
      obtain ⟨y, hy⟩ : ∃ y, y = Y.getD t 0 := ⟨_, rfl⟩
      have HY := Lib.hid hy
      have HxN := Lib.hid (show x < N from HLT.out x (by simp))
      have HyN := Lib.hid (show y < N from HLT.out y (by rw [hy]; exact List.mem_append_right _ (List.mem_cons_of_mem _ (List.mem_append_left _ (getD_mem HT.out.2.2.2)))))
      clear hy
      obtain ⟨ek, en, es, ea, el, ep, eb, em, eq, eE, x0, x1, x2, x3, x4, x5⟩ := HRW.out.open6 HE.out (show a < _ by have := HBL.out; have := HAB.out; simp; omega) (by rw [HAB.out.1]; exact getD_mid _ _ _) HxN.out
      have HeE := Lib.hid eE
      clear eE
      obtain ⟨fk, fn, fs, fa, fl, fp, fb, fm, fq, fE, y0, y1, y2, y3, y4, y5⟩ := HRW.out.open6 HE.out (show h < _ by have := HBL.out; have := HAB.out; have := HT.out; simp; omega) (by rw [HT.out.1, getD_far _ _ _ _ _ HT.out.2.2.2]; exact HY.out.symm) HyN.out
      have HfE := Lib.hid fE
      clear fE
      have HCMP := Lib.hid (@cmp_neg (key y) (key x))
      generalize hcp : cmpS (key y) (key x) = cp at HCMP
      have HCP := Lib.hid hcp
      have HLTC := Lib.hid (show ltS (key y) (key x) = decide (cp < 0) by rw [Bool.eq_iff_iff, decide_eq_true_eq]; exact HCMP.out.symm)
      clear hcp
      have HC := Lib.hid (fun p : KidOf wr => (byKey_any (key y) (key x) (.int .i64 fk) (.int .i64 fn) (.string fs) (.slice fa fl fp) (.slice fb fm fq) (.int .i64 ek) (.int .i64 en) (.string es) (.slice ea el ep) (.slice eb em eq) p.x).mono (R' := fun e w' => e = .returned (.int .i64 cp) ∧ Below p.x.heap.size p.x w') (fun e w' h => ⟨by rw [← HCP.out]; exact h.1, h.2⟩))
      have kx0 := fun p => KidOf.cell hgz x0 p
      have ky0 := fun p => KidOf.cell hgz y0 p
      have kx1 := fun p => KidOf.cell hgz x1 p
      have ky1 := fun p => KidOf.cell hgz y1 p
      have kx2 := fun p => KidOf.cell hgz x2 p
      have ky2 := fun p => KidOf.cell hgz y2 p
      have kx3 := fun p => KidOf.cell hgz x3 p
      have ky3 := fun p => KidOf.cell hgz y3 p
      have kx4 := fun p => KidOf.cell hgz x4 p
      have ky4 := fun p => KidOf.cell hgz y4 p
      have kx5 := fun p => KidOf.cell hgz x5 p
      have ky5 := fun p => KidOf.cell hgz y5 p
      have g4 : h < len := by omega
      have g5 : (h : Int) < (len : Int) := by omega
      have g6 : (a : Int) < (len : Int) := by omega
      by_cases hneg : cp < 0
      · have hd : decide (cp < 0) = true := by simpa using hneg
        go_wp2_with fail
        refine wp_region_below (by kernel_rfl) (by kernel_rfl) ?_
        repeat (go_big_quiet_step (first | (go_at_call 39; exact Calls.below_of (HC.out _))))
        refine wpQuiet_nil ?_
        rintro wz ⟨⟨_, hbz0⟩, rfl⟩
        have hbz : Below wr.heap.size wr wz := hbz0
        have HBZ := Lib.hid hbz
        clear hbz0 hbz
        clear x0 y0 kx0 ky0 x1 y1 kx1 ky1 x2 y2 kx2 ky2 x3 y3 kx3 ky3 x4 y4 kx4 ky4 x5 y5 kx5 ky5
        go_wp2
        go_roundw
        case measure => simp [intOf]; omega
        case rel =>
          refine ⟨t + 1, q, by have := HT.out; omega, hq, by have := HT.out; have := HAB.out; go_num, by have := HIJ.out; go_num, ⟨.inr ?_, HINS.out.2⟩, HRW.out.keep HBZ.out, HBT.out.trans (butOf HBZ.out)⟩
          rw [Nat.add_sub_cancel, ← HY.out, HLTC.out]; simpa using hneg
      · have hd : decide (cp < 0) = false := by simpa using hneg
        go_wp2_with fail
        refine wp_region_below (by kernel_rfl) (by kernel_rfl) ?_
        repeat (go_big_quiet_step (first | (go_at_call 39; exact Calls.below_of (HC.out _))))
        refine wpQuiet_nil ?_
        rintro wz ⟨⟨_, hbz0⟩, rfl⟩
        have hbz : Below wr.heap.size wr wz := hbz0
        have HBZ := Lib.hid hbz
        clear hbz0 hbz
        clear x0 y0 kx0 ky0 x1 y1 kx1 ky1 x2 y2 kx2 ky2 x3 y3 kx3 ky3 x4 y4 kx4 ky4 x5 y5 kx5 ky5
        go_wp2
        go_roundw
        case measure => simp [intOf]; omega
        case rel =>
          refine ⟨p, t, HT.out.2.1, by have := HT.out; omega, by have := HIJ.out; go_num, by have := HT.out; have := HAB.out; go_num, ⟨HINS.out.1, .inr ?_⟩, HRW.out.keep HBZ.out, HBT.out.trans (butOf HBZ.out)⟩
          rw [← HY.out, HLTC.out]; simpa using hneg
    · have hij : ¬ i < j := by omega
      have HP := Lib.hid (show p = q by omega)
      clear hi hj
      have HFIN := Lib.hid (ins_right HSY.out.1 HSY.out.2 (p := p) (by omega) HINS.out.1 (by have h1 := HINS.out.2; rw [← HP.out] at h1; exact h1))
      have hi1 : 1 ≤ i := by have := HAB.out; have := HIJ.out; omega
      have hil : i ≤ len := by have := HIJ.out; omega
      go_wp2_with fail
      go_loopw [13] (fun kv wq => ∃ Ya Yb : List Nat, Ya ++ Yb = Y.take p ∧ kv = .int .i64 (P.length + Ya.length : Nat) ∧ RowOwn wq g cap enc ((P ++ Ya) ++ x :: (Yb ++ (Y.drop p ++ Q))) ∧ But g w wq) (fun k _ => i - (intOf k).toNat)
      case atStart => exact ⟨[], Y.take p, rfl, by rw [HAB.out.1]; rfl, by have := HRW.out; simp only [List.append_nil]; rw [← List.append_assoc (Y.take p), List.take_append_drop]; exact this, HBT.out⟩
      case round =>
        obtain ⟨Ya, Yb, hyy, rfl, hrow, hbut⟩ := hrel
        have HYY := Lib.hid hyy
        have HRW2 := Lib.hid hrow
        have HBT2 := Lib.hid hbut
        have hln : Ya.length + Yb.length = p := by have := congrArg List.length hyy; rw [List.length_append, List.length_take] at this; omega
        have HLN := Lib.hid hln
        clear hyy hrow hbut HBT
        have HBT := HBT2
        obtain ⟨k, hk⟩ : ∃ k, k = P.length + Ya.length := ⟨_, rfl⟩
        rw [← hk]
        have HK := Lib.hid hk
        cases Yb with
        | nil =>
          have hki : ¬ (k : Int) < (i : Int) - 1 := by have := HIJ.out; have := HAB.out; simp at hln; omega
          clear hk hln
          go_wp2
          refine bodyPost_ret (results_none rfl _ _ _) rfl ?_
          refine ⟨rfl, HBT.out, Y.take p ++ x :: Y.drop p, HFIN.out.2, HFIN.out.1, ?_⟩
          have h1 := HRW2.out
          have h2 := HYY.out
          rw [List.append_nil] at h2
          rw [h2] at h1
          simpa using h1
        | cons y Yb =>
          have hki : (k : Int) < (i : Int) - 1 := by have := HIJ.out; have := HAB.out; simp at hln; omega
          have HYM := Lib.hid (show y ∈ Y from List.mem_of_mem_take (by rw [← HYY.out]; simp))
          have HxN := Lib.hid (show x < N from HLT.out x (by simp))
          have HyN := Lib.hid (show y < N from HLT.out y (by simp [HYM.out]))
          obtain ⟨A, hA⟩ : ∃ A, A = P ++ Ya := ⟨_, rfl⟩
          obtain ⟨B, hB⟩ : ∃ B, B = Yb ++ (Y.drop p ++ Q) := ⟨_, rfl⟩
          have hrow3 : RowOwn wr g cap enc (A ++ x :: y :: B) := by have := HRW2.out; subst hA hB; simpa using this
          have hkA : k = A.length := by subst hA; simp [hk]
          have HRO3 := Lib.hid hrow3
          have HAB2 := Lib.hid (And.intro hA (And.intro hB hkA))
          have HFZ := Lib.hid (fun i => hrow3.frozen i)
          obtain ⟨k1, hk1⟩ : ∃ k1, k1 = k + 1 := ⟨_, rfl⟩
          have HK1 := Lib.hid hk1
          obtain ⟨ek, en, es, ea, el, ep, eb, em, eq, eE, x0, x1, x2, x3, x4, x5⟩ := HRO3.out.open6 HE.out (show k < _ by have := HAB2.out.2.2; simp; omega) (by rw [HAB2.out.2.2]; exact getD_mid _ _ _) HxN.out
          have HeE := Lib.hid eE
          clear eE
          obtain ⟨fk, fn, fs, fa, fl, fp, fb, fm, fq, fE, y0, y1, y2, y3, y4, y5⟩ := HRO3.out.open6 HE.out (show k1 < _ by have := HAB2.out.2.2; have := HK1.out; simp; omega) (by rw [HK1.out, HAB2.out.2.2]; exact getD_mid1 _ _ _ _) HyN.out
          have HfE := Lib.hid fE
          clear fE
          have hgz := hrow3.lt
          have g1 : (k : Int) + 1 = (k1 : Int) := by omega
          have g2 : IntKind.i64.wrap ((k : Int) + 1) = (k1 : Int) := by rw [iw_id _ (by omega)]; omega
          have g3 : k1 < len := by have := HIJ.out; omega
          have g4 : k < len := by omega
          have g5 : (k1 : Int) < (len : Int) := by omega
          have g6 : (k : Int) < (len : Int) := by omega
          have hkk : k ≠ k1 := by omega
          clear hrow3 hA hB hkA hk1 hk hln
          have fe0 := HFZ.out (k * 6 + 0)
          have ff0 := HFZ.out (k1 * 6 + 0)
          have fe1 := HFZ.out (k * 6 + 1)
          have ff1 := HFZ.out (k1 * 6 + 1)
          have fe2 := HFZ.out (k * 6 + 2)
          have ff2 := HFZ.out (k1 * 6 + 2)
          have fe3 := HFZ.out (k * 6 + 3)
          have ff3 := HFZ.out (k1 * 6 + 3)
          have fe4 := HFZ.out (k * 6 + 4)
          have ff4 := HFZ.out (k1 * 6 + 4)
          have fe5 := HFZ.out (k * 6 + 5)
          have ff5 := HFZ.out (k1 * 6 + 5)
          simp only [Nat.add_zero] at fe0 ff0
          go_wp2_with fail
          go_region
          have hW : ((((((((((((wr.setCell ⟨g, k * 6, none⟩ (.string (key y))).setCell ⟨g, k * 6 + 1, none⟩ (.int .i64 fk)).setCell ⟨g, k * 6 + 2, none⟩ (.int .i64 fn)).setCell ⟨g, k * 6 + 3, none⟩ (.string fs)).setCell ⟨g, k * 6 + 4, none⟩ (.slice fa fl fp)).setCell ⟨g, k * 6 + 5, none⟩ (.slice fb fm fq)).setCell ⟨g, k1 * 6, none⟩ (.string (key x))).setCell ⟨g, k1 * 6 + 1, none⟩ (.int .i64 ek)).setCell ⟨g, k1 * 6 + 2, none⟩ (.int .i64 en)).setCell ⟨g, k1 * 6 + 3, none⟩ (.string es)).setCell ⟨g, k1 * 6 + 4, none⟩ (.slice ea el ep)).setCell ⟨g, k1 * 6 + 5, none⟩ (.slice eb em eq)) = put6 (put6 wr g (k * 6) (enc y)) g (k1 * 6) (enc x) := by
            obtain ⟨e0, e1, e2, e3, e4, e5⟩ := HeE.out
            obtain ⟨f0, f1, f2, f3, f4, f5⟩ := HfE.out
            unfold put6; rw [e0, e1, e2, e3, e4, e5, f0, f1, f2, f3, f4, f5]
          rw [hW]
          have hrow4 : RowOwn (put6 (put6 wr g (k * 6) (enc y)) g (k1 * 6) (enc x)) g cap enc (A ++ y :: x :: B) := by
            have h1 := put6_row HRO3.out k y (by have := HAB2.out.2.2; simp; omega)
            have h2 := put6_row h1 k1 x (by have := HAB2.out.2.2; have := HK1.out; simp; omega)
            have h3 := swap1_list A B x y
            rw [← HAB2.out.2.2, ← HK1.out] at h3
            rw [h3] at h2
            exact h2
          have hbut4 := put6_but (o := k1 * 6) (c := enc x) (put6_but (o := k * 6) (c := enc y) HBT.out)
          have HR4 := Lib.hid hrow4
          have HB4 := Lib.hid hbut4
          generalize put6 (put6 wr g (k * 6) (enc y)) g (k1 * 6) (enc x) = W4 at HR4 HB4 ⊢
          clear hW hrow4 hbut4
          clear fe0 ff0 fe1 ff1 fe2 ff2 fe3 ff3 fe4 ff4 fe5 ff5
          clear x0 x1 x2 x3 x4 x5 y0 y1 y2 y3 y4 y5
          go_wp2
          go_roundw
          case measure => simp [intOf]; omega
          case rel =>
            refine ⟨Ya ++ [y], Yb, by rw [← HYY.out]; simp, by have := HK.out; have := HK1.out; simp; omega, ?_, HB4.out.drew⟩
            have h5 := HR4.out.keep ((Below.refl _ W4).drew)
            rw [HAB2.out.1, HAB2.out.2.1] at h5
            simpa using h5
end Go.Proofs.Ytghkfbhmabnecaa
