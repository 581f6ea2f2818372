/-
  Go's insertion sort of members by a comparison of their keys, in place: stable.
  Conditions: none.
-/
import Derived.Test.YthcphfpkinfjoaaValR
namespace Go.Proofs.Ythcphfpkinfjoaa
open Go.RowKit

/-- What a number's member is: its key, its cells. -/
structure Mems (enc : Nat → Nat → Value) (key : Nat → ByteArray) (N : Nat) : Prop where
  k : ∀ x, x < N → enc x 0 = .string (key x)
  f : ∀ x, x < N → Form5 (enc x) 1
/-- By keys; of one key the one that was ahead. -/
def sl (key : Nat → ByteArray) (x y : Nat) : Prop := ltS (key x) (key y) = true ∨ (key x = key y ∧ x < y)

theorem sl_trans {key : Nat → ByteArray} {x y z : Nat} (h1 : sl key x y) (h2 : sl key y z) : sl key x z := by
  unfold sl at *
  rcases h1 with h1 | ⟨h1, h1'⟩ <;> rcases h2 with h2 | ⟨h2, h2'⟩
  · exact .inl (ltS_trans h1 h2)
  · exact .inl (by rw [← h2]; exact h1)
  · exact .inl (by rw [h1]; exact h2)
  · exact .inr ⟨h1.trans h2, by omega⟩
theorem sl_of {key : Nat → ByteArray} {x y : Nat} (h : ltS (key x) (key y) = false) (hxy : y < x) : sl key y x := by
  unfold sl
  cases h1 : ltS (key y) (key x) with
  | true => exact .inl rfl
  | false => exact .inr ⟨ltS_tri _ _ h1 h, hxy⟩
/-- The one that went down has found its place. -/
theorem placed {key : Nat → ByteArray} {L R : List Nat} {x : Nat} (hs : (L ++ R).Pairwise (sl key)) (hR : ∀ y ∈ R, ltS (key x) (key y) = true) (hL : ∀ y, L.getLast? = some y → ltS (key x) (key y) = false ∧ y < x) : (L ++ x :: R).Pairwise (sl key) := by
  rw [List.pairwise_append] at hs ⊢
  obtain ⟨h1, h2, h3⟩ := hs
  have hLx : ∀ y ∈ L, sl key y x := by
    rcases List.eq_nil_or_concat L with rfl | ⟨L', y0, rfl⟩
    · intro y hy; cases hy
    · have h0 := hL y0 (by simp)
      have h00 := sl_of h0.1 h0.2
      intro y hy
      rw [List.concat_eq_append, List.mem_append] at hy
      rcases hy with hy | hy
      · rw [List.concat_eq_append, List.pairwise_append] at h1
        exact sl_trans (h1.2.2 y hy y0 (by simp)) h00
      · simp at hy; subst hy; exact h00
  refine ⟨h1, List.pairwise_cons.2 ⟨fun y hy => .inl (hR y hy), h2⟩, fun y hy z hz => ?_⟩
  rcases List.mem_cons.1 hz with rfl | hz
  · exact hLx y hy
  · exact h3 y hy z hz

/-- The state of the inner loop: the numbers ahead, those that are less, the one that goes down, those that are greater, those behind. -/
theorem get_mid (A B : List Nat) (x : Nat) (h : A.length < (A ++ x :: B).length) : (A ++ x :: B)[A.length] = x := by simp
theorem get_mid' (A B : List Nat) (x y : Nat) (h : A.length + 1 < (A ++ y :: x :: B).length) : (A ++ y :: x :: B)[A.length + 1] = x := by simp

set_option maxRecDepth 100000 in
set_option maxHeartbeats 2000000 in
theorem isort_any (enc : Nat → Nat → Value) (key : Nat → ByteArray) (N : Nat) (hE : Mems enc key N) (g cap : Nat) (P S0 Q : List Nat) (w : World) (hlt : ∀ x ∈ P ++ S0 ++ Q, x < N) (hrow : RowOwn w g cap enc (P ++ S0 ++ Q)) (hN : (P ++ S0 ++ Q).length ≤ 1000000)
    (hS0 : S0.Pairwise (· < ·)) (av bv : Int) (ha : av = P.length) (hb : bv = P.length + S0.length) :
    Calls Try.prog 86 #[.slice (some ⟨g, 0, none⟩) (P ++ S0 ++ Q).length cap, .int .i64 av, .int .i64 bv, .func (.func 37) #[] #[]] w fun e w' => e = .returned (.tuple #[]) ∧ But g w w' ∧ ∃ S, S.Perm S0 ∧ S.Pairwise (sl key) ∧ RowOwn w' g cap enc (P ++ S ++ Q) := by
  generalize hlen : (P ++ S0 ++ Q).length = len at hN
  have HL := Lib.hid hlen
  have HE := Lib.hid hE
  have HLT := Lib.hid hlt
  have HROW := Lib.hid hrow
  have HS0 := Lib.hid hS0
  have HAB := Lib.hid (And.intro ha hb)
  have hav : 0 ≤ av ∧ av ≤ 1000000 := by simp at hlen; omega
  have hbv : 0 ≤ bv ∧ bv ≤ 1000000 := by simp at hlen; omega
  obtain ⟨hav0, hav1⟩ := hav
  obtain ⟨hbv0, hbv1⟩ := hbv
  clear hlen hE hlt hrow hS0 ha hb
  go_enter Try.func86, Try.ntmps86
  go_wp2_with fail
  cases S0 with
  | nil =>
    go_loopw [8] (fun iv wr => iv = .int .i64 (av + 1) ∧ wr = w) (fun _ _ => 0)
    case atStart => exact ⟨by first | rfl | (simp; omega) | go_num, rfl⟩
    case round =>
      obtain ⟨rfl, rfl⟩ := hrel
      have hib : ¬ av + 1 < bv := by have := HAB.out; simp at this; omega
      go_wp2
      go_end0
      have hfin : ∃ S : List Nat, S.Perm [] ∧ S.Pairwise (sl key) ∧ RowOwn wr g cap enc (P ++ S ++ Q) := ⟨[], List.Perm.refl _, List.Pairwise.nil, HROW.out⟩
      first | exact ⟨rfl, But.refl _ _, hfin⟩ | (refine ⟨rfl, But.refl _ _, ?_⟩; simpa using hfin)
  | cons s0 T0 =>
    go_loopw [8] (fun iv wr => ∃ (S U T : List Nat), s0 :: T0 = U ++ T ∧ S.Perm U ∧ S.Pairwise (sl key) ∧ iv = .int .i64 (P.length + U.length : Nat) ∧ RowOwn wr g cap enc (P ++ S ++ T ++ Q) ∧ But g w wr ∧ wr.heap.size ≥ w.heap.size) (fun i _ => 1000000 - (intOf i).toNat)
    case atStart => exact ⟨[s0], [s0], T0, rfl, List.Perm.refl _, by simp, by have := HAB.out.1; simp; omega, by simpa using HROW.out, But.refl _ _, Nat.le_refl _⟩
    case round =>
      obtain ⟨S, U, T, hUT, hperm, hsort, rfl, hrow, hbut, hsz⟩ := hrel
      have HUT := Lib.hid hUT
      have HPM := Lib.hid hperm
      have HSO := Lib.hid hsort
      have HRW := Lib.hid hrow
      have HBT := Lib.hid hbut
      have hUS : S.length = U.length := hperm.length_eq
      have HUS := Lib.hid hUS
      clear hUT hperm hsort hrow hbut hUS
      generalize hi : P.length + U.length = i
      have HI := Lib.hid hi
      clear hi
      have hTl : (s0 :: T0).length = U.length + T.length := by rw [HUT.out]; simp
      have HTL := Lib.hid hTl
      clear hTl
      cases T with
      | nil =>
        have hib : ¬ (i : Int) < bv := by
          have h1 := HAB.out.2
          have h2 := HI.out
          have h3 := HTL.out
          simp at h1 h3; omega
        go_wp2
        go_end0
        exact ⟨rfl, HBT.out, S, by rw [HUT.out]; simpa using HPM.out, HSO.out, by simpa using HRW.out⟩
      | cons x T =>
        have hib : (i : Int) < bv := by
          have h1 := HAB.out.2
          have h2 := HI.out
          have h3 := HTL.out
          simp at h1 h3; omega
        have hlenL : P.length + U.length + (T.length + 1) + Q.length = len := by
          have h1 := HL.out
          have h3 := HTL.out
          simp at h1 h3; omega
        have HLEN := Lib.hid hlenL
        have hil : i < len := by have := HI.out; omega
        clear hlenL
        have HX := Lib.hid (show x < N ∧ (∀ y ∈ U, y < x) by
          constructor
          · exact HLT.out x (by rw [HUT.out]; simp)
          · have := HS0.out
            rw [HUT.out, List.pairwise_append] at this
            exact fun y hy => this.2.2 y hy x (by simp))
        go_wp2_with fail
        go_loopw [9] (fun jv wq => ∃ (L R : List Nat), L ++ R = S ∧ jv = .int .i64 (P.length + L.length : Nat) ∧ (∀ y ∈ R, ltS (key x) (key y) = true) ∧ RowOwn wq g cap enc ((P ++ L) ++ x :: (R ++ T ++ Q)) ∧ But g w wq ∧ wq.heap.size ≥ w.heap.size) (fun j _ => (intOf j).toNat)
        case atStart => exact ⟨S, [], by simp, by rw [HUS.out, HI.out], (fun y h => by cases h), by simpa using HRW.out, HBT.out, by assumption⟩
        case round =>
          obtain ⟨L, R, hLR, rfl, hR, hrow2, hbut2, hsz2⟩ := hrel
          have HLR := Lib.hid hLR
          have HR := Lib.hid hR
          have HRO := Lib.hid hrow2
          have HBU := Lib.hid hbut2
          clear hLR hR hrow2 hbut2
          have hjl : P.length + L.length ≤ i := by
            have h1 := HI.out
            have h2 : (L ++ R).length = S.length := by rw [HLR.out]
            have h3 := HUS.out
            simp at h2; omega
          have HFIN := Lib.hid (fun (hl : ∀ y, L.getLast? = some y → ltS (key x) (key y) = false) => (show ∃ S' U' T', s0 :: T0 = U' ++ T' ∧ S'.Perm U' ∧ S'.Pairwise (sl key) ∧ P.length + U'.length = i + 1 ∧ P ++ S' ++ T' ++ Q = (P ++ L) ++ x :: (R ++ T ++ Q) from by
            refine ⟨L ++ x :: R, U ++ [x], T, by rw [HUT.out]; simp, ?_, ?_, by have := HI.out; simp; omega, by simp⟩
            · refine List.perm_middle.trans ?_
              rw [HLR.out]
              exact (List.Perm.cons x HPM.out).trans (List.perm_append_singleton x U).symm
            · refine placed (by rw [HLR.out]; exact HSO.out) HR.out (fun y hy => ⟨hl y hy, HX.out.2 y (HPM.out.mem_iff.1 (by rw [← HLR.out]; exact List.mem_append_left _ (List.mem_of_getLast? hy)))⟩)))
          rcases List.eq_nil_or_concat L with rfl | ⟨L', y, rfl⟩
          · have hg1 : ¬ av < ((P.length + ([] : List Nat).length : Nat) : Int) := by have := HAB.out.1; simp; omega
            generalize hj : P.length + ([] : List Nat).length = j at hg1 hjl
            have HJ := Lib.hid hj
            have hg2 : decide (av < (j : Int)) = false := by simpa using hg1
            clear hj
            go_wp2_with fail
            refine wp_region_below (by kernel_rfl) (by kernel_rfl) ?_
            repeat (go_big_quiet_step (fail))
            refine wpQuiet_nil ?_
            rintro _ ⟨⟨w', hb'⟩, rfl⟩
            go_wp2
            go_roundw
            case measure => simp [intOf]; omega
            case rel =>
              obtain ⟨S', U', T', e1, e2, e3, e4, e5⟩ := HFIN.out (fun y hy => by cases hy)
              exact ⟨S', U', T', e1, e2, e3, by rw [e4]; go_num, by rw [e5]; exact HRO.out.keep hb', HBU.out.trans (butOf hb'), by have := hb'.size; omega⟩
          · obtain ⟨A, hA⟩ : ∃ A, A = P ++ L' := ⟨_, rfl⟩
            obtain ⟨B, hB⟩ : ∃ B, B = R ++ T ++ Q := ⟨_, rfl⟩
            have hrow3 : RowOwn wr g cap enc (A ++ y :: x :: B) := by
              have := HRO.out
              rw [List.concat_eq_append] at this
              subst hA hB
              simpa using this
            have hj : P.length + (L'.concat y).length = A.length + 1 := by subst hA; simp [Nat.add_assoc]
            obtain ⟨j, hjd⟩ : ∃ j, j = A.length + 1 := ⟨_, rfl⟩
            rw [hj, ← hjd] at hjl ⊢
            have HJD := Lib.hid hjd
            have HRO3 := Lib.hid hrow3
            have HAB2 := Lib.hid (And.intro hA hB)
            have hav2 : av < (j : Int) := by have := HAB.out.1; subst hA; simp at hjd; omega
            have hxl : A.length + 1 < (A ++ y :: x :: B).length := by simp
            have hyl : A.length < (A ++ y :: x :: B).length := by simp
            have cx := hrow3.at hxl
            have cy := hrow3.at hyl
            rw [get_mid' A B x y hxl, ← hjd] at cx
            rw [get_mid A (x :: B) y hyl] at cy
            have HxN := Lib.hid HX.out.1
            have HyN := Lib.hid (show y < N by
              have h1 : y ∈ S := by rw [← HLR.out]; simp
              exact HLT.out y (by rw [HUT.out]; simp [HPM.out.mem_iff.1 h1]))
            obtain ⟨ek, en, es, ea, el, ep, eb, em, eq, e1, e2, e3, e4, e5⟩ := HE.out.f x HxN.out
            simp only [Nat.reduceAdd] at e1 e2 e3 e4 e5
            have e0 := HE.out.k x HxN.out
            obtain ⟨fk, fn, fs, fa, fl, fp, fb, fm, fq, f1, f2, f3, f4, f5⟩ := HE.out.f y HyN.out
            simp only [Nat.reduceAdd] at f1 f2 f3 f4 f5
            have f0 := HE.out.k y HyN.out
            obtain ⟨x0, x1, x2, x3, x4, x5⟩ := cx
            obtain ⟨y0, y1, y2, y3, y4, y5⟩ := cy
            rw [e0] at x0; rw [e1] at x1; rw [e2] at x2; rw [e3] at x3; rw [e4] at x4; rw [e5] at x5
            rw [f0] at y0; rw [f1] at y1; rw [f2] at y2; rw [f3] at y3; rw [f4] at y4; rw [f5] at y5
            have HFR := Lib.hid (fun i => hrow3.frozen i)
            have hgz := hrow3.lt
            have HE2 := Lib.hid (And.intro e0 (And.intro e1 (And.intro e2 (And.intro e3 (And.intro e4 (And.intro e5 (And.intro f0 (And.intro f1 (And.intro f2 (And.intro f3 (And.intro f4 f5)))))))))))
            clear e0 e1 e2 e3 e4 e5 f0 f1 f2 f3 f4 f5 hrow3 hA hB
            have HCMP := Lib.hid (@cmp_neg (key x) (key y))
            generalize hcp : cmpS (key x) (key y) = cp at HCMP
            have HCP := Lib.hid hcp
            have HLTC := Lib.hid (show ltS (key x) (key y) = decide (cp < 0) by rw [Bool.eq_iff_iff, decide_eq_true_eq]; exact HCMP.out.symm)
            clear hcp
            have HC := Lib.hid (fun p : KidOf wr => (byKey_any (key x) (key y) (.int .i64 ek) (.int .i64 en) (.string es) (.slice ea el ep) (.slice eb em eq) (.int .i64 fk) (.int .i64 fn) (.string fs) (.slice fa fl fp) (.slice fb fm fq) p.x).mono (R' := fun e w' => e = .returned (.int .i64 cp) ∧ Below p.x.heap.size p.x w') (fun e w' h => ⟨by rw [← HCP.out]; exact h.1, h.2⟩))
            have kx0 := fun p => KidOf.cell hgz x0 p
            have ky0 := fun p => KidOf.cell hgz y0 p
            have kx1 := fun p => KidOf.cell hgz x1 p
            have ky1 := fun p => KidOf.cell hgz y1 p
            have kx2 := fun p => KidOf.cell hgz x2 p
            have ky2 := fun p => KidOf.cell hgz y2 p
            have kx3 := fun p => KidOf.cell hgz x3 p
            have ky3 := fun p => KidOf.cell hgz y3 p
            have kx4 := fun p => KidOf.cell hgz x4 p
            have ky4 := fun p => KidOf.cell hgz y4 p
            have kx5 := fun p => KidOf.cell hgz x5 p
            have ky5 := fun p => KidOf.cell hgz y5 p
            have g1 : decide (av < (j : Int)) = true := by simpa using hav2
            generalize hAl : A.length = al at *
            have HAL := Lib.hid hAl
            have g3 : IntKind.i64.wrap ((j : Int) - 1) = (al : Int) := by rw [iw_id _ (by omega)]; omega
            have g8 : (j : Int) - 1 = (al : Int) := by omega
            have g4 : j < len := by omega
            have g5 : (j : Int) < (len : Int) := by omega
            have g6 : (al : Int) < (len : Int) := by omega
            have g7 : al < len := by omega
            have hjal : j ≠ al := by omega
            clear hAl hjd hj
            by_cases hneg : cp < 0
            · have hd : decide (cp < 0) = true := by simpa using hneg
              go_wp2_with fail
              refine wp_region_below (by kernel_rfl) (by kernel_rfl) ?_
              repeat (go_big_quiet_step (first | (go_at_call 37; exact Calls.below_of (HC.out _))))
              refine wpQuiet_nil ?_
              rintro wz ⟨⟨_, hbz⟩, rfl⟩
              have zx0 := (show wz.cell? _ = some _ from kx0 ⟨wz, hbz⟩)
              have zy0 := (show wz.cell? _ = some _ from ky0 ⟨wz, hbz⟩)
              have zx1 := (show wz.cell? _ = some _ from kx1 ⟨wz, hbz⟩)
              have zy1 := (show wz.cell? _ = some _ from ky1 ⟨wz, hbz⟩)
              have zx2 := (show wz.cell? _ = some _ from kx2 ⟨wz, hbz⟩)
              have zy2 := (show wz.cell? _ = some _ from ky2 ⟨wz, hbz⟩)
              have zx3 := (show wz.cell? _ = some _ from kx3 ⟨wz, hbz⟩)
              have zy3 := (show wz.cell? _ = some _ from ky3 ⟨wz, hbz⟩)
              have zx4 := (show wz.cell? _ = some _ from kx4 ⟨wz, hbz⟩)
              have zy4 := (show wz.cell? _ = some _ from ky4 ⟨wz, hbz⟩)
              have zx5 := (show wz.cell? _ = some _ from kx5 ⟨wz, hbz⟩)
              have zy5 := (show wz.cell? _ = some _ from ky5 ⟨wz, hbz⟩)
              have HROZ := Lib.hid (HRO3.out.keep hbz)
              have HFZ := Lib.hid (fun i => HROZ.out.frozen i)
              have HBZ := Lib.hid (HBU.out.trans (butOf hbz))
              have hzz : w.heap.size ≤ wz.heap.size := by have := hbz.size; omega
              have fx0 := HFZ.out (j * 6 + 0)
              have fy0 := HFZ.out (al * 6 + 0)
              have fx1 := HFZ.out (j * 6 + 1)
              have fy1 := HFZ.out (al * 6 + 1)
              have fx2 := HFZ.out (j * 6 + 2)
              have fy2 := HFZ.out (al * 6 + 2)
              have fx3 := HFZ.out (j * 6 + 3)
              have fy3 := HFZ.out (al * 6 + 3)
              have fx4 := HFZ.out (j * 6 + 4)
              have fy4 := HFZ.out (al * 6 + 4)
              have fx5 := HFZ.out (j * 6 + 5)
              have fy5 := HFZ.out (al * 6 + 5)
              simp only [Nat.add_zero] at fx0 fy0
              clear kx0 ky0 x0 y0 kx1 ky1 x1 y1 kx2 ky2 x2 y2 kx3 ky3 x3 y3 kx4 ky4 x4 y4 kx5 ky5 x5 y5 hbz
              go_wp2_with fail
              go_region
              have hW : ((((((((((((wz.setCell ⟨g, j * 6, none⟩ (.string (key y))).setCell ⟨g, j * 6 + 1, none⟩ (.int .i64 fk)).setCell ⟨g, j * 6 + 2, none⟩ (.int .i64 fn)).setCell ⟨g, j * 6 + 3, none⟩ (.string fs)).setCell ⟨g, j * 6 + 4, none⟩ (.slice fa fl fp)).setCell ⟨g, j * 6 + 5, none⟩ (.slice fb fm fq)).setCell ⟨g, al * 6, none⟩ (.string (key x))).setCell ⟨g, al * 6 + 1, none⟩ (.int .i64 ek)).setCell ⟨g, al * 6 + 2, none⟩ (.int .i64 en)).setCell ⟨g, al * 6 + 3, none⟩ (.string es)).setCell ⟨g, al * 6 + 4, none⟩ (.slice ea el ep)).setCell ⟨g, al * 6 + 5, none⟩ (.slice eb em eq)) = put6 (put6 wz g (j * 6) (enc y)) g (al * 6) (enc x) := by
                obtain ⟨e0, e1, e2, e3, e4, e5, f0, f1, f2, f3, f4, f5⟩ := HE2.out
                unfold put6; rw [e0, e1, e2, e3, e4, e5, f0, f1, f2, f3, f4, f5]
              rw [hW]
              have hrow4 : RowOwn (put6 (put6 wz g (j * 6) (enc y)) g (al * 6) (enc x)) g cap enc (A ++ x :: y :: B) := by
                have h1 := put6_row HROZ.out j y (by have := HJD.out; have := HAL.out; simp; omega)
                have h2 := put6_row h1 al x (by have := HJD.out; have := HAL.out; simp; omega)
                have h3 := swap_list A B x y
                rw [HAL.out, ← HJD.out] at h3
                rw [h3] at h2
                exact h2
              have hbut4 := put6_but (o := al * 6) (c := enc x) (put6_but (o := j * 6) (c := enc y) HBZ.out)
              have HR4 := Lib.hid hrow4
              have HB4 := Lib.hid hbut4
              have hsz4 := HB4.out.size
              generalize put6 (put6 wz g (j * 6) (enc y)) g (al * 6) (enc x) = W4 at HR4 HB4 hsz4 ⊢
              clear hW hrow4 hbut4
              clear zx0 zy0 fx0 fy0 zx1 zy1 fx1 fy1 zx2 zy2 fx2 fy2 zx3 zy3 fx3 fy3 zx4 zy4 fx4 fy4 zx5 zy5 fx5 fy5
              go_wp2
              go_roundw
              case measure => simp [intOf]; omega
              case rel =>
                refine ⟨L', y :: R, by rw [← HLR.out]; simp, ?_, ?_, ?_, HB4.out.drew, hsz4⟩
                · have h1 := HAB2.out.1
                  have h2 := HAL.out
                  rw [h1] at h2
                  simp at h2
                  go_num
                · intro z hz
                  rcases List.mem_cons.1 hz with rfl | hz
                  · rw [HLTC.out]; simpa using hneg
                  · exact HR.out z hz
                · have h5 := HR4.out.keep ((Below.refl _ W4).drew)
                  rw [HAB2.out.1, HAB2.out.2] at h5
                  simpa using h5
            · have hd : decide (cp < 0) = false := by simpa using hneg
              go_wp2_with fail
              refine wp_region_below (by kernel_rfl) (by kernel_rfl) ?_
              repeat (go_big_quiet_step (first | (go_at_call 37; exact Calls.below_of (HC.out _))))
              refine wpQuiet_nil ?_
              rintro wz ⟨⟨_, hbz⟩, rfl⟩
              have hbz' : Below wr.heap.size wr wz := hbz
              have hsz5 := hbz'.size
              go_wp2
              go_roundw
              case measure => simp [intOf]; omega
              case rel =>
                obtain ⟨S', U', T', e1, e2, e3, e4, e5⟩ := HFIN.out (fun z hz => by
                  simp at hz; subst hz; rw [HLTC.out]; simpa using hneg)
                exact ⟨S', U', T', e1, e2, e3, by rw [e4]; go_num, by rw [e5]; exact HRO.out.keep hbz', HBU.out.trans (butOf hbz'), by omega⟩
end Go.Proofs.Ythcphfpkinfjoaa
