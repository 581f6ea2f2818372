/-
  The statement ParseKnown holds.
  Conditions: none.
-/
import Derived.Test.YtghkfbhmabnecaaRows
import Derived.Test.YtghkfbhmabnecaaPaQ
import Derived.ProofKit
namespace Go.Proofs.Ytghkfbhmabnecaa
open Go.ChangeShapes Go.WideShapes Go.ChangeAt Go.RowKit

def errOf : Except Nat VT → Option Nat
  | .error c => some c
  | .ok _ => none
theorem errOf_is {r : Except Nat VT} {c : Nat} (h : errOf r = some c) : r = .error c := by
  cases r with
  | error d => simp only [errOf, Option.some.injEq] at h; rw [h]
  | ok t => cases h
def kTexts : List ByteArray := [⟨#[]⟩, ⟨#[32]⟩, ⟨#[110, 117, 108]⟩, ⟨#[110, 117, 108, 108, 108]⟩, ⟨#[91, 49, 44, 93]⟩, ⟨#[91, 44, 49, 93]⟩, ⟨#[91, 49, 32, 50, 93]⟩, ⟨#[123, 34, 97, 34, 125]⟩, ⟨#[123, 97, 58, 49, 125]⟩, ⟨#[123, 34, 97, 34, 58, 49, 44, 125]⟩, ⟨#[91]⟩, ⟨#[93]⟩, ⟨#[123, 34, 97, 34, 58, 125]⟩, ⟨#[34, 120]⟩, ⟨#[43, 49]⟩, ⟨#[46, 53]⟩, ⟨#[101, 49]⟩, ⟨#[49, 32, 50]⟩, ⟨#[39, 120, 39]⟩, ⟨#[239, 187, 191, 49]⟩, ⟨#[11, 49]⟩, ⟨#[123, 49, 58, 50, 125]⟩, ⟨#[48, 49]⟩, ⟨#[45]⟩, ⟨#[45, 48]⟩, ⟨#[49, 46, 48]⟩, ⟨#[49, 101, 50]⟩, ⟨#[57, 48, 48, 55, 49, 57, 57, 50, 53, 52, 55, 52, 48, 57, 57, 50]⟩, ⟨#[45, 57, 48, 48, 55, 49, 57, 57, 50, 53, 52, 55, 52, 48, 57, 57, 50]⟩, ⟨#[49, 45]⟩, ⟨#[45, 45, 49]⟩, ⟨#[48, 48]⟩, ⟨#[49, 56, 52, 52, 54, 55, 52, 52, 48, 55, 51, 55, 48, 57, 53, 53, 49, 54, 50, 48]⟩, ⟨#[49, 43, 49]⟩, ⟨#[123, 34, 97, 34, 58, 49, 44, 34, 97, 34]⟩, ⟨#[123, 34, 97, 34, 58, 91, 93, 44, 34, 97, 34, 58, 33]⟩, ⟨#[91, 49, 101, 57, 44, 33]⟩]
def kCode (k : Nat) : Nat := if k < 22 then 2 else if 34 ≤ k ∧ k < 36 then 4 else 3
def kVals (l : List ByteArray) : Array Value := (l.map Value.string).toArray
def KStr (w : World) (b : Nat) (l : List ByteArray) : Prop := w.heap[b]? = some (.cells (kVals l) 9 (0, 0))
theorem KStr.cell {w : World} {b : Nat} {l : List ByteArray} (h : KStr w b l) (k : Nat) (hk : k < l.length) : w.cell? ⟨b, k, none⟩ = some (.string l[k]) := by
  unfold KStr at h
  simp only [World.cell?, h]
  simp [kVals, List.getElem?_map, List.getElem?_eq_getElem hk]
theorem KStr.below {w w' : World} {b B : Nat} {l : List ByteArray} (h : KStr w b l) (hb : Below B w w') (hB : b < B) : KStr w' b l := by
  unfold KStr; rw [hb.block b hB]; exact h
theorem k_all : ∀ k : Fin 37, errOf (pParse (kTexts[k.val]'(k.isLt)).data.toList 1000) = some (kCode k.val) ∧ (kTexts[k.val]'(k.isLt)).size ≤ 100 := by decide +kernel
theorem k_at (k : Nat) (hk : k < 37) : ∃ s, kTexts[k]'hk = s ∧ pParse s.data.toList 1000 = .error (kCode k) ∧ s.size ≤ 100 := ⟨_, rfl, errOf_is (k_all ⟨k, hk⟩).1, (k_all ⟨k, hk⟩).2⟩
theorem zero_at (n : Nat) (w : World) : VAt n w jNull (.agg #[.int .i64 0, .int .i64 0, .string ⟨#[]⟩, .slice none 0 0, .slice none 0 0]) :=
  (VIn.flat (F := fun _ => False) (by decide) (by decide) (by decide)).at (fun _ h => h.elim)
/-- So many times one byte. -/
def rep (k : Nat) (c : UInt8) : ByteArray := ⟨(List.replicate k c).toArray⟩

theorem rep_size (k : Nat) (c : UInt8) : (rep k c).size = k := by
  show (List.replicate k c).toArray.size = k
  simp
theorem rep_succ (k : Nat) (c : UInt8) : rep k c ++ ⟨#[c]⟩ = rep (k + 1) c := by
  apply Go.WideShapes.bytes_inj
  rw [ByteArray.data_append, Array.toList_append]
  simp [rep, List.replicate_succ']
/-- So many lists, one in the other. -/
def nestT : Nat → VT
  | 0 => jList []
  | n + 1 => jList [nestT n]
def r50 : List UInt8 := List.replicate 50 91
def q50 : List UInt8 := List.replicate 50 93
theorem kp1 : pParse (r50 ++ q50) 1000 = .ok (nestT 49) := by kernel_rfl
theorem kp2 : pParse (r50 ++ (⟨#[91]⟩ : ByteArray).data.toList ++ q50) 1000 = .error 5 := errOf_is (by decide +kernel)
theorem kp3 : pParse (r50 ++ (⟨#[123]⟩ : ByteArray).data.toList) 1000 = .error 5 := errOf_is (by decide +kernel)
theorem kp4 : pParse (⟨#[49]⟩ : ByteArray).data.toList 0 = .error 6 := errOf_is (by decide +kernel)
theorem kp5 : pParse (⟨#[49]⟩ : ByteArray).data.toList (-5) = .error 6 := errOf_is (by decide +kernel)
def sMaxInt : ByteArray := ⟨#[57, 48, 48, 55, 49, 57, 57, 50, 53, 52, 55, 52, 48, 57, 57, 49]⟩
theorem kp6 : pParse sMaxInt.data.toList 16 = .ok (jInt 9007199254740991) := by kernel_rfl
theorem kp7 : pParse (r50 ++ (⟨#[49, 93, 33]⟩ : ByteArray).data.toList) 1000 = .error 2 := errOf_is (by decide +kernel)
theorem nest_dep : dep (nestT 49) = 50 := by decide +kernel
theorem app_list (a b : ByteArray) : (a ++ b).data.toList = a.data.toList ++ b.data.toList := by rw [ByteArray.data_append, Array.toList_append]
theorem app_size (a b : ByteArray) : (a ++ b).size = a.size + b.size := ByteArray.size_append
theorem kq2 {A B : ByteArray} (hA : A.data.toList = r50) (hB : B.data.toList = q50) : pParse (A ++ ⟨#[91]⟩ ++ B).data.toList 1000 = .error 5 := by
  rw [app_list, app_list, hA, hB]; exact kp2
theorem kq3 {A : ByteArray} (hA : A.data.toList = r50) : pParse (A ++ ⟨#[123]⟩).data.toList 1000 = .error 5 := by
  rw [app_list, hA]; exact kp3
theorem kq7 {A : ByteArray} (hA : A.data.toList = r50) : pParse (A ++ ⟨#[49, 93, 33]⟩).data.toList 1000 = .error 2 := by
  rw [app_list, hA]; exact kp7
theorem kz2 {A B : ByteArray} (hA : A.size = 50) (hB : B.size = 50) : 4 * (A ++ ⟨#[91]⟩ ++ B).size + 8 ≤ 1000000 := by
  rw [app_size, app_size, hA, hB]; have : (⟨#[91]⟩ : ByteArray).size = 1 := rfl; omega
theorem kz3 {A : ByteArray} (hA : A.size = 50) : 4 * (A ++ ⟨#[123]⟩).size + 8 ≤ 1000000 := by
  rw [app_size, hA]; have : (⟨#[123]⟩ : ByteArray).size = 1 := rfl; omega
theorem kz7 {A : ByteArray} (hA : A.size = 50) : 4 * (A ++ ⟨#[49, 93, 33]⟩).size + 8 ≤ 1000000 := by
  rw [app_size, hA]; have : (⟨#[49, 93, 33]⟩ : ByteArray).size = 3 := rfl; omega

set_option maxRecDepth 100000 in
set_option maxHeartbeats 4000000 in
theorem known3_true (w : World) : Calls Try.prog 5 #[] w fun e w' => e = .returned (.bool true) ∧ Below w.heap.size w w' := by
  go_enter Try.func5, Try.ntmps5
  go_wp2_with fail
  refine (awake3_true _).mono ?_
  rintro e w1 ⟨rfl, hb1⟩
  go_wp2_with fail
  generalize hW0 : w1.alloc _ = W0
  have hst0 : KStr W0 w1.heap.size kTexts := by subst hW0; exact World.alloc_heap_new w1 _
  have hbW : Below w.heap.size w W0 := by subst hW0; exact hb1.alloc hb1.size _
  have hM : w1.heap.size < W0.heap.size := by subst hW0; simp
  have HMW := Lib.hid (show w.heap.size ≤ w1.heap.size from hb1.size)
  generalize w1.heap.size = M at hst0 hM HMW ⊢
  have HST0 := Lib.hid hst0
  have HBW := Lib.hid hbW
  have HM := Lib.hid hM
  clear hb1 hW0 hst0 hbW hM
  go_loopw [2] (fun i wr => ∃ k : Nat, k ≤ 37 ∧ i = .int .i64 k ∧ Below W0.heap.size W0 wr) (fun i _ => 37 - (intOf i).toNat)
  case atStart => exact ⟨0, by omega, rfl, Below.refl _ _⟩
  case round =>
    obtain ⟨k, hk, rfl, hbr⟩ := hrel
    have HBR := Lib.hid hbr
    have HSTR := Lib.hid (HST0.out.below hbr HM.out)
    clear hbr
    by_cases hlt : k < 37
    · obtain ⟨s, hks, hps, hsz⟩ := k_at k hlt
      have hc := HSTR.out.cell k (by exact hlt)
      rw [hks] at hc
      have hlt' : (k : Int) < 37 := by omega
      have HSZ := Lib.hid hsz
      have key : ∀ c : Nat, kCode k = c → (kCode k = 2 → (k : Int) < 22) → True := fun _ _ _ => trivial
      clear hks key hsz
      by_cases h22 : k < 22
      · have h22' : ¬ (22 : Int) ≤ (k : Int) := by omega
        have h34' : ¬ (34 : Int) ≤ (k : Int) := by omega
        rw [show kCode k = 2 by unfold kCode; rw [if_pos h22]] at hps
        have HPS := Lib.hid hps
        clear hps h22 hlt
        go_wp2_with fail
        refine (parse_no s 1000 2 wr (by have := HSZ.out; omega) HPS.out).mono ?_
        rintro e w2 ⟨rfl, hb2⟩
        go_wp2_with fail
        generalize hW3 : w2.alloc _ = W3
        have hb3 : Below W0.heap.size W0 W3 := by subst hW3; exact (HBR.out.trans (hb2.mono HBR.out.size)).alloc (Nat.le_trans HBR.out.size hb2.size) _
        have HB3 := Lib.hid hb3
        clear hW3 hb3 hb2
        refine (same_any (zero_at W3.heap.size W3) (zero_at W3.heap.size W3) W3 (Below.refl _ _) (Nat.le_refl _) true (by simp)).mono ?_
        rintro e w4 ⟨rfl, hb4⟩
        have HB4 := Lib.hid (HB3.out.trans (hb4.mono HB3.out.size))
        clear hb4
        go_wp2
        go_roundw
        case rel => exact ⟨k + 1, by omega, by go_num, HB4.out⟩
        case measure => simp [intOf]; omega
      by_cases h34 : k < 34
      · have h22' : (22 : Int) ≤ (k : Int) := by omega
        have h34' : ¬ (34 : Int) ≤ (k : Int) := by omega
        rw [show kCode k = 3 by unfold kCode; rw [if_neg h22, if_neg (by omega)]] at hps
        have HPS := Lib.hid hps
        clear hps h22 h34 hlt
        go_wp2_with fail
        refine (parse_no s 1000 3 wr (by have := HSZ.out; omega) HPS.out).mono ?_
        rintro e w2 ⟨rfl, hb2⟩
        go_wp2_with fail
        generalize hW3 : w2.alloc _ = W3
        have hb3 : Below W0.heap.size W0 W3 := by subst hW3; exact (HBR.out.trans (hb2.mono HBR.out.size)).alloc (Nat.le_trans HBR.out.size hb2.size) _
        have HB3 := Lib.hid hb3
        clear hW3 hb3 hb2
        refine (same_any (zero_at W3.heap.size W3) (zero_at W3.heap.size W3) W3 (Below.refl _ _) (Nat.le_refl _) true (by simp)).mono ?_
        rintro e w4 ⟨rfl, hb4⟩
        have HB4 := Lib.hid (HB3.out.trans (hb4.mono HB3.out.size))
        clear hb4
        go_wp2
        go_roundw
        case rel => exact ⟨k + 1, by omega, by go_num, HB4.out⟩
        case measure => simp [intOf]; omega
      by_cases h36 : k < 36
      · have h22' : (22 : Int) ≤ (k : Int) := by omega
        have h34' : (34 : Int) ≤ (k : Int) := by omega
        have h36' : (k : Int) < 36 := by omega
        rw [show kCode k = 4 by unfold kCode; rw [if_neg h22, if_pos (by omega)]] at hps
        have HPS := Lib.hid hps
        clear hps h22 h34 h36 hlt
        go_wp2_with fail
        refine (parse_no s 1000 4 wr (by have := HSZ.out; omega) HPS.out).mono ?_
        rintro e w2 ⟨rfl, hb2⟩
        go_wp2_with fail
        generalize hW3 : w2.alloc _ = W3
        have hb3 : Below W0.heap.size W0 W3 := by subst hW3; exact (HBR.out.trans (hb2.mono HBR.out.size)).alloc (Nat.le_trans HBR.out.size hb2.size) _
        have HB3 := Lib.hid hb3
        clear hW3 hb3 hb2
        refine (same_any (zero_at W3.heap.size W3) (zero_at W3.heap.size W3) W3 (Below.refl _ _) (Nat.le_refl _) true (by simp)).mono ?_
        rintro e w4 ⟨rfl, hb4⟩
        have HB4 := Lib.hid (HB3.out.trans (hb4.mono HB3.out.size))
        clear hb4
        go_wp2
        go_roundw
        case rel => exact ⟨k + 1, by omega, by go_num, HB4.out⟩
        case measure => simp [intOf]; omega
      · have h22' : (22 : Int) ≤ (k : Int) := by omega
        have h34' : (34 : Int) ≤ (k : Int) := by omega
        have h36' : ¬ (k : Int) < 36 := by omega
        rw [show kCode k = 3 by unfold kCode; rw [if_neg h22, if_neg (by omega)]] at hps
        have HPS := Lib.hid hps
        clear hps h22 h34 h36 hlt
        go_wp2_with fail
        refine (parse_no s 1000 3 wr (by have := HSZ.out; omega) HPS.out).mono ?_
        rintro e w2 ⟨rfl, hb2⟩
        go_wp2_with fail
        generalize hW3 : w2.alloc _ = W3
        have hb3 : Below W0.heap.size W0 W3 := by subst hW3; exact (HBR.out.trans (hb2.mono HBR.out.size)).alloc (Nat.le_trans HBR.out.size hb2.size) _
        have HB3 := Lib.hid hb3
        clear hW3 hb3 hb2
        refine (same_any (zero_at W3.heap.size W3) (zero_at W3.heap.size W3) W3 (Below.refl _ _) (Nat.le_refl _) true (by simp)).mono ?_
        rintro e w4 ⟨rfl, hb4⟩
        have HB4 := Lib.hid (HB3.out.trans (hb4.mono HB3.out.size))
        clear hb4
        go_wp2
        go_roundw
        case rel => exact ⟨k + 1, by omega, by go_num, HB4.out⟩
        case measure => simp [intOf]; omega
    · have hge : ¬ (k : Int) < 37 := by omega
      have HBX := Lib.hid (HBW.out.trans (HBR.out.mono HBW.out.size))
      clear HSTR hlt
      go_wp2_with fail
      go_loopw [6, 7, 8] (fun av bv iv wq => ∃ j : Nat, j ≤ 50 ∧ av = .string (rep j 91) ∧ bv = .string (rep j 93) ∧ iv = .int .i64 j ∧ wq = wr) (fun _ _ i _ => 50 - (intOf i).toNat)
      case atStart => exact ⟨0, by omega, rfl, rfl, rfl, rfl⟩
      case round =>
        obtain ⟨j, hj, rfl, rfl, rfl, rfl⟩ := hrel
        by_cases hj50 : j < 50
        · have hj' : (j : Int) < 50 := by omega
          have ha : ¬ 9223372036854775807 < (rep j 91).size + 1 := by rw [rep_size]; omega
          have hb : ¬ 9223372036854775807 < (rep j 93).size + 1 := by rw [rep_size]; omega
          go_wp2
          go_roundw
          case rel => exact ⟨j + 1, by omega, by rw [rep_succ], by rw [rep_succ], by go_num, trivial⟩
          case measure => simp [intOf]; omega
        · obtain rfl : j = 50 := by omega
          obtain ⟨A, hA, hAs⟩ : ∃ A, A = rep 50 91 ∧ A.size = 50 := ⟨_, rfl, rep_size _ _⟩
          obtain ⟨B, hB, hBs⟩ : ∃ B, B = rep 50 93 ∧ B.size = 50 := ⟨_, rfl, rep_size _ _⟩
          have HAL := Lib.hid (show A.data.toList = r50 by rw [hA]; rfl)
          have HBL := Lib.hid (show B.data.toList = q50 by rw [hB]; rfl)
          have HAS := Lib.hid hAs
          have HBS := Lib.hid hBs
          rw [← hA, ← hB]
          have h1 : ¬ 9223372036854775807 < A.size + B.size := by omega
          have h2 : ¬ 9223372036854775807 < A.size + 1 := by omega
          have h3 : ¬ 9223372036854775807 < A.size + 1 + B.size := by omega
          have h4 : ¬ 9223372036854775807 < A.size + 3 := by omega
          have h5 : ¬ 9223372036854775807 < (A ++ ⟨#[91]⟩).size + B.size := by rw [app_size]; exact h3
          clear hA hB hAs hBs hj50 hj
          go_wp2_with fail
          refine (parse_ok (A ++ B) 1000 (nestT 49) _ (by rw [app_size, HAS.out, HBS.out]; decide) (by rw [app_list, HAL.out, HBL.out]; exact kp1)).mono ?_
          rintro e w2 ⟨y, rfl, hy, hb2⟩
          obtain ⟨yk, yn, ys, ya, yl, yp, yb, ym, yq, rfl⟩ := MadeV.form (base := 0) (.inl hy)
          have HY := Lib.hid hy
          have HB2 := Lib.hid (HBX.out.trans (hb2.mono HBX.out.size))
          clear hy hb2
          go_wp2_with fail
          generalize hW3 : w2.alloc _ = W3
          have HB3 := Lib.hid (show Below w2.heap.size w2 W3 by subst hW3; exact (Below.refl _ w2).alloc (Nat.le_refl _) _)
          have HQ3 := Lib.hid (show W3.heap[w2.heap.size]? = some (.cells #[.int .i64 yk, .int .i64 yn, .string ys, .slice ya yl yp, .slice yb ym yq] 26 (0, 0)) by subst hW3; exact World.alloc_heap_new w2 _)
          clear hW3
          generalize hS : A ++ (⟨#[91]⟩ : ByteArray) ++ B = S
          have hz : 4 * S.size + 8 ≤ 1000000 := by rw [← hS]; exact kz2 HAS.out HBS.out
          have hp : pParse S.data.toList 1000 = .error 5 := by rw [← hS]; exact kq2 HAL.out HBL.out
          refine (parse_no S 1000 5 W3 hz hp).mono ?_
          clear hS hz hp
          rintro e w4 ⟨rfl, hb4⟩
          have HB4 := Lib.hid hb4
          clear hb4
          go_wp2_with fail
          generalize hW5 : w4.alloc _ = W5
          have HB5 := Lib.hid (show Below W3.heap.size W3 W5 by subst hW5; exact HB4.out.alloc HB4.out.size _)
          clear hW5
          generalize hS : A ++ (⟨#[123]⟩ : ByteArray) = S
          have hz : 4 * S.size + 8 ≤ 1000000 := by rw [← hS]; exact kz3 HAS.out
          have hp : pParse S.data.toList 1000 = .error 5 := by rw [← hS]; exact kq3 HAL.out
          refine (parse_no S 1000 5 W5 hz hp).mono ?_
          clear hS hz hp
          rintro e w6 ⟨rfl, hb6⟩
          have HB6 := Lib.hid (HB5.out.trans (hb6.mono HB5.out.size))
          clear hb6
          go_wp2_with fail
          generalize hW7 : w6.alloc _ = W7
          have HB7 := Lib.hid (show Below W3.heap.size W3 W7 by subst hW7; exact HB6.out.alloc HB6.out.size _)
          clear hW7
          refine (parse_no ⟨#[49]⟩ 0 6 W7 (by decide) kp4).mono ?_
          rintro e w8 ⟨rfl, hb8⟩
          have HB8 := Lib.hid (HB7.out.trans (hb8.mono HB7.out.size))
          clear hb8
          go_wp2_with fail
          generalize hW9 : w8.alloc _ = W9
          have HB9 := Lib.hid (show Below W3.heap.size W3 W9 by subst hW9; exact HB8.out.alloc HB8.out.size _)
          clear hW9
          refine (parse_no ⟨#[49]⟩ (-5) 6 W9 (by decide) kp5).mono ?_
          rintro e w10 ⟨rfl, hb10⟩
          have HB10 := Lib.hid (HB9.out.trans (hb10.mono HB9.out.size))
          clear hb10
          go_wp2_with fail
          generalize hW11 : w10.alloc _ = W11
          have HB11 := Lib.hid (show Below W3.heap.size W3 W11 by subst hW11; exact HB10.out.alloc HB10.out.size _)
          clear hW11
          refine (parse_ok sMaxInt 16 _ W11 (by decide) kp6).mono ?_
          rintro e w12 ⟨x, rfl, hx, hb12⟩
          obtain ⟨xl, xc, xm, xp, _, rfl, -⟩ := (show VAt w12.heap.size w12 (.mk 2 9007199254740991 ⟨#[]⟩ [] []) x from hx).mems
          have HB12 := Lib.hid (HB11.out.trans (hb12.mono HB11.out.size))
          clear hx hb12
          go_wp2_with fail
          generalize hW13 : w12.alloc _ = W13
          have HB13 := Lib.hid (show Below W3.heap.size W3 W13 by subst hW13; exact HB12.out.alloc HB12.out.size _)
          have HQ13 := Lib.hid (show W13.heap[w12.heap.size]? = some (.cells #[.int .i64 2, .int .i64 9007199254740991, .string ⟨#[]⟩, .slice xl ([] : List VT).length xc, .slice xm ([] : List (ByteArray × VT)).length xp] 26 (0, 0)) by subst hW13; exact World.alloc_heap_new w12 _)
          clear hW13
          generalize hS : A ++ (⟨#[49, 93, 33]⟩ : ByteArray) = S
          have hz : 4 * S.size + 8 ≤ 1000000 := by rw [← hS]; exact kz7 HAS.out
          have hp : pParse S.data.toList 1000 = .error 2 := by rw [← hS]; exact kq7 HAL.out
          refine (parse_no S 1000 2 W13 hz hp).mono ?_
          clear hS hz hp
          rintro e w14 ⟨rfl, hb14⟩
          have HB14 := Lib.hid (HB13.out.trans (hb14.mono HB13.out.size))
          have HQ14 := Lib.hid ((hb14.block w12.heap.size (lt_of_block HQ13.out)).trans HQ13.out)
          have hq3 := (HB14.out.block w2.heap.size (lt_of_block HQ3.out)).trans HQ3.out
          have hl2 : w2.heap.size < w14.heap.size := lt_of_block hq3
          have hl12 : w12.heap.size < w14.heap.size := lt_of_block HQ14.out
          obtain ⟨z0, z1, z2, z3, z4⟩ := c5of hq3
          obtain ⟨x0, x1, x2, x3, x4⟩ := c5of HQ14.out
          clear hb14 h1 h2 h3 h4 h5 hq3
          go_wp2_with fail
          clear z0 z1 z2 z3 z4 x0 x1 x2 x3 x4
          generalize hW15 : w14.alloc _ = W15
          have hb15 : Below w14.heap.size w14 W15 := by subst hW15; exact (Below.refl _ w14).alloc (Nat.le_refl _) _
          have hb2 : Below w2.heap.size w2 W15 := HB3.out.trans ((HB14.out.trans (hb15.mono HB14.out.size)).mono HB3.out.size)
          have HQ15 := Lib.hid ((hb15.block w12.heap.size hl12).trans HQ14.out)
          have HB15 := Lib.hid hb2
          clear hW15
          have hdp := depth_any HY.out (by rw [nest_dep]; decide) W15 hb2 hb2.size
          rw [nest_dep] at hdp
          refine hdp.mono ?_
          clear hdp hb15 hb2
          rintro e w16 ⟨rfl, hb16⟩
          have HB16 := Lib.hid (HB15.out.trans (hb16.mono HB15.out.size))
          obtain ⟨x0, x1, x2, x3, x4⟩ := c5of ((hb16.block w12.heap.size (lt_of_block HQ15.out)).trans HQ15.out)
          clear hb16
          go_wp2
          go_ret
          exact ⟨rfl, HB2.out.trans (HB16.out.mono HB2.out.size)⟩

theorem known3_own : ownKnob Try.prog.godebug = none := by kernel_rfl

set_option maxRecDepth 100000 in
theorem known3_lifted (os : Os) (started : os.Started) (H : Type) (enc : TypeId × Value → H) :
    ReturnsInHanded {} Try.checked os 5 .any (Rows.parseKnownSpec.pre6 enc Try.prog Try.f5 Rows.parseKnownRow.domain false) (Rows.parseKnownSpec.post enc Try.prog Try.f5 false true false false) := by
  refine returnsInHanded_of_change (C := Try.checked) known3_own started (by kernel_rfl) Try.func5
    (ChangeSpec.witness6 (enc := enc) (C := Try.checked) false ⟨#[], #[], []⟩ 8 (by kernel_rfl) (by kernel_rfl) (by kernel_rfl) (by kernel_rfl)) ?_
  intro W base args ds gs before hval0 hW hcnd _
  have hW' := hW
  obtain ⟨p, q, hA0, hV, rfl, hfz, hnd⟩ := hW
  have hA : DataW.TrodAll enc Try.prog W 0 (fun _ => true) true Try.f5.params.toList args.toList ds p := hA0
  rw [Try.params5] at hA
  obtain ⟨rfl, rfl, rfl⟩ := trodAll_none hA
  obtain ⟨rfl, rfl⟩ := trodVars_none hV
  clear hA0 hval0
  simp only [List.append_nil] at hW'
  refine (known3_true  W ).mono fun e W' ⟨he, bel⟩ => ?_
  subst he
  exact ⟨_, rfl, _, _, _, [], [], [], hW', trodAll_mk1 (shut_bool Try.underlying4 _), trodAll_mk0, rfl, bel.frame _, fun h => by cases h⟩

theorem known3_holds : Rows.ParseKnownSaid :=
  OpenClaim.holds_of_wide 5 Try.f5 rfl rfl rfl rfl rfl rfl rfl ⟨rfl, rfl, rfl, rfl, rfl⟩ rfl rfl rfl rfl rfl (by kernel_rfl) Try.func5 (by kernel_rfl)
    (of_decide_eq_true (by kernel_rfl)) (by unfold Func.isWrapper; first | (rw [if_pos (by decide +kernel)]; kernel_rfl) | (rw [if_neg (by decide +kernel)]; exact ⟨rfl, rfl⟩))
    (fun os started H enc _ => known3_lifted os started H enc)
#print axioms known3_holds



end Go.Proofs.Ytghkfbhmabnecaa
