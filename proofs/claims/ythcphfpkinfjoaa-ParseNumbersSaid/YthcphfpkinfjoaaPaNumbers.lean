/-
  The statement ParseNumbers of the stage parse: for every whole number the call answers true.
  Conditions: none.
-/
import Derived.Test.YthcphfpkinfjoaaPaN
import Derived.Test.YthcphfpkinfjoaaPaQ
import Derived.Test.YthcphfpkinfjoaaValQ
import Derived.ProofKit
import Derived.OpenShut
import Derived.ShutString
namespace Go.Proofs.Ythcphfpkinfjoaa
open Go.ChangeShapes Go.WideShapes Go.ChangeAt Go.RowKit

/-- Block M holds the texts l. -/
def NStr (w : World) (M : Nat) (l : List ByteArray) : Prop := w.heap[M]? = some (.cells (l.map Value.string).toArray 9 (0, 0))
theorem NStr.below {w w' : World} {M B : Nat} {l : List ByteArray} (h : NStr w M l) (hb : Below B w w') (hM : M < B) : NStr w' M l := (hb.block M hM).trans h
theorem NStr.cell {w : World} {M : Nat} {l : List ByteArray} (h : NStr w M l) (k : Nat) (hk : k < l.length) : w.cell? ⟨M, k, none⟩ = some (.string l[k]) := by
  have h' : w.heap[M]? = _ := h
  simp only [World.cell?, h']
  simp [List.getElem?_eq_getElem hk]
theorem int_at (k : Int) (n : Nat) (w : World) (hk : (Lit.int .i64 k).wf = true) : VAt n w (.mk 2 k ⟨#[]⟩ [] []) (.agg #[.int .i64 2, .int .i64 k, .string ⟨#[]⟩, .slice none 0 0, .slice none 0 0]) :=
  (VIn.flat (F := fun _ => False) (by decide) hk (by decide)).at (fun _ h => h.elim)
def badT (S : ByteArray) : List ByteArray := [S ++ ⟨#[46, 48]⟩, S ++ ⟨#[101, 48]⟩, S ++ ⟨#[69, 49]⟩, S ++ ⟨#[45]⟩, S ++ ⟨#[43]⟩, ⟨#[45]⟩ ++ S ++ ⟨#[46]⟩]
theorem ba_list (a b : ByteArray) : (a ++ b).data.toList = a.data.toList ++ b.data.toList := by rw [ByteArray.data_append, Array.toList_append]
theorem bad_one {T : ByteArray} (h : NumT T.data.toList) (hl : T.data.toList.length ≤ 24) (hn : pInt T.data.toList = none) :
    (T.size ≤ 24 ∧ (⟨#[91]⟩ ++ T ++ ⟨#[93]⟩ : ByteArray).size ≤ 26) ∧ pParse T.data.toList 100 = .error 3 ∧ pParse (⟨#[91]⟩ ++ T ++ ⟨#[93]⟩ : ByteArray).data.toList 100 = .error 3 := by
  have hs : T.size = T.data.toList.length := by simp
  refine ⟨⟨by omega, ?_⟩, h.no (by omega) hn, ?_⟩
  · rw [ByteArray.size_append, ByteArray.size_append]
    show 1 + T.size + 1 ≤ 26
    omega
  · rw [ba_list, ba_list]
    exact h.within (by omega) hn
theorem bad_six (n : Int) (hn : n.natAbs < 10 ^ 20) (S : ByteArray) (hS : S = ⟨(decI n).toArray⟩) (k : Nat) (hk : k < 6) :
    ∃ T : ByteArray, (badT S)[k]'hk = T ∧ (T.size ≤ 24 ∧ (⟨#[91]⟩ ++ T ++ ⟨#[93]⟩ : ByteArray).size ≤ 26) ∧ pParse T.data.toList 100 = .error 3 ∧ pParse (⟨#[91]⟩ ++ T ++ ⟨#[93]⟩ : ByteArray).data.toList 100 = .error 3 := by
  have hd : S.data.toList = decI n := by rw [hS]
  have hl := decI_len n
  have hnum := decI_num n hn
  have h6 : k = 0 ∨ k = 1 ∨ k = 2 ∨ k = 3 ∨ k = 4 ∨ k = 5 := by omega
  rcases h6 with rfl | rfl | rfl | rfl | rfl | rfl
  · refine ⟨_, rfl, bad_one ?_ ?_ ?_⟩ <;> (show _; simp only [badT, List.getElem_cons_zero, ba_list, hd])
    · exact hnum.app [46, 48] (by decide)
    · simp; omega
    · exact pInt_spoilt n hn [48] 46 rfl
  · refine ⟨_, rfl, bad_one ?_ ?_ ?_⟩ <;> (show _; simp only [badT, List.getElem_cons_zero, List.getElem_cons_succ, ba_list, hd])
    · exact hnum.app [101, 48] (by decide)
    · simp; omega
    · exact pInt_spoilt n hn [48] 101 rfl
  · refine ⟨_, rfl, bad_one ?_ ?_ ?_⟩ <;> (show _; simp only [badT, List.getElem_cons_zero, List.getElem_cons_succ, ba_list, hd])
    · exact hnum.app [69, 49] (by decide)
    · simp; omega
    · exact pInt_spoilt n hn [49] 69 rfl
  · refine ⟨_, rfl, bad_one ?_ ?_ ?_⟩ <;> (show _; simp only [badT, List.getElem_cons_zero, List.getElem_cons_succ, ba_list, hd])
    · exact hnum.app [45] (by decide)
    · simp; omega
    · exact pInt_spoilt n hn [] 45 rfl
  · refine ⟨_, rfl, bad_one ?_ ?_ ?_⟩ <;> (show _; simp only [badT, List.getElem_cons_zero, List.getElem_cons_succ, ba_list, hd])
    · exact hnum.app [43] (by decide)
    · simp; omega
    · exact pInt_spoilt n hn [] 43 rfl
  · refine ⟨_, rfl, bad_one ?_ ?_ ?_⟩ <;> (show _; simp only [badT, List.getElem_cons_zero, List.getElem_cons_succ, ba_list, hd])
    · refine ⟨?_, 45, decI n ++ [46], rfl, .inl rfl⟩
      intro c hc
      rcases List.mem_append.1 hc with h | h
      · rcases List.mem_append.1 h with h | h
        · rw [List.mem_singleton.1 h]; rfl
        · exact decI_signs n c h
      · rw [List.mem_singleton.1 h]; rfl
    · simp; omega
    · exact pInt_minus n [] 46 rfl
theorem nought_no (n : Int) (hn : n.natAbs < 10 ^ 20) (S : ByteArray) (hS : S = ⟨(decI n).toArray⟩) : pParse (⟨#[48]⟩ ++ S : ByteArray).data.toList 100 = .error 3 ∧ (⟨#[48]⟩ ++ S : ByteArray).size ≤ 24 := by
  have hd : S.data.toList = decI n := by rw [hS]
  have hl := decI_len n
  have hs : S.size = S.data.toList.length := by simp
  refine ⟨?_, ?_⟩
  · rw [ba_list, hd]
    refine NumT.no ⟨?_, 48, decI n, rfl, .inr rfl⟩ (by simp; omega) (pInt_nought n hn)
    intro c hc
    rcases List.mem_append.1 hc with h | h
    · rw [List.mem_singleton.1 h]; rfl
    · exact decI_signs n c h
  · rw [ByteArray.size_append]
    show 1 + S.size ≤ 24
    rw [hs, hd]; omega
theorem plus_no (n : Int) (S : ByteArray) (hS : S = ⟨(decI n).toArray⟩) : pParse (⟨#[43]⟩ ++ S : ByteArray).data.toList 100 = .error 2 ∧ (⟨#[43]⟩ ++ S : ByteArray).size ≤ 24 := by
  have hd : S.data.toList = decI n := by rw [hS]
  have hl := decI_len n
  have hs : S.size = S.data.toList.length := by simp
  refine ⟨?_, ?_⟩
  · rw [ba_list, hd]
    exact parse_plus (decI n) (by omega)
  · rw [ByteArray.size_append]
    show 1 + S.size ≤ 24
    rw [hs, hd]; omega
set_option maxRecDepth 100000 in
set_option maxHeartbeats 4000000 in
theorem numbers_true (n : Int) (w : World) (hwf : (Lit.int .i64 n).wf = true) :
    Calls Try.prog 7 #[.int .i64 n] w fun e w' => e = .returned (.bool true) ∧ Below w.heap.size w w' := by
  have hr : -9223372036854775808 ≤ n ∧ n < 9223372036854775808 := by
    have := bounds_i64 hwf
    omega
  have hab : n.natAbs < 10 ^ 20 := by omega
  obtain ⟨S, hS⟩ : ∃ S : ByteArray, S = ⟨(decI n).toArray⟩ := ⟨_, rfl⟩
  have HBAD := Lib.hid (bad_six n hab S hS)
  have HP0 := Lib.hid (nought_no n hab S hS)
  have HP1 := Lib.hid (plus_no n S hS)
  have hSs : S.size ≤ 21 := by
    have := decI_len n
    have hs : S.size = S.data.toList.length := by simp
    rw [hs, hS]; exact this
  have HPI := Lib.hid (show pInt S.data.toList = if -9007199254740991 ≤ n ∧ n ≤ 9007199254740991 then some n else none by rw [hS]; exact pInt_dec n hab)
  have HNUM := Lib.hid (show NumT S.data.toList by rw [hS]; exact decI_num n hab)
  have HSL := Lib.hid (show S.data.toList.length ≤ 100 by rw [hS]; have := decI_len n; show (decI n).length ≤ 100; omega)
  have HDEC := Lib.hid (fun W => refDec_any n W hr)
  have HS := Lib.hid hS
  have HWF := Lib.hid hwf
  clear hab hS hr hwf
  go_enter Try.func7, Try.ntmps7
  go_wp2_with fail
  refine (awake3_true _).mono ?_
  rintro e w1 ⟨rfl, hb1⟩
  go_wp2_with fail
  refine (HDEC.out w1).mono ?_
  rintro e w2 ⟨rfl, hb2⟩
  rw [← HS.out]
  have HB2 := Lib.hid (hb1.trans (hb2.mono hb1.size))
  clear hb1 hb2 HDEC
  have hg1 : ¬ 9223372036854775807 < S.size + 2 := by omega
  have hg2 : ¬ 9223372036854775807 < S.size + 1 := by omega
  have hg3 : ¬ 9223372036854775807 < 1 + S.size := by omega
  have hg4 : ¬ 9223372036854775807 < (⟨#[45]⟩ ++ S : ByteArray).size + 1 := by
    have : (⟨#[45]⟩ ++ S : ByteArray).size = 1 + S.size := by rw [ByteArray.size_append]; rfl
    omega
  have hg5 : ¬ 9223372036854775807 < 1 + S.size + 1 := by omega
  by_cases hin : -9007199254740991 ≤ n ∧ n ≤ 9007199254740991
  · have HPA := Lib.hid (HNUM.out.yes HSL.out (by rw [HPI.out, if_pos hin]))
    go_wp2_with fail
    refine (parse_ok S 100 _ w2 (by omega) HPA.out).mono ?_
    rintro e w3 ⟨y, rfl, hy, hb3⟩
    obtain ⟨al, cl, am, cp, cx, rfl, -⟩ := (show VAt w3.heap.size w3 (.mk 2 n ⟨#[]⟩ [] []) y from hy).mems
    have HY := Lib.hid hy
    have HB3 := Lib.hid (HB2.out.trans (hb3.mono HB2.out.size))
    have hlo : -9007199254740991 ≤ n := hin.1
    have hhi : n ≤ 9007199254740991 := hin.2
    clear hy hb3 hin HPA
    go_wp2_with fail
    generalize hW4 : w3.alloc _ = W4
    have hb4 : Below w3.heap.size w3 W4 := by subst hW4; exact (Below.refl _ w3).alloc (Nat.le_refl _) _
    have hq4 : W4.heap[w3.heap.size]? = some (.cells #[.int .i64 2, .int .i64 n, .string ⟨#[]⟩, .slice al 0 cl, .slice am 0 cp] 26 (0, 0)) := by subst hW4; exact World.alloc_heap_new w3 _
    have hl4 := lt_of_block hq4
    obtain ⟨e0, e1, e2, e3, e4⟩ := c5of hq4
    have ke0 := fun p => KidOf.cell hl4 e0 p
    have ke1 := fun p => KidOf.cell hl4 e1 p
    have ke2 := fun p => KidOf.cell hl4 e2 p
    have ke3 := fun p => KidOf.cell hl4 e3 p
    have ke4 := fun p => KidOf.cell hl4 e4 p
    have HB4 := Lib.hid hb4
    have HB34 := Lib.hid (HB3.out.trans (hb4.mono HB3.out.size))
    clear hW4 hb4 hq4 e0 e1 e2 e3 e4
    have HIN := Lib.hid (fun p : KidOf W4 => intv_any n p.x)
    have HSM := Lib.hid (fun p : KidOf W4 => same_any HY.out (int_at n w3.heap.size w3 HWF.out) p.x (HB4.out.trans (p.h.mono HB4.out.size)) (Nat.le_trans HB4.out.size p.h.size) true (by simp [jInt]))
    refine wp_region_below (by kernel_rfl) (by kernel_rfl) ?_
    repeat (go_big_quiet_step (first | (go_at_call 12; exact Calls.below_of (HIN.out _)) | (go_at_call 19; exact Calls.below_of (HSM.out _))))
    refine wpQuiet_nil ?_
    rintro W2 ⟨⟨_, hbz⟩, rfl⟩
    have HBZ := Lib.hid (HB34.out.trans (hbz.mono HB34.out.size))
    clear hbz ke0 ke1 ke2 ke3 ke4 hl4 hlo hhi
    have HB2' := HB2
    clear HB2
    have HB2 := HBZ
    go_wp2_with fail
    generalize hW3 : W2.alloc _ = W3
    have hst : NStr W3 W2.heap.size (badT S) := by subst hW3; exact World.alloc_heap_new W2 _
    have hb3 : Below W2.heap.size W2 W3 := by subst hW3; exact (Below.refl _ W2).alloc (Nat.le_refl _) _
    have hM : W2.heap.size < W3.heap.size := by subst hW3; simp
    have HB3 := Lib.hid (HB2.out.trans (hb3.mono HB2.out.size))
    generalize W2.heap.size = M at hst hM ⊢
    have HST := Lib.hid hst
    have HM := Lib.hid hM
    clear hW3 hst hb3 hM
    go_loopw [8] (fun i wr => ∃ k : Nat, k ≤ 6 ∧ i = .int .i64 k ∧ Below W3.heap.size W3 wr) (fun i _ => 6 - (intOf i).toNat)
    case atStart => exact ⟨0, by omega, rfl, Below.refl _ _⟩
    case round =>
      obtain ⟨k, hk, rfl, hbr⟩ := hrel
      have HBR := Lib.hid hbr
      have HSTR := Lib.hid (HST.out.below hbr HM.out)
      clear hbr
      by_cases hlt : k < 6
      · have hlt' : (k : Int) < 6 := by omega
        obtain ⟨T, hT1, hT2, hT3, hT4⟩ := HBAD.out k hlt
        have hc := HSTR.out.cell k (by exact hlt)
        rw [hT1] at hc
        have HT3 := Lib.hid hT3
        have HT4 := Lib.hid hT4
        have HMW := Lib.hid (show M < wr.heap.size from Nat.lt_of_lt_of_le HM.out HBR.out.size)
        clear hT1 hT3 hT4
        go_wp2_with fail
        refine (parse_no T 100 3 wr (by omega) HT3.out).mono ?_
        rintro e w4 ⟨rfl, hb4⟩
        have hc4 : w4.cell? ⟨M, k, none⟩ = some (.string T) := by rw [World.cell?_of_block (hb4.block M HMW.out)]; exact hc
        have HB4 := Lib.hid (HBR.out.trans (hb4.mono HBR.out.size))
        have HM4 := Lib.hid (Nat.lt_of_lt_of_le HMW.out hb4.size)
        clear hb4 hc
        have hg1 : ¬ 9223372036854775807 < 1 + T.size := by omega
        have hg2 : ¬ 9223372036854775807 < (⟨#[91]⟩ ++ T : ByteArray).size + 1 := by
          have : (⟨#[91]⟩ ++ T : ByteArray).size = 1 + T.size := by rw [ByteArray.size_append]; rfl
          omega
        have hg3 : ¬ 9223372036854775807 < 1 + T.size + 1 := by omega
        have hne : ¬ M = w4.heap.size := by have := HM4.out; omega
        have hcA : ∀ o : Obj, (w4.alloc o).cell? ⟨M, k, none⟩ = some (.string T) := fun o => by
          rw [World.cell?_of_block (((Below.refl _ w4).alloc (Nat.le_refl _) o).block M HM4.out)]; exact hc4
        go_wp2_with fail
        generalize hW5 : w4.alloc _ = W5
        have hb5 : Below W3.heap.size W3 W5 := by subst hW5; exact HB4.out.alloc HB4.out.size _
        have HB5 := Lib.hid hb5
        clear hW5 hb5 hcA hne
        generalize hTT : (⟨#[91]⟩ ++ T ++ ⟨#[93]⟩ : ByteArray) = TT at HT4 hT2
        clear hTT hg1 hg2 hg3
        refine (parse_no TT 100 3 W5 (by have := hT2.2; omega) HT4.out).mono ?_
        rintro e w6 ⟨rfl, hb6⟩
        have HB6 := Lib.hid (HB5.out.trans (hb6.mono HB5.out.size))
        clear hb6
        go_wp2
        go_roundw
        case rel => exact ⟨k + 1, by omega, by go_num, HB6.out.alloc HB6.out.size _⟩
        case measure => simp [intOf]; omega
      · have hlt' : ¬ (k : Int) < 6 := by omega
        have hg1 : ¬ 9223372036854775807 < 1 + S.size := by omega
        go_wp2_with fail
        generalize hS0 : (⟨#[48]⟩ ++ S : ByteArray) = S0 at HP0
        clear hS0
        refine (parse_no S0 100 3 wr (by have := HP0.out.2; omega) HP0.out.1).mono ?_
        rintro e w4 ⟨rfl, hb4⟩
        have HB4 := Lib.hid (HBR.out.trans (hb4.mono HBR.out.size))
        clear hb4
        go_wp2_with fail
        generalize hW5 : w4.alloc _ = W5
        have hb5 : Below W3.heap.size W3 W5 := by subst hW5; exact HB4.out.alloc HB4.out.size _
        have HB5 := Lib.hid hb5
        clear hW5 hb5
        generalize hS1 : (⟨#[43]⟩ ++ S : ByteArray) = S1 at HP1
        clear hS1
        refine (parse_no S1 100 2 W5 (by have := HP1.out.2; omega) HP1.out.1).mono ?_
        rintro e w6 ⟨rfl, hb6⟩
        have HB6 := Lib.hid (HB5.out.trans (hb6.mono HB5.out.size))
        clear hb6
        go_wp2
        go_ret
        exact ⟨rfl, HB3.out.trans ((HB6.out.alloc HB6.out.size _).mono HB3.out.size)⟩
  · have HPA := Lib.hid (HNUM.out.no HSL.out (by rw [HPI.out, if_neg hin]))
    go_wp2_with fail
    refine (parse_no S 100 3 w2 (by omega) HPA.out).mono ?_
    rintro e w3 ⟨rfl, hb3⟩
    have HB3 := Lib.hid (HB2.out.trans (hb3.mono HB2.out.size))
    clear hb3 HPA
    have hinb : (decide (-9007199254740991 ≤ n) && decide (n ≤ 9007199254740991)) = false := by
      by_cases h1 : -9007199254740991 ≤ n
      · have h2 : ¬ n ≤ 9007199254740991 := fun h2 => hin ⟨h1, h2⟩
        simp [h2]
      · simp [h1]
    have hst : -9007199254740991 ≤ n → ¬ n ≤ 9007199254740991 := fun h1 h2 => hin ⟨h1, h2⟩
    clear hin
    by_cases hlo : -9007199254740991 ≤ n
    · have hhi : ¬ n ≤ 9007199254740991 := hst hlo
      have hhb : decide (n ≤ 9007199254740991) = false := decide_eq_false hhi
      clear hst hinb
      go_wp2_with fail
      generalize hW4 : w3.alloc _ = W4
      have hb4 : Below w3.heap.size w3 W4 := by subst hW4; exact (Below.refl _ w3).alloc (Nat.le_refl _) _
      have HB34 := Lib.hid (HB3.out.trans (hb4.mono HB3.out.size))
      clear hW4 hb4
      refine wp_region_below (by kernel_rfl) (by kernel_rfl) ?_
      repeat (go_big_quiet_step (fail))
      refine wpQuiet_nil ?_
      rintro W2 ⟨⟨_, hbz⟩, rfl⟩
      have HBZ := Lib.hid (HB34.out.trans (hbz.mono HB34.out.size))
      clear hbz hlo hhi hhb
      have HB2' := HB2
      clear HB2
      have HB2 := HBZ
      go_wp2_with fail
      generalize hW3 : W2.alloc _ = W3
      have hst : NStr W3 W2.heap.size (badT S) := by subst hW3; exact World.alloc_heap_new W2 _
      have hb3 : Below W2.heap.size W2 W3 := by subst hW3; exact (Below.refl _ W2).alloc (Nat.le_refl _) _
      have hM : W2.heap.size < W3.heap.size := by subst hW3; simp
      have HB3 := Lib.hid (HB2.out.trans (hb3.mono HB2.out.size))
      generalize W2.heap.size = M at hst hM ⊢
      have HST := Lib.hid hst
      have HM := Lib.hid hM
      clear hW3 hst hb3 hM
      go_loopw [8] (fun i wr => ∃ k : Nat, k ≤ 6 ∧ i = .int .i64 k ∧ Below W3.heap.size W3 wr) (fun i _ => 6 - (intOf i).toNat)
      case atStart => exact ⟨0, by omega, rfl, Below.refl _ _⟩
      case round =>
        obtain ⟨k, hk, rfl, hbr⟩ := hrel
        have HBR := Lib.hid hbr
        have HSTR := Lib.hid (HST.out.below hbr HM.out)
        clear hbr
        by_cases hlt : k < 6
        · have hlt' : (k : Int) < 6 := by omega
          obtain ⟨T, hT1, hT2, hT3, hT4⟩ := HBAD.out k hlt
          have hc := HSTR.out.cell k (by exact hlt)
          rw [hT1] at hc
          have HT3 := Lib.hid hT3
          have HT4 := Lib.hid hT4
          have HMW := Lib.hid (show M < wr.heap.size from Nat.lt_of_lt_of_le HM.out HBR.out.size)
          clear hT1 hT3 hT4
          go_wp2_with fail
          refine (parse_no T 100 3 wr (by omega) HT3.out).mono ?_
          rintro e w4 ⟨rfl, hb4⟩
          have hc4 : w4.cell? ⟨M, k, none⟩ = some (.string T) := by rw [World.cell?_of_block (hb4.block M HMW.out)]; exact hc
          have HB4 := Lib.hid (HBR.out.trans (hb4.mono HBR.out.size))
          have HM4 := Lib.hid (Nat.lt_of_lt_of_le HMW.out hb4.size)
          clear hb4 hc
          have hg1 : ¬ 9223372036854775807 < 1 + T.size := by omega
          have hg2 : ¬ 9223372036854775807 < (⟨#[91]⟩ ++ T : ByteArray).size + 1 := by
            have : (⟨#[91]⟩ ++ T : ByteArray).size = 1 + T.size := by rw [ByteArray.size_append]; rfl
            omega
          have hg3 : ¬ 9223372036854775807 < 1 + T.size + 1 := by omega
          have hne : ¬ M = w4.heap.size := by have := HM4.out; omega
          have hcA : ∀ o : Obj, (w4.alloc o).cell? ⟨M, k, none⟩ = some (.string T) := fun o => by
            rw [World.cell?_of_block (((Below.refl _ w4).alloc (Nat.le_refl _) o).block M HM4.out)]; exact hc4
          go_wp2_with fail
          generalize hW5 : w4.alloc _ = W5
          have hb5 : Below W3.heap.size W3 W5 := by subst hW5; exact HB4.out.alloc HB4.out.size _
          have HB5 := Lib.hid hb5
          clear hW5 hb5 hcA hne
          generalize hTT : (⟨#[91]⟩ ++ T ++ ⟨#[93]⟩ : ByteArray) = TT at HT4 hT2
          clear hTT hg1 hg2 hg3
          refine (parse_no TT 100 3 W5 (by have := hT2.2; omega) HT4.out).mono ?_
          rintro e w6 ⟨rfl, hb6⟩
          have HB6 := Lib.hid (HB5.out.trans (hb6.mono HB5.out.size))
          clear hb6
          go_wp2
          go_roundw
          case rel => exact ⟨k + 1, by omega, by go_num, HB6.out.alloc HB6.out.size _⟩
          case measure => simp [intOf]; omega
        · have hlt' : ¬ (k : Int) < 6 := by omega
          have hg1 : ¬ 9223372036854775807 < 1 + S.size := by omega
          go_wp2_with fail
          generalize hS0 : (⟨#[48]⟩ ++ S : ByteArray) = S0 at HP0
          clear hS0
          refine (parse_no S0 100 3 wr (by have := HP0.out.2; omega) HP0.out.1).mono ?_
          rintro e w4 ⟨rfl, hb4⟩
          have HB4 := Lib.hid (HBR.out.trans (hb4.mono HBR.out.size))
          clear hb4
          go_wp2_with fail
          generalize hW5 : w4.alloc _ = W5
          have hb5 : Below W3.heap.size W3 W5 := by subst hW5; exact HB4.out.alloc HB4.out.size _
          have HB5 := Lib.hid hb5
          clear hW5 hb5
          generalize hS1 : (⟨#[43]⟩ ++ S : ByteArray) = S1 at HP1
          clear hS1
          refine (parse_no S1 100 2 W5 (by have := HP1.out.2; omega) HP1.out.1).mono ?_
          rintro e w6 ⟨rfl, hb6⟩
          have HB6 := Lib.hid (HB5.out.trans (hb6.mono HB5.out.size))
          clear hb6
          go_wp2
          go_ret
          exact ⟨rfl, HB3.out.trans ((HB6.out.alloc HB6.out.size _).mono HB3.out.size)⟩
    · clear hst hinb
      go_wp2_with fail
      generalize hW4 : w3.alloc _ = W4
      have hb4 : Below w3.heap.size w3 W4 := by subst hW4; exact (Below.refl _ w3).alloc (Nat.le_refl _) _
      have HB34 := Lib.hid (HB3.out.trans (hb4.mono HB3.out.size))
      clear hW4 hb4
      refine wp_region_below (by kernel_rfl) (by kernel_rfl) ?_
      repeat (go_big_quiet_step (fail))
      refine wpQuiet_nil ?_
      rintro W2 ⟨⟨_, hbz⟩, rfl⟩
      have HBZ := Lib.hid (HB34.out.trans (hbz.mono HB34.out.size))
      clear hbz hlo
      have HB2' := HB2
      clear HB2
      have HB2 := HBZ
      go_wp2_with fail
      generalize hW3 : W2.alloc _ = W3
      have hst : NStr W3 W2.heap.size (badT S) := by subst hW3; exact World.alloc_heap_new W2 _
      have hb3 : Below W2.heap.size W2 W3 := by subst hW3; exact (Below.refl _ W2).alloc (Nat.le_refl _) _
      have hM : W2.heap.size < W3.heap.size := by subst hW3; simp
      have HB3 := Lib.hid (HB2.out.trans (hb3.mono HB2.out.size))
      generalize W2.heap.size = M at hst hM ⊢
      have HST := Lib.hid hst
      have HM := Lib.hid hM
      clear hW3 hst hb3 hM
      go_loopw [8] (fun i wr => ∃ k : Nat, k ≤ 6 ∧ i = .int .i64 k ∧ Below W3.heap.size W3 wr) (fun i _ => 6 - (intOf i).toNat)
      case atStart => exact ⟨0, by omega, rfl, Below.refl _ _⟩
      case round =>
        obtain ⟨k, hk, rfl, hbr⟩ := hrel
        have HBR := Lib.hid hbr
        have HSTR := Lib.hid (HST.out.below hbr HM.out)
        clear hbr
        by_cases hlt : k < 6
        · have hlt' : (k : Int) < 6 := by omega
          obtain ⟨T, hT1, hT2, hT3, hT4⟩ := HBAD.out k hlt
          have hc := HSTR.out.cell k (by exact hlt)
          rw [hT1] at hc
          have HT3 := Lib.hid hT3
          have HT4 := Lib.hid hT4
          have HMW := Lib.hid (show M < wr.heap.size from Nat.lt_of_lt_of_le HM.out HBR.out.size)
          clear hT1 hT3 hT4
          go_wp2_with fail
          refine (parse_no T 100 3 wr (by omega) HT3.out).mono ?_
          rintro e w4 ⟨rfl, hb4⟩
          have hc4 : w4.cell? ⟨M, k, none⟩ = some (.string T) := by rw [World.cell?_of_block (hb4.block M HMW.out)]; exact hc
          have HB4 := Lib.hid (HBR.out.trans (hb4.mono HBR.out.size))
          have HM4 := Lib.hid (Nat.lt_of_lt_of_le HMW.out hb4.size)
          clear hb4 hc
          have hg1 : ¬ 9223372036854775807 < 1 + T.size := by omega
          have hg2 : ¬ 9223372036854775807 < (⟨#[91]⟩ ++ T : ByteArray).size + 1 := by
            have : (⟨#[91]⟩ ++ T : ByteArray).size = 1 + T.size := by rw [ByteArray.size_append]; rfl
            omega
          have hg3 : ¬ 9223372036854775807 < 1 + T.size + 1 := by omega
          have hne : ¬ M = w4.heap.size := by have := HM4.out; omega
          have hcA : ∀ o : Obj, (w4.alloc o).cell? ⟨M, k, none⟩ = some (.string T) := fun o => by
            rw [World.cell?_of_block (((Below.refl _ w4).alloc (Nat.le_refl _) o).block M HM4.out)]; exact hc4
          go_wp2_with fail
          generalize hW5 : w4.alloc _ = W5
          have hb5 : Below W3.heap.size W3 W5 := by subst hW5; exact HB4.out.alloc HB4.out.size _
          have HB5 := Lib.hid hb5
          clear hW5 hb5 hcA hne
          generalize hTT : (⟨#[91]⟩ ++ T ++ ⟨#[93]⟩ : ByteArray) = TT at HT4 hT2
          clear hTT hg1 hg2 hg3
          refine (parse_no TT 100 3 W5 (by have := hT2.2; omega) HT4.out).mono ?_
          rintro e w6 ⟨rfl, hb6⟩
          have HB6 := Lib.hid (HB5.out.trans (hb6.mono HB5.out.size))
          clear hb6
          go_wp2
          go_roundw
          case rel => exact ⟨k + 1, by omega, by go_num, HB6.out.alloc HB6.out.size _⟩
          case measure => simp [intOf]; omega
        · have hlt' : ¬ (k : Int) < 6 := by omega
          have hg1 : ¬ 9223372036854775807 < 1 + S.size := by omega
          go_wp2_with fail
          generalize hS0 : (⟨#[48]⟩ ++ S : ByteArray) = S0 at HP0
          clear hS0
          refine (parse_no S0 100 3 wr (by have := HP0.out.2; omega) HP0.out.1).mono ?_
          rintro e w4 ⟨rfl, hb4⟩
          have HB4 := Lib.hid (HBR.out.trans (hb4.mono HBR.out.size))
          clear hb4
          go_wp2_with fail
          generalize hW5 : w4.alloc _ = W5
          have hb5 : Below W3.heap.size W3 W5 := by subst hW5; exact HB4.out.alloc HB4.out.size _
          have HB5 := Lib.hid hb5
          clear hW5 hb5
          generalize hS1 : (⟨#[43]⟩ ++ S : ByteArray) = S1 at HP1
          clear hS1
          refine (parse_no S1 100 2 W5 (by have := HP1.out.2; omega) HP1.out.1).mono ?_
          rintro e w6 ⟨rfl, hb6⟩
          have HB6 := Lib.hid (HB5.out.trans (hb6.mono HB5.out.size))
          clear hb6
          go_wp2
          go_ret
          exact ⟨rfl, HB3.out.trans ((HB6.out.alloc HB6.out.size _).mono HB3.out.size)⟩

theorem numbers_own : ownKnob Try.prog.godebug = none := by kernel_rfl

set_option maxRecDepth 100000 in
theorem numbers_lifted (os : Os) (started : os.Started) (H : Type) (enc : TypeId × Value → H) :
    ReturnsInHanded {} Try.checked os 7 .any (Rows.parseNumbersSpec.pre6 enc Try.prog Try.f7 Rows.parseNumbersRow.domain false) (Rows.parseNumbersSpec.post enc Try.prog Try.f7 false true false false) := by
  refine returnsInHanded_of_change (C := Try.checked) numbers_own started (by kernel_rfl) Try.func7
    (ChangeSpec.witness6 (enc := enc) (C := Try.checked) false ⟨#[], #[.int .i64 0], []⟩ 8 (by kernel_rfl) (by kernel_rfl) (by kernel_rfl) (by kernel_rfl)) ?_
  intro W base args ds gs before hval0 hW hcnd _
  have hval : ∀ (j : Nat) t v, Try.f7.params[j]? = some t → args[j]? = some v → Value.okWide Try.prog W .any base t v := hval0
  have hW' := hW
  obtain ⟨p, q, hA0, hV, rfl, hfz, hnd⟩ := hW
  have hA : DataW.TrodAll enc Try.prog W 0 (fun _ => true) true Try.f7.params.toList args.toList ds p := hA0
  rw [Try.params7] at hA hval
  obtain ⟨v0, vs0, d0, ds0, p0, q0, hargs, rfl, rfl, h0, r0⟩ := trodAll_cons hA
  obtain ⟨rfl, rfl, rfl⟩ := trodAll_nil r0
  obtain rfl : args = #[v0] := by cases args; simp_all
  obtain ⟨rfl, rfl⟩ := trodVars_none hV
  obtain ⟨a0, rfl, rfl, rfl, w0⟩ := open_int Try.underlying2 (hval 0 2 v0 rfl rfl) h0
  clear hA0 hval0
  simp only [List.append_nil] at hW'
  refine (numbers_true a0 W w0).mono fun e W' ⟨he, bel⟩ => ?_
  subst he
  exact ⟨_, rfl, _, _, _, [], [], [], hW', trodAll_mk1 (shut_bool Try.underlying4 _), (trodAll_cons_mk (shut_int Try.underlying2 w0) trodAll_mk0), rfl, bel.frame _, fun h => by cases h⟩

theorem numbers_holds : Rows.ParseNumbersSaid :=
  OpenClaim.holds_of_wide 7 Try.f7 rfl rfl rfl rfl rfl rfl rfl ⟨rfl, rfl, rfl, rfl, rfl⟩ rfl rfl rfl rfl rfl (by kernel_rfl) Try.func7 (by kernel_rfl)
    (of_decide_eq_true (by kernel_rfl)) (by unfold Func.isWrapper; first | (rw [if_pos (by decide +kernel)]; kernel_rfl) | (rw [if_neg (by decide +kernel)]; exact ⟨rfl, rfl⟩))
    (fun os started H enc _ => numbers_lifted os started H enc)
#print axioms numbers_holds

end Go.Proofs.Ythcphfpkinfjoaa
