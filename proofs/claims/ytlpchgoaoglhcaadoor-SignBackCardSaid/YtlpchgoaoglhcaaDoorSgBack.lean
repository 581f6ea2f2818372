/-
  SignBack: what is signed is taken by the seed's key; signed again it is the same; a signature with L more in its second half, or a byte more or less, is not taken.
  Conditions: the two tables of package sha hold what the program's text lays there (tied by the card).
-/
import Derived.Test.YtlpchgoaoglhcaaDoorMb19
import Derived.Test.YtlpchgoaoglhcaaDoorMb13
namespace Go.Proofs.YtlpchgoaoglhcaaDoor
open Go.ChangeShapes Go.WideShapes Go.ChangeAt Go.RowKit
set_option linter.unusedSimpArgs false
set_option linter.unusedVariables false
def hexL : List UInt8 := [101, 100, 100, 51, 102, 53, 53, 99, 49, 97, 54, 51, 49, 50, 53, 56, 100, 54, 57, 99, 102, 55, 97, 50, 100, 101, 102, 57, 100, 101, 49, 52, 48, 48, 48, 48, 48, 48, 48, 48, 48, 48, 48, 48, 48, 48, 48, 48, 48, 48, 48, 48, 48, 48, 48, 48, 48, 48, 48, 48, 48, 48, 49, 48]
theorem hexL_ok : ∀ c ∈ hexL, hexOk c := by decide +kernel
theorem hexL_is : unhex hexL = b32 LL := by decide +kernel
theorem wrap64_small (x : Int) (h0 : 0 ≤ x) (h1 : x < 1000) : IntKind.i64.wrap x = x := by rw [IntKind.wrap_i64]; omega
theorem carry_small {a b c i : Nat} (ha : a < 256) (hb : b < 256) (hc : c ≤ 1) (hi : i < 32) : IntKind.i64.wrap ((32 : Int) + (i : Int)) = ((32 + i : Nat) : Int) ∧ IntKind.i64.wrap ((a : Int) + (b : Int)) = ((a + b : Nat) : Int) ∧ IntKind.i64.wrap ((c : Int) + ((a + b : Nat) : Int)) = ((c + (a + b) : Nat) : Int) :=
  ⟨by rw [wrap64_small _ (by omega) (by omega)]; omega, by rw [wrap64_small _ (by omega) (by omega)]; omega, by rw [wrap64_small _ (by omega) (by omega)]; omega⟩
theorem sum511 {a b c : Nat} (ha : a < 256) (hb : b < 256) (hc : c ≤ 1) : c + (a + b) ≤ 511 := by omega
theorem byte_of (z : Nat) : ((z : Int) % 256) = (((UInt8.ofNat (z % 256)).toNat : Nat) : Int) := by
  simp
theorem run_addi (o : Oper) (ax : Act) (x y : Operand) (ho : o.op = .binOp .add 3 x y 3) (a b : Int) (hx : ax.eval x = .int .i64 a) (hy : ax.eval y = .int .i64 b) (c : Int) (hc : IntKind.i64.wrap (a + b) = c) (w : World) : (execOp ax.eval o).run Tryd.prog w = .ok (.value (.int .i64 c)) w := by
  have hu := Tryd.underlying3
  unfold execOp
  simp only [ho, hx, hy]
  simp [go_sem, hc]
theorem run_conv8 (o : Oper) (ax : Act) (x : Operand) (ho : o.op = .convert 5 3 x) (a : Nat) (hx : ax.eval x = .int .u8 (a : Int)) (ha : a < 256) (w : World) : (execOp ax.eval o).run Tryd.prog w = .ok (.value (.int .i64 (a : Int))) w := by
  have hu := Tryd.underlying3
  have hv := Tryd.underlying5
  have e : IntKind.i64.wrap (a : Int) = a := by rw [IntKind.wrap_i64]; omega
  unfold execOp
  simp only [ho, hx]
  simp [go_sem, e]
theorem run_idx8 (o : Oper) (ax : Act) (x y : Operand) (ho : o.op = .indexAddr 22 x y) (g n cap j : Nat) (hx : ax.eval x = .slice (some ⟨g, 0, none⟩) n cap) (hy : ax.eval y = .int .i64 (j : Int)) (hj : j < n) (w : World) : (execOp ax.eval o).run Tryd.prog w = .ok (.value (.pointer (some ⟨g, j, none⟩))) w := by
  have hu := Tryd.underlying22
  unfold execOp
  simp only [ho, hx, hy]
  simp [go_sem, hj]
theorem run_load8 (o : Oper) (ax : Act) (x : Operand) (ho : o.op = .load 5 x) (g j : Nat) (hx : ax.eval x = .pointer (some ⟨g, j, none⟩)) (v : Value) (w : World) (hc : w.cell? ⟨g, j, none⟩ = some v) : (execOp ax.eval o).run Tryd.prog w = .ok (.value v) w := by
  have hu := Tryd.underlying5
  unfold execOp
  simp only [ho, hx]
  simp [go_sem, hc]
theorem meas_small {i : Nat} (h : i < 32) : 32 - (i + 1) < 32 - i := by omega
theorem meas_small2 {i : Nat} (h : i < 32) : 32 - ((i : Int) + 1).toNat < 32 - ((i : Nat) : Int).toNat := by omega
theorem step_append_bys {ops : Array Oper} {o : Oper} {a : Act} {K : Act → World → Prop} {Q : Exit → Act → World → Prop} {E : Prop} {w : World} (hw : Region.wanted o (yielded ops a.tmps) = true) (s x : Operand)
    (ho : o.op = .call { callee := .builtin .append, args := #[s, x], argTypes := #[22, 22] }) (base : Nat) (v : Value) (xs : List UInt8) (hs : a.eval s = v) (hown : Owns w base v xs)
    (sv : Value) (l : List UInt8) (hx : a.eval x = sv) (hsrc : Bys w sv l) (hnm : xs.length + l.length ≤ 1000000) (hbase : base ≤ w.heap.size)
    (h : ∀ v' w', Owns w' base v' (xs ++ l) → w.grownBy w' v.ownBlock → K (a.put o.dst v') w') :
    if Region.wanted o (yielded ops a.tmps) = true then Oper.wp Tryd.prog o a w K Q else E := by
  rw [if_pos hw]
  obtain ⟨i0, hi0, hz0, hz1, hz2⟩ := info_parts info_u8
  obtain ⟨ao, cap, rfl, hc, hor⟩ := hsrc
  cases ao with
  | none =>
    have h0 : cap = 0 := hc.2.2 rfl
    subst h0
    have hl : l = [] := List.eq_nil_of_length_eq_zero (by have := hc.1; omega)
    subst hl
    have hrun := run_append_owned_none (P := Tryd.prog) (w := w) base 22 o.type 5 i0 1 Tryd.underlying22 hi0 v xs.length (byteVals xs) hown
    have hk := h v w (by simpa using hown) (World.grownBy.refl w _)
    unfold Oper.wp
    simp [execOp, ho, resolve, invoke, builtin, hs, hx, hrun, Result.andThen]
    exact hk
  | some ad =>
    refine wp_append_own w s x _ ho base _ i0 _ 1 1 Tryd.underlying22 hi0 hz0 hz1 hz2 rfl (by decide) v xs.length (byteVals xs) hs hown ad l.length cap (byteVals l) hx (by simp [byteVals]) ?_ (news_one l) (by unfold maxLen; omega) (by omega) hbase (fun v' w' h2 h3 _ => h v' w' (Owns.of_append h2 rfl rfl) h3)
    intro j u hu
    rcases hor with rfl | ⟨g, off, e, hg, hcell⟩
    · simp [byteVals] at hu
    · cases e
      have hj : j < l.length := by
        obtain ⟨h, _⟩ := List.getElem?_eq_some_iff.1 hu
        simpa [byteVals] using h
      rw [Addr.add_lit, hcell j hj, ← hu]
      simp [byteVals, List.getElem?_eq_getElem hj]
theorem wpList_append_bysG {ops : Array Oper} {rest : List Oper} {o : Oper} {a : Act} {Q : Exit → Act → World → Prop} {w : World} (hw : Region.wanted o (yielded ops a.tmps) = true) (s x : Operand)
    (ho : o.op = .call { callee := .builtin .append, args := #[s, x], argTypes := #[22, 22] }) (base : Nat) (v : Value) (xs : List UInt8) (hs : a.eval s = v) (hown : Owns w base v xs)
    (sv : Value) (l : List UInt8) (hx : a.eval x = sv) (hsrc : Bys w sv l) (hnm : xs.length + l.length ≤ 1000000) (hbase : base ≤ w.heap.size)
    (h : ∀ v' w', Owns w' base v' (xs ++ l) → w.grownBy w' v.ownBlock → wpList Tryd.prog ops Q rest (a.put o.dst v') w') : wpList Tryd.prog ops Q (o :: rest) a w := by
  show if Region.wanted o (yielded ops a.tmps) then o.wp Tryd.prog a w (wpList Tryd.prog ops Q rest) Q ∨ (o.asks Tryd.prog a w ∧ LetsOut Q) else wpList Tryd.prog ops Q rest (a.put o.dst undef) w
  rw [if_pos hw]
  left
  have h2 := step_append_bys (K := wpList Tryd.prog ops Q rest) (Q := Q) (E := True) hw s x ho base v xs hs hown sv l hx hsrc hnm hbase h
  rwa [if_pos hw] at h2
theorem bys_take {w : World} {g cs n : Nat} {l : List UInt8} (h : Bys w (.slice (some ⟨g, 0, none⟩) 64 cs) l) (hl : l.length = 64) (hn : n ≤ 64) : Bys w (.slice (some ⟨g, 0, none⟩) n cs) (l.take n) := by
  obtain ⟨ao, cap', hv', hc, h0 | ⟨g', off', rfl, h2, h3⟩⟩ := h
  · subst h0; simp at hl
  · simp only [Value.slice.injEq, Option.some.injEq, Addr.mk.injEq] at hv'
    obtain ⟨⟨rfl, rfl, -⟩, -, rfl⟩ := hv'
    have hlt : (l.take n).length = n := by rw [List.length_take]; omega
    refine ⟨_, cs, by rw [hlt], ⟨by omega, hc.2.1, fun h => by cases h⟩, .inr ⟨g, 0, rfl, h2, fun i hi => ?_⟩⟩
    rw [List.getElem_take]
    exact h3 i (by omega)
theorem sig_parts (s m : List UInt8) : ∃ T E, sigL s m = T ++ E ∧ T.length = 32 ∧ E.length = 32 ∧ le E < LL :=
  ⟨_, _, rfl, topL_len _ _, endL_len _ _ _ _, endL_good _ _ _ _⟩
set_option maxRecDepth 100000 in
set_option maxHeartbeats 8000000 in
theorem sgback_true (s : List UInt8) (hs : s.length = 32) (m : List UInt8) (v : Value) (w : World) (hm : Bys w v m) (hG : Gl w) :
    Calls Tryd.prog 5 #[.agg (byteVals s).toArray, v] w fun e w' => e = .returned (.bool true) ∧ Below w.heap.size w w' := by
  obtain ⟨ao, cap, rfl⟩ := hm.slice
  have HM := Lib.hid hm
  have HG := Lib.hid hG
  have HLS := Lib.hid hs
  clear hm hG hs
  go_enter Tryd.func5, Tryd.ntmps5
  go_upto_region 1 with fail
  generalize hW1 : World.alloc _ _ = W1
  obtain ⟨N, hN⟩ : ∃ n, w.heap.size = n := ⟨_, rfl⟩
  have HX1 := Lib.hid (show CT W1 N 24 (RB s) by subst hW1; rw [← hN]; exact allocs1_at w _)
  have hb1 : Below w.heap.size w W1 := by subst hW1; exact allocs1_below w _
  have HB1 := Lib.hid hb1
  have HG1 := Lib.hid (HG.out.below hb1)
  have HM1 := Lib.hid (HM.out.below hb1)
  rw [hN]
  clear hW1 hN hb1 HG HM
  go_wp2_with fail
  refine (awake10_true W1 HG1.out).mono ?_
  rintro e w2 ⟨rfl, hb2⟩
  have HB2 := Lib.hid (bchain HB1.out hb2)
  have HG2 := Lib.hid (HG1.out.below hb2)
  have HM2 := Lib.hid (HM1.out.below hb2)
  have HX2 := Lib.hid (HX1.out.ext hb2)
  clear hb2 HB1 HG1 HM1 HX1
  by_cases h1 : 300 < m.length
  · have h1' : (300 : Int) < (m.length : Int) := by omega
    go_wp2
    go_ret
    exact ⟨rfl, HB2.out⟩
  have h1' : ¬ (300 : Int) < (m.length : Int) := by omega
  have hml : m.length ≤ 10000 := by omega
  clear h1
  go_wp2_with fail
  refine (Public_ok _ s w2 (ct_all HX2.out HLS.out) HLS.out HG2.out).mono ?_
  rintro e w3 ⟨B, hB, rfl, hct, hb3⟩
  have HP3 := Lib.hid (ct_pub hct)
  have HB3 := Lib.hid (bchain HB2.out hb3)
  have HG3 := Lib.hid (HG2.out.below hb3)
  have HM3 := Lib.hid (HM2.out.below hb3)
  have HX3 := Lib.hid (HX2.out.ext hb3)
  clear hb3 hct hB HB2 HG2 HM2 HX2
  go_wp2_with fail
  refine (Sign_ok _ s _ m w3 (ct_all HX3.out HLS.out) HLS.out HM3.out hml HG3.out).mono ?_
  rintro e w4 ⟨gv, rfl, ho4, hb4⟩
  obtain ⟨gs, cs, rs, rfl, hgs, hcs1, hcs2, how4⟩ := ho4.ow (sigL_len s m) (by decide)
  have HS4' := Lib.hid (how4.bys (sigL_len s m) hcs1 hcs2)
  clear hgs how4
  have HB4 := Lib.hid (bchain HB3.out hb4)
  have HG4 := Lib.hid (HG3.out.below hb4)
  have HM4 := Lib.hid (HM3.out.below hb4)
  have HX4 := Lib.hid (HX3.out.ext hb4)
  have HP4 := Lib.hid (HP3.out.below hb4)
  clear hb4 ho4 HB3 HG3 HM3 HX3 HP3
  go_wp2_with fail
  refine (Sign_ok _ s _ m w4 (ct_all HX4.out HLS.out) HLS.out HM4.out hml HG4.out).mono ?_
  rintro e w5 ⟨gv, rfl, ho5, hb5⟩
  obtain ⟨ga, ca, ra, rfl, hga, hca1, hca2, how5⟩ := ho5.ow (sigL_len s m) (by decide)
  have HA5 := Lib.hid (how5.bys (sigL_len s m) hca1 hca2)
  clear hga how5
  have HS5' := Lib.hid (HS4'.out.below hb5)
  have HB5 := Lib.hid (bchain HB4.out hb5)
  have HG5 := Lib.hid (HG4.out.below hb5)
  have HM5 := Lib.hid (HM4.out.below hb5)
  have HP5 := Lib.hid (HP4.out.below hb5)
  clear hb5 ho5 HB4 HG4 HM4 HX4 HP4 HS4'
  have HY := Lib.hid (lookB_sig s m)
  have HLG := Lib.hid (sigL_len s m)
  have HLP := Lib.hid (pubL_len s)
  obtain ⟨T, E, hTE, hT, hE, hEL⟩ := sig_parts s m
  generalize sigL s m = S at HY HA5 HS5' HLG hTE
  generalize pubL s = P at HY HP5 HLP
  have HTE := Lib.hid hTE
  have HT := Lib.hid hT
  have HE := Lib.hid hE
  have HEL := Lib.hid hEL
  clear hTE hT hE hEL
  have tA := HA5.out.toStr
  have tS := HS5'.out.toStr
  go_wp2_with fail
  refine (Verify_any _ P _ m _ S w5 HP5.out HM5.out HS5'.out hml HG5.out).mono ?_
  rintro e w6 ⟨rfl, hb6⟩
  rw [HY.out]
  have HB6 := Lib.hid (bchain HB5.out hb6)
  have HG6 := Lib.hid (HG5.out.below hb6)
  have HM6 := Lib.hid (HM5.out.below hb6)
  have HP6 := Lib.hid (HP5.out.below hb6)
  have HS6 := Lib.hid (HS5'.out.below hb6)
  clear hb6 tA tS HB5 HG5 HM5 HP5 HS5' HA5 HY
  go_wp2_with fail
  refine (bytes10_any hexL hexL_ok (by decide) w6).mono ?_
  rintro e w7 ⟨kv, rfl, ho7, hb7⟩
  rw [hexL_is] at ho7
  obtain ⟨gk, ck, rk, rfl, hgk, hk1, hk2, how⟩ := ho7.ow (b32_len _) (by decide)
  have HK7 := Lib.hid how
  have HB7 := Lib.hid (bchain HB6.out hb7)
  have HG7 := Lib.hid (HG6.out.below hb7)
  have HM7 := Lib.hid (HM6.out.below hb7)
  have HP7 := Lib.hid (HP6.out.below hb7)
  have HS7 := Lib.hid (HS6.out.below hb7)
  clear hb7 ho7 how hgk hk1 hk2 HB6 HG6 HM6 HP6 HS6
  have HO7 := Lib.hid (owns_empty w7 w7.heap.size (Nat.le_refl _))
  have hbe := (Below.refl w7.heap.size w7).alloc (Nat.le_refl _) (.cells #[] 5)
  have HSE := Lib.hid (HS7.out.below hbe)
  have HBE := Lib.hid hbe
  clear hbe
  go_wp2_with (at_builtin; refine wpList_append_bys rfl _ _ rfl w7.heap.size _ _ rfl HO7.out _ _ rfl HSE.out (by have := HLG.out; simp; omega) (by simp) ?_)
  intro v8 w8 ho8 hg8
  have hb8 : Below w7.heap.size w7 w8 := Below.of_grown HBE.out (by simp) HO7.out hg8
  obtain ⟨gm, cm, rm, rfl, hgm, hcm1, hcm2, how8⟩ := ho8.ow HLG.out (by decide)
  have hnk : gk ≠ gm := by have := HK7.out.lt; omega
  have HO8 := Lib.hid how8
  have HBW := Lib.hid hb8
  have HGM := Lib.hid (show w7.heap.size ≤ gm from hgm)
  have HKLT := Lib.hid HK7.out.lt
  clear hb8 ho8 how8 hg8 HO7 HSE HBE
  rw [HTE.out] at HO8
  have HKL := Lib.hid (show le (b32 LL) = LL from le_b32 _ (by decide))
  have HKN := Lib.hid (b32_len LL)
  generalize b32 LL = Kb at HK7 HKL HKN
  go_wp2_with fail
  go_loopw [13, 14] (fun cv iv wr => ∃ (i c : Nat) (E' : List UInt8), iv = .int .i64 i ∧ i ≤ 32 ∧ cv = .int .i64 c ∧ CSt E Kb E' i c ∧ OW wr gm (T ++ E') rm ∧ Below w7.heap.size w7 wr) (fun _ i _ => 32 - (intOf i).toNat)
  case atStart => exact ⟨0, 0, E, rfl, by omega, rfl, CSt.zero E Kb HE.out, HO8.out, HBW.out⟩
  case round =>
    obtain ⟨i, c, E', rfl, hi, rfl, hst, how, hbr⟩ := hrel
    have HST := Lib.hid hst
    have HOW := Lib.hid how
    have HBR := Lib.hid hbr
    clear hst how hbr HO8 HBW
    by_cases hi32 : i < 32
    · have hi32' : (i : Int) < 32 := by omega
      have hi64 : 32 + i < 32 + 32 := by omega
      have HK := Lib.hid (HK7.out.ext HBR.out)
      have x1 : wr.cell? ⟨gm, 32 + i, none⟩ = some (.int .u8 ((E'.getD i 0).toNat : Int)) := by
        rw [HOW.out.cell (i := 32 + i) (by rw [List.length_append, HT.out, HST.out.len]; exact hi64), getD_right _ _ _ HT.out]
      have f1 : wr.frozen? ⟨gm, 32 + i, none⟩ = false := HOW.out.frozen _
      have x2 : wr.cell? ⟨gk, i, none⟩ = some (.int .u8 ((Kb.getD i 0).toNat : Int)) := HK.out.cell (by rw [HKN.out]; exact hi32)
      have HNX := Lib.hid (fun z hz => HST.out.step HE.out HKN.out hi32 (z := z) hz)
      have hc1 := HST.out.c1
      obtain ⟨a, ha⟩ : ∃ a, (E'.getD i 0).toNat = a := ⟨_, rfl⟩
      obtain ⟨b, hb⟩ : ∃ b, (Kb.getD i 0).toNat = b := ⟨_, rfl⟩
      have ha2 : a < 256 := by rw [← ha]; exact UInt8.toNat_lt _
      have hb2 : b < 256 := by rw [← hb]; exact UInt8.toNat_lt _
      rw [ha] at x1 HNX
      rw [hb] at x2 HNX
      have HNX2 := Lib.hid (HNX.out (c + (a + b)) rfl)
      clear HNX ha hb
      go_wp2_with fail
      have hg1 : gm < wr.heap.size := HOW.out.lt
      have hg2 : gk < wr.heap.size := HK.out.lt
      have y1 : ∀ X, Below wr.heap.size wr X → X.cell? ⟨gm, 32 + i, none⟩ = some (.int .u8 (a : Int)) := fun X hX => (hX.cell (p := ⟨gm, 32 + i, none⟩) hg1).trans x1
      have y2 : ∀ X, Below wr.heap.size wr X → X.cell? ⟨gk, i, none⟩ = some (.int .u8 (b : Int)) := fun X hX => (hX.cell (p := ⟨gk, i, none⟩) hg2).trans x2
      have HC1 := Lib.hid (carry_small ha2 hb2 hc1 hi32)
      refine wp_region_held_drew (S := fun X => Below wr.heap.size wr X) (by kernel_rfl) (below_dr wr) (fun hHeld => ?_)
      generalize World.drew wr = V0 at hHeld ⊢
      refine wpAnyH_take (i := 0) (v := .int .i64 (c : Nat)) rfl (by kernel_rfl) (by kernel_rfl) (by kernel_rfl) (fun _ _ _ h => h) (.inl ⟨by rfl, fun _ _ => by kernel_rfl⟩) hHeld ?_
      try simp only [List.getElem_toArray, List.getElem_cons_succ, List.getElem_cons_zero, Act.put, List.setIfInBounds_toArray, List.set_cons_zero, List.set_cons_succ]
      refine wpAnyH_take (i := 1) (v := .slice (some ⟨gm, 0, none⟩) 64 cm) rfl (by kernel_rfl) (by kernel_rfl) (by kernel_rfl) (fun _ _ _ h => h) (.inl ⟨by rfl, fun _ _ => by kernel_rfl⟩) hHeld ?_
      try simp only [List.getElem_toArray, List.getElem_cons_succ, List.getElem_cons_zero, Act.put, List.setIfInBounds_toArray, List.set_cons_zero, List.set_cons_succ]
      refine wpAnyH_take (i := 2) (v := .int .i64 (i : Nat)) rfl (by kernel_rfl) (by kernel_rfl) (by kernel_rfl) (fun _ _ _ h => h) (.inl ⟨by rfl, fun _ _ => by kernel_rfl⟩) hHeld ?_
      try simp only [List.getElem_toArray, List.getElem_cons_succ, List.getElem_cons_zero, Act.put, List.setIfInBounds_toArray, List.set_cons_zero, List.set_cons_succ]
      refine wpAnyH_take (i := 3) (v := .int .i64 ((32 + i : Nat) : Int)) rfl (by kernel_rfl) (by kernel_rfl) (by kernel_rfl) (fun _ _ _ h => h) (.inl ⟨by rfl, fun X hX => run_addi _ _ _ _ rfl 32 i rfl rfl _ HC1.out.1 X⟩) hHeld ?_
      try simp only [List.getElem_toArray, List.getElem_cons_succ, List.getElem_cons_zero, Act.put, List.setIfInBounds_toArray, List.set_cons_zero, List.set_cons_succ]
      refine wpAnyH_take (i := 4) (v := .pointer (some ⟨gm, 32 + i, none⟩)) rfl (by kernel_rfl) (by kernel_rfl) (by kernel_rfl) (fun _ _ _ h => h) (.inl ⟨by rfl, fun X hX => run_idx8 _ _ _ _ rfl gm 64 cm (32 + i) rfl rfl hi64 X⟩) hHeld ?_
      try simp only [List.getElem_toArray, List.getElem_cons_succ, List.getElem_cons_zero, Act.put, List.setIfInBounds_toArray, List.set_cons_zero, List.set_cons_succ]
      refine wpAnyH_take (i := 5) (v := .int .u8 (a : Int)) rfl (by kernel_rfl) (by kernel_rfl) (by kernel_rfl) (fun _ _ _ h => h) (.inl ⟨by rfl, fun X hX => run_load8 _ _ _ rfl gm (32 + i) rfl _ X (y1 X hX)⟩) hHeld ?_
      try simp only [List.getElem_toArray, List.getElem_cons_succ, List.getElem_cons_zero, Act.put, List.setIfInBounds_toArray, List.set_cons_zero, List.set_cons_succ]
      refine wpAnyH_take (i := 6) (v := .int .i64 (a : Int)) rfl (by kernel_rfl) (by kernel_rfl) (by kernel_rfl) (fun _ _ _ h => h) (.inl ⟨by rfl, fun X hX => run_conv8 _ _ _ rfl a rfl ha2 X⟩) hHeld ?_
      try simp only [List.getElem_toArray, List.getElem_cons_succ, List.getElem_cons_zero, Act.put, List.setIfInBounds_toArray, List.set_cons_zero, List.set_cons_succ]
      refine wpAnyH_take (i := 7) (v := .slice (some ⟨gk, 0, none⟩) 32 ck) rfl (by kernel_rfl) (by kernel_rfl) (by kernel_rfl) (fun _ _ _ h => h) (.inl ⟨by rfl, fun _ _ => by kernel_rfl⟩) hHeld ?_
      try simp only [List.getElem_toArray, List.getElem_cons_succ, List.getElem_cons_zero, Act.put, List.setIfInBounds_toArray, List.set_cons_zero, List.set_cons_succ]
      refine wpAnyH_take (i := 8) (v := .int .i64 (i : Nat)) rfl (by kernel_rfl) (by kernel_rfl) (by kernel_rfl) (fun _ _ _ h => h) (.inl ⟨by rfl, fun _ _ => by kernel_rfl⟩) hHeld ?_
      try simp only [List.getElem_toArray, List.getElem_cons_succ, List.getElem_cons_zero, Act.put, List.setIfInBounds_toArray, List.set_cons_zero, List.set_cons_succ]
      refine wpAnyH_take (i := 9) (v := .pointer (some ⟨gk, i, none⟩)) rfl (by kernel_rfl) (by kernel_rfl) (by kernel_rfl) (fun _ _ _ h => h) (.inl ⟨by rfl, fun X hX => run_idx8 _ _ _ _ rfl gk 32 ck i rfl rfl hi32 X⟩) hHeld ?_
      try simp only [List.getElem_toArray, List.getElem_cons_succ, List.getElem_cons_zero, Act.put, List.setIfInBounds_toArray, List.set_cons_zero, List.set_cons_succ]
      refine wpAnyH_take (i := 10) (v := .int .u8 (b : Int)) rfl (by kernel_rfl) (by kernel_rfl) (by kernel_rfl) (fun _ _ _ h => h) (.inl ⟨by rfl, fun X hX => run_load8 _ _ _ rfl gk i rfl _ X (y2 X hX)⟩) hHeld ?_
      try simp only [List.getElem_toArray, List.getElem_cons_succ, List.getElem_cons_zero, Act.put, List.setIfInBounds_toArray, List.set_cons_zero, List.set_cons_succ]
      refine wpAnyH_take (i := 11) (v := .int .i64 (b : Int)) rfl (by kernel_rfl) (by kernel_rfl) (by kernel_rfl) (fun _ _ _ h => h) (.inl ⟨by rfl, fun X hX => run_conv8 _ _ _ rfl b rfl hb2 X⟩) hHeld ?_
      try simp only [List.getElem_toArray, List.getElem_cons_succ, List.getElem_cons_zero, Act.put, List.setIfInBounds_toArray, List.set_cons_zero, List.set_cons_succ]
      refine wpAnyH_take (i := 12) (v := .int .i64 ((a + b : Nat) : Int)) rfl (by kernel_rfl) (by kernel_rfl) (by kernel_rfl) (fun _ _ _ h => h) (.inl ⟨by rfl, fun X hX => run_addi _ _ _ _ rfl a b rfl rfl _ HC1.out.2.1 X⟩) hHeld ?_
      try simp only [List.getElem_toArray, List.getElem_cons_succ, List.getElem_cons_zero, Act.put, List.setIfInBounds_toArray, List.set_cons_zero, List.set_cons_succ]
      refine wpAnyH_take (i := 13) (v := .int .i64 ((c + (a + b) : Nat) : Int)) rfl (by kernel_rfl) (by kernel_rfl) (by kernel_rfl) (fun _ _ _ h => h) (.inl ⟨by rfl, fun X hX => run_addi _ _ _ _ rfl c ((a + b : Nat) : Int) rfl rfl _ HC1.out.2.2 X⟩) hHeld ?_
      try simp only [List.getElem_toArray, List.getElem_cons_succ, List.getElem_cons_zero, Act.put, List.setIfInBounds_toArray, List.set_cons_zero, List.set_cons_succ]
      refine wpAnyH_take (i := 14) (v := .int .i64 ((c + (a + b) : Nat) : Int)) rfl (by kernel_rfl) (by kernel_rfl) (by kernel_rfl) (fun _ _ _ h => h) (.inl ⟨by rfl, fun _ _ => by kernel_rfl⟩) hHeld ?_
      try simp only [List.getElem_toArray, List.getElem_cons_succ, List.getElem_cons_zero, Act.put, List.setIfInBounds_toArray, List.set_cons_zero, List.set_cons_succ]
      refine wpAnyH_done (by kernel_rfl) ?_ _
      obtain ⟨z, hz⟩ : ∃ z, c + (a + b) = z := ⟨_, rfl⟩
      have HZ := Lib.hid (show z ≤ 511 by rw [← hz]; exact sum511 ha2 hb2 hc1)
      rw [hz] at HNX2 ⊢
      clear hz x1 x2 y1 y2
      have f2 : V0.frozen? ⟨gm, 32 + i, none⟩ = false := by
        have := (HOW.out.ext hHeld).frozen (32 + i)
        exact this
      have HOV := Lib.hid (HOW.out.ext hHeld)
      have HBV := Lib.hid (HBR.out.trans (hHeld.mono HBR.out.size))
      have x3 : V0.cell? ⟨gm, 32 + i, none⟩ = some (.int .u8 (((T ++ E').getD (32 + i) 0).toNat : Int)) := HOV.out.cell (by rw [List.length_append, HT.out, HST.out.len]; exact hi64)
      generalize ((T ++ E').getD (32 + i) 0).toNat = old at x3
      have HBO := Lib.hid (byte_of z)
      have HSET := Lib.hid (show OW (V0.setCell ⟨gm, 32 + i, none⟩ (.int .u8 ((z : Int) % 256))) gm (T ++ E'.set i (UInt8.ofNat (z % 256))) rm by
        rw [HBO.out, ← set_right _ _ _ _ HT.out]
        exact HOV.out.set (by rw [List.length_append, HT.out, HST.out.len]; exact hi64) _)
      have HBS := Lib.hid (HBV.out.setCell (p := ⟨gm, 32 + i, none⟩) HGM.out (.int .u8 ((z : Int) % 256)))
      go_wp2_with fail
      refine ⟨⟨i + 1, z / 256, _, by go_num, hi32, by go_num, HNX2.out, HSET.out, HBS.out⟩, ?_⟩
      simp only [intOf]
      exact meas_small2 hi32
    · obtain rfl : i = 32 := Nat.le_antisymm hi (Nat.le_of_not_lt hi32)
      obtain ⟨rfl, hbig⟩ := HST.out.full HE.out HKN.out HEL.out HKL.out
      have HBIG := Lib.hid hbig
      have HLE := Lib.hid HST.out.len
      clear hbig
      have HOB := Lib.hid (HOW.out.bys (n := 64) (by rw [List.length_append, HT.out, HLE.out]) hcm1 hcm2)
      have HPr := Lib.hid (HP7.out.below HBR.out)
      have HMr := Lib.hid (HM7.out.below HBR.out)
      have HGr := Lib.hid (HG7.out.below HBR.out)
      have HSr := Lib.hid (HS7.out.below HBR.out)
      have HBr := Lib.hid (bchain HB7.out HBR.out)
      have HV1 := Lib.hid (lookB_big (pub := P) (m := m) (a := T) (b := E') HT.out HBIG.out)
      clear HST HOW HBR HK7 HP7 HM7 HG7 HS7 HB7 HKL HKN HBIG hi hi32
      go_wp2_with fail
      refine (Verify_any _ P _ m _ (T ++ E') wr HPr.out HMr.out HOB.out hml HGr.out).mono ?_
      rintro e w9 ⟨rfl, hb9⟩
      rw [HV1.out]
      have HB9 := Lib.hid (bchain HBr.out hb9)
      have HG9 := Lib.hid (HGr.out.below hb9)
      have HM9 := Lib.hid (HMr.out.below hb9)
      have HP9 := Lib.hid (HPr.out.below hb9)
      have HS9 := Lib.hid (HSr.out.below hb9)
      clear hb9 HBr HGr HMr HPr HSr HOB HV1
      have HO9 := Lib.hid (owns_empty w9 w9.heap.size (Nat.le_refl _))
      have hbe9 := (Below.refl w9.heap.size w9).alloc (Nat.le_refl _) (.cells #[] 5)
      have HBE9 := Lib.hid hbe9
      have HSE9 := Lib.hid (HS9.out.below hbe9)
      clear hbe9
      have hls : ([] : List UInt8).length + S.length ≤ 1000000 := by rw [HLG.out]; decide
      have hws : w9.heap.size ≤ (w9.alloc (.cells #[] 5)).heap.size := by simp
      go_wp2_with (at_builtin; refine wpList_append_bysG (by rfl) _ _ rfl w9.heap.size _ _ rfl HO9.out _ _ rfl HSE9.out hls hws ?_)
      intro v10 w10 ho10 hg10
      have hb10 : Below w9.heap.size w9 w10 := Below.of_grown HBE9.out hws HO9.out hg10
      have HO10 := Lib.hid (show Owns w10 w9.heap.size v10 S from ho10)
      have HB10 := Lib.hid hb10
      clear ho10 hb10 hg10 HO9 HBE9 HSE9 hls hws
      have HOW := Lib.hid (HO10.out.alloc (.cells #[.int .u8 0] 5))
      have HZ0 := Lib.hid (show Bys (w10.alloc (.cells #[.int .u8 0] 5)) (.slice (some ⟨w10.heap.size, 0, none⟩) 1 1) [0] from bys_new w10 [0] (by decide))
      have hls : S.length + ([0] : List UInt8).length ≤ 1000000 := by rw [HLG.out]; decide
      have hz10 := HB10.out.size
      have hws : w9.heap.size ≤ (w10.alloc (.cells #[.int .u8 0] 5)).heap.size := by simp; omega
      go_wp2_with (at_builtin; refine wpList_append_bysG (by rfl) _ _ rfl w9.heap.size _ _ rfl HOW.out _ _ rfl HZ0.out hls hws ?_)
      intro v11 w11 ho11 hg11
      have hb11 : Below w9.heap.size w9 w11 := Below.of_grown (HB10.out.alloc hz10 (.cells #[.int .u8 0] 5)) hws HOW.out hg11
      have HS11 := Lib.hid (show Bys w11 v11 (S ++ [0]) from ho11.bys)
      have HB11 := Lib.hid (bchain HB9.out hb11)
      have HG11 := Lib.hid (HG9.out.below hb11)
      have HM11 := Lib.hid (HM9.out.below hb11)
      have HP11 := Lib.hid (HP9.out.below hb11)
      have HO11 := Lib.hid (HS9.out.below hb11)
      have HV2 := Lib.hid (lookB_len (pub := P) (m := m) (sig := S ++ [0]) (fun h => by have h2 := h.2; rw [List.length_append, HLG.out] at h2; exact absurd h2 (by decide)))
      clear hb11 ho11 hg11 HOW HZ0 hls hws hz10 HB10 HO10 HB9 HG9 HM9 HP9 HS9
      go_wp2_with fail
      refine (Verify_any _ P _ m _ (S ++ [0]) w11 HP11.out HM11.out HS11.out hml HG11.out).mono ?_
      rintro e w12 ⟨rfl, hb12⟩
      rw [HV2.out]
      have HB12 := Lib.hid (bchain HB11.out hb12)
      have HG12 := Lib.hid (HG11.out.below hb12)
      have HM12 := Lib.hid (HM11.out.below hb12)
      have HP12 := Lib.hid (HP11.out.below hb12)
      have HO12 := Lib.hid (HO11.out.below hb12)
      clear hb12 HB11 HG11 HM11 HP11 HO11 HS11 HV2
      have HTK := Lib.hid (show Bys w12 (.slice (some ⟨gs, 0, none⟩) 63 cs) (S.take 63) from bys_take HO12.out HLG.out (by decide))
      have HV3 := Lib.hid (lookB_len (pub := P) (m := m) (sig := S.take 63) (fun h => by have h2 := h.2; rw [List.length_take, HLG.out] at h2; exact absurd h2 (by decide)))
      have hc63 : (63 : Int) ≤ (cs : Int) := by omega
      go_wp2_with fail
      refine (Verify_any _ P _ m _ (S.take 63) w12 HP12.out HM12.out HTK.out hml HG12.out).mono ?_
      rintro e w13 ⟨rfl, hb13⟩
      rw [HV3.out]
      have HB13 := Lib.hid (bchain HB12.out hb13)
      have HG13 := Lib.hid (HG12.out.below hb13)
      have HM13 := Lib.hid (HM12.out.below hb13)
      have HP13 := Lib.hid (HP12.out.below hb13)
      have HO13 := Lib.hid (HO12.out.below hb13)
      clear hb13 HB12 HG12 HM12 HP12 HO12 HTK HV3
      have HO9 := Lib.hid (owns_empty w13 w13.heap.size (Nat.le_refl _))
      have hbe9 := (Below.refl w13.heap.size w13).alloc (Nat.le_refl _) (.cells #[] 5)
      have HBE9 := Lib.hid hbe9
      have HSE9 := Lib.hid (HP13.out.below hbe9)
      clear hbe9
      have hls : ([] : List UInt8).length + P.length ≤ 1000000 := by rw [HLP.out]; decide
      have hws : w13.heap.size ≤ (w13.alloc (.cells #[] 5)).heap.size := by simp
      go_wp2_with (at_builtin; refine wpList_append_bysG (by rfl) _ _ rfl w13.heap.size _ _ rfl HO9.out _ _ rfl HSE9.out hls hws ?_)
      intro v14 w14 ho14 hg14
      have hb14 : Below w13.heap.size w13 w14 := Below.of_grown HBE9.out hws HO9.out hg14
      have HO14 := Lib.hid (show Owns w14 w13.heap.size v14 P from ho14)
      have HB14 := Lib.hid hb14
      clear ho14 hb14 hg14 HO9 HBE9 HSE9 hls hws
      have HOW := Lib.hid (HO14.out.alloc (.cells #[.int .u8 0] 5))
      have HZ0 := Lib.hid (show Bys (w14.alloc (.cells #[.int .u8 0] 5)) (.slice (some ⟨w14.heap.size, 0, none⟩) 1 1) [0] from bys_new w14 [0] (by decide))
      have hls : P.length + ([0] : List UInt8).length ≤ 1000000 := by rw [HLP.out]; decide
      have hz14 := HB14.out.size
      have hws : w13.heap.size ≤ (w14.alloc (.cells #[.int .u8 0] 5)).heap.size := by simp; omega
      go_wp2_with (at_builtin; refine wpList_append_bysG (by rfl) _ _ rfl w13.heap.size _ _ rfl HOW.out _ _ rfl HZ0.out hls hws ?_)
      intro v15 w15 ho15 hg15
      have hb15 : Below w13.heap.size w13 w15 := Below.of_grown (HB14.out.alloc hz14 (.cells #[.int .u8 0] 5)) hws HOW.out hg15
      have HP15 := Lib.hid (show Bys w15 v15 (P ++ [0]) from ho15.bys)
      have HB15 := Lib.hid (bchain HB13.out hb15)
      have HG15 := Lib.hid (HG13.out.below hb15)
      have HM15 := Lib.hid (HM13.out.below hb15)
      have HO15 := Lib.hid (HO13.out.below hb15)
      have HV4 := Lib.hid (lookB_len (pub := P ++ [0]) (m := m) (sig := S) (fun h => by have h2 := h.1; rw [List.length_append, HLP.out] at h2; exact absurd h2 (by decide)))
      clear hb15 ho15 hg15 HOW HZ0 hls hws hz14 HB14 HO14 HB13 HG13 HM13 HP13 HO13
      go_wp2_with fail
      refine (Verify_any _ (P ++ [0]) _ m _ S w15 HP15.out HM15.out HO15.out hml HG15.out).mono ?_
      rintro e w16 ⟨rfl, hb16⟩
      rw [HV4.out]
      have HB16 := Lib.hid (bchain HB15.out hb16)
      clear hb16 HB15 HG15 HM15 HP15 HO15 HV4
      go_wp2
      go_ret
      exact ⟨rfl, HB16.out⟩
theorem sgback_laid : laidOutB Tryd.prog = true := by kernel_rfl
set_option maxRecDepth 100000 in
theorem sgback_lifted (os : Os) (started : os.Started) (H : Type) (enc : TypeId × Value → H) :
    ReturnsInHanded {} Tryd.checked os 5 .any (fun w args => (Rows.signBackSpec.pre enc Tryd.prog Tryd.f5 [] false w args ∧ laidMetH Tryd.prog laid2 w) ∧ sizedMet enc Tryd.prog Tryd.f5 (OpenSpec.ofChange Rows.signBackSpec) false w args)
      (Rows.signBackSpec.post enc Tryd.prog Tryd.f5 false true false false) := by
  refine returnsInHanded_of_change_and (C := Tryd.checked) (X := fun w _ => laidMetH Tryd.prog laid2 w) (fun _ _ _ hh h => h.of_heap hh) door_own started (by kernel_rfl) Tryd.func5
    (ChangeSpec.witness_shaped (enc := enc) (C := Tryd.checked) (os := os) (X := fun w _ => laidMetH Tryd.prog laid2 w) false (World.doorLaid Tryd.prog doorSteps os) #[.agg (Array.replicate 32 (.int .u8 0)), .slice none 0 0] 8 rfl (World.shaped_of_RefB (by kernel_rfl) (by kernel_rfl)) (by kernel_rfl) (by kernel_rfl) (by kernel_rfl) (door_met os _)) ?_
  intro W base args ds gs before hval0 hW _ _ hL _
  have hval : ∀ (j : Nat) t v, Tryd.f5.params[j]? = some t → args[j]? = some v → Value.okWide Tryd.prog W .any base t v := hval0
  have hW' := hW
  obtain ⟨p, q, hA0, hV, rfl, hfz, hnd⟩ := hW
  have hA : DataW.TrodAll enc Tryd.prog W 0 (fun _ => true) true Tryd.f5.params.toList args.toList ds p := hA0
  rw [Tryd.params5] at hA hval
  obtain ⟨v0, vs0, d0, ds0, p0, q0, hargs, rfl, rfl, h0, r0⟩ := trodAll_cons hA
  obtain ⟨v1, vs1, d1, ds1, p1, q1, rfl, rfl, rfl, h1, r1⟩ := trodAll_cons r0
  obtain ⟨rfl, rfl, rfl⟩ := trodAll_nil r1
  obtain rfl : args = #[v0, v1] := by cases args; simp_all
  obtain ⟨rfl, rfl⟩ := trodVars_none hV
  obtain ⟨a0, hl0, rfl, rfl, rfl⟩ := open_arr8 Tryd.underlying24 Tryd.underlying5 (by kernel_rfl) (by kernel_rfl) (hval 0 24 v0 rfl rfl) h0
  have hlt1 : ∀ x ∈ p1, x.block < W.heap.size := fun x hx => hW'.lt x (by simp [hx])
  have hh1 := h1
  obtain ⟨l1, hv1⟩ := open_bys (hval 1 22 v1 rfl rfl) h1
  clear hA0 hval0
  simp only [List.append_nil] at hW'
  refine (sgback_true a0 hl0 l1 v1 W hv1 (of_laid hL)).mono fun e W' ⟨he, bel⟩ => ?_
  subst he
  exact ⟨_, rfl, _, _, _, [], _, [], hW', trodAll_mk1 (shut_bool Tryd.underlying4 _), (trodAll_cons_mk (shut_arr8 Tryd.underlying24 Tryd.underlying5 (by kernel_rfl) (by kernel_rfl) a0 hl0) (trodAll_cons_mk (Below.trod sgback_laid (by kernel_rfl) (of_decide_eq_true (by kernel_rfl)) hh1 bel hlt1) trodAll_mk0)), rfl, bel.frame _, fun h => by cases h⟩
theorem sgback_holds : Rows.SignBackSaid :=
  OpenClaim.holds_of_wide 5 Tryd.f5 rfl rfl rfl rfl rfl rfl rfl ⟨rfl, rfl, rfl, rfl, rfl⟩ rfl rfl rfl rfl rfl (by kernel_rfl) Tryd.func5 (by kernel_rfl)
    (of_decide_eq_true (by kernel_rfl)) (by unfold Func.isWrapper; first | (rw [if_pos (by decide +kernel)]; kernel_rfl) | (rw [if_neg (by decide +kernel)]; exact ⟨rfl, rfl⟩))
    (fun os started H enc _ => sgback_lifted os started H enc)
theorem sgback_card : Rows.SignBackCardSaid :=
  Claim7.holds_tied_plain_at .later [] Rows.signBackCard.laidKinds true Rows.signBackCard.stood.harness false
    sgback_holds (fun _ h => by cases h) (by kernel_rfl) (fun _ h => by cases h) signBack_row_tie rfl ⟨rfl, rfl⟩ (by kernel_rfl) rfl
    (fun f fn hf hfn => by
      obtain rfl : f = 5 := Option.some.inj ((show Tryd.prog.funcNamed "introit/introitlaw10.SignBack" = some 5 by kernel_rfl).symm.trans hf) |>.symm
      obtain rfl : fn = Tryd.f5 := (Option.some.inj (Tryd.func5.symm.trans hfn)).symm
      exact ⟨by kernel_rfl, fun j t ht => by
        rw [Tryd.params5] at ht
        have hm : t ∈ [24, 22] := by simpa using Array.mem_of_getElem? ht
        have hall : ([24, 22].all fun u => !Tryd.prog.wantsStandIn u) = true := by kernel_rfl
        exact (show Tryd.prog.wantsStandIn t = false by simpa using List.all_eq_true.1 hall t hm)⟩)
    (by kernel_rfl)
#print axioms sgback_card
end Go.Proofs.YtlpchgoaoglhcaaDoor
