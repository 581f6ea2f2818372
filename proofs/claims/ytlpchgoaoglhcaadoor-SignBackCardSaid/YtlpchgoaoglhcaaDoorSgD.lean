/-
  Package sign: the method that signs.
  Conditions: none.
-/
import Derived.Test.YtlpchgoaoglhcaaDoorMb15
namespace Go.Proofs.YtlpchgoaoglhcaaDoor
open Go.RowKit
set_option linter.unusedSimpArgs false
set_option linter.unusedVariables false
/-- The first half of a signature, and the second. -/
noncomputable def topL (x m : List UInt8) : List UInt8 := b32 (pN (ptimes (le (dgL (x ++ m))) cB))
noncomputable def endL (s x a m : List UInt8) : List UInt8 := b32 (oMul (le (dgL (topL x m ++ (a ++ m)))) (le s) (le (dgL (x ++ m))))
theorem topL_len (x m : List UInt8) : (topL x m).length = 32 := b32_len _
theorem endL_len (s x a m : List UInt8) : (endL s x a m).length = 32 := b32_len _
theorem bss_at {w : World} {M : Nat} {us : Array Value} {t : TypeId} (hc : w.heap[M]? = some (.cells us t (0, 0))) (ll : List (List UInt8)) (h : ∀ i (h : i < ll.length), ∃ u, us[i]? = some u ∧ Bys w u ll[i]) (n : Nat) (hn : n = ll.length) : Bss w.heap.size w (.slice (some ⟨M, 0, none⟩) n n) ll := by
  subst hn
  refine ⟨_, _, rfl, .inr ⟨M, 0, rfl, (Array.getElem?_eq_some_iff.1 hc).1, fun i hi => ?_⟩⟩
  obtain ⟨u, h1, h2⟩ := h i hi
  refine ⟨u, ?_, h2.b (Nat.le_refl _)⟩
  rw [cell_of_row _ _ _ _ _ _ hc, Nat.zero_add]
  exact h1
theorem bss_us3 {w : World} {u u' u2 : Value} {l l' l2 : List UInt8} (h : Bys w u l) (h' : Bys w u' l') (h2 : Bys w u2 l2) : ∀ i (h : i < [l, l', l2].length), ∃ v, #[u, u', u2][i]? = some v ∧ Bys w v [l, l', l2][i] := fun i hi => by
  have h0 : i = 0 ∨ i = 1 ∨ i = 2 := by simp at hi; omega
  rcases h0 with rfl | rfl | rfl
  · exact ⟨u, rfl, h⟩
  · exact ⟨u', rfl, h'⟩
  · exact ⟨u2, rfl, h2⟩
/-- A part of a block of bytes, as a slice. -/
theorem ct_part {w : World} {b o n : Nat} {t : TypeId} {pre mid post : List UInt8} (h : CT w b t (RB (pre ++ (mid ++ post)))) (ho : pre.length = o) (hn : mid.length = n) (hm : n ≤ 100000) : Bys w (.slice (some ⟨b, o, none⟩) n n) mid := by
  subst hn
  refine ⟨_, _, rfl, ⟨Nat.le_refl _, by unfold maxLen; omega, fun h => by cases h⟩, .inr ⟨b, o, rfl, h.lt, fun i hi => ?_⟩⟩
  have hc := bytes_part pre mid post o ho i (.int .u8 (mid[i].toNat : Int)) (by simp [byteVals, hi])
  unfold World.cell?
  rw [show w.heap[b]? = _ from h]
  simpa [RB] using hc
theorem ct_all {w : World} {b : Nat} {t : TypeId} {l : List UInt8} (h : CT w b t (RB l)) (hl : l.length = 32) : Bys w (.slice (some ⟨b, 0, none⟩) 32 32) l :=
  ct_part (pre := []) (post := []) (by simpa using h) rfl hl (by decide)
theorem CT.range {w : World} {b o : Nat} {t : TypeId} {X : Array Value} {l : List UInt8} (h : CT w b t X) (hp : ∀ (j : Nat) (v : Value), (RB l)[j]? = some v → X[o + j]? = some v) : w.rangeAt b o (byteVals l) := fun j v hv => by
  have := hp j v (by simpa [RB] using hv)
  unfold World.cell?
  rw [show w.heap[b]? = _ from h]
  simpa using this
theorem Owns.base {w : World} {B B' : Nat} {v : Value} {xs : List UInt8} (h : Owns w B v xs) (hB : B' ≤ B) : Owns w B' v xs := by
  obtain ⟨h1, h2⟩ := h
  rcases h2 with ⟨rfl, hn⟩ | ⟨g, cap, cur, rfl, hg, h3⟩
  · exact ⟨h1, .inl ⟨rfl, hn⟩⟩
  · exact ⟨h1, .inr ⟨g, cap, cur, rfl, Nat.le_trans hB hg, h3⟩⟩
theorem below_al {w w' : World} (h : Below w.heap.size w w') (o : Obj) : Below w.heap.size w (w'.alloc o) := h.alloc h.size _
theorem below_dr (w : World) : Below w.heap.size w w.drew := (Below.refl _ w).drew
theorem step_store_row {o : Oper} {a : Act} {K : Act → World → Prop} {Q : Exit → Act → World → Prop} {E : Prop} {w : World} {ops : Array Oper} (hw : Region.wanted o (yielded ops a.tmps) = true) (ty : TypeId) (x y : Operand) (ho : o.op = .store ty x y)
    (g : Nat) (cells : Array Value) (hx : a.eval x = .pointer (some ⟨g, 0, none⟩)) (hy : a.eval y = .agg cells)
    (t : TypeId) (old : Array Value) (hg : w.heap[g]? = some (.cells old t (0, 0))) (hi : (Tryd.prog.info? ty).map (·.size) = some cells.size)
    (hold : old.size = cells.size) (h1 : cells.all (·.oneCell') = true) (h : K (a.put o.dst undef) (w.setRow g cells)) :
    if Region.wanted o (yielded ops a.tmps) = true then Oper.wp Tryd.prog o a w K Q else E := by
  rw [if_pos hw]
  exact wp_store_row ty x y ho g cells hx hy t old hg hi hold h1 h
set_option maxRecDepth 100000 in
set_option maxHeartbeats 1000000 in
theorem sign_any (s x a : List UInt8) (mv : Value) (m : List UInt8) (w : World) (hs : s.length = 32) (hx : x.length = 32) (ha : a.length = 32) (hm : Bys w mv m) (hml : m.length ≤ 10000) (hG : Gl w) :
    Calls Tryd.prog 41 #[.agg (RB (s ++ (x ++ a))), mv] w fun e w' => ∃ v, e = .returned v ∧ Owns w' w.heap.size v (topL x m ++ endL s x a m) ∧ Below w.heap.size w w' := by
  obtain ⟨ao, cap, rfl⟩ := hm.slice
  have HM := Lib.hid hm
  have HG := Lib.hid hG
  have HLS := Lib.hid hs
  have HLX := Lib.hid hx
  have HLA := Lib.hid ha
  have HML := Lib.hid hml
  clear hm hG hs hx ha hml
  have hz0 := zSc
  have hz1 := zPt
  go_enter Tryd.func41, Tryd.ntmps41
  go_upto_region 1 with fail
  generalize hW1 : World.alloc _ _ = W1
  obtain ⟨N, hN⟩ : ∃ n, w.heap.size = n := ⟨_, rfl⟩
  have HX0 := Lib.hid (show CT W1 N 70 (RB (s ++ (x ++ a))) by subst hW1; rw [← hN]; exact (allocs1_at w _))
  have HB := Lib.hid (show Below N w W1 by subst hW1; rw [← hN]; exact allocs1_below w _)
  have HN := Lib.hid hN
  rw [hN]
  clear hW1 hN
  have HM1 := Lib.hid (HM.out.below (by rw [HN.out]; exact HB.out))
  have HG1 := Lib.hid (HG.out.below (by rw [HN.out]; exact HB.out))
  go_wp2_with fail
  generalize hW2 : World.alloc _ _ = W2
  obtain ⟨hbs, hb2⟩ : Bss W2.heap.size W2 (.slice (some ⟨W1.heap.size, 0, none⟩) 2 2) [x, m] ∧ Below W1.heap.size W1 W2 := by subst hW2; exact ⟨bss2 (ct_part HX0.out HLS.out HLX.out (by decide)) HM1.out, (Below.refl _ _).alloc (Nat.le_refl _) _⟩
  clear hW2
  have HG2 := Lib.hid (HG1.out.below hb2)
  replace HX0 := Lib.hid (HX0.out.ext hb2)
  replace HB := Lib.hid (HB.out.trans (hb2.mono (show N ≤ _ by have := HB.out.size; have := HN.out; omega)))
  clear hb2
  refine (digest_any _ _ W2 hbs (by simp [flat]; have := HLX.out; have := HML.out; omega) (by simp) HG2.out).mono ?_
  rintro e w3 ⟨rfl, hb3⟩
  clear hbs HG1 HG2 HM1
  rw [show flat [x, m] = x ++ m by simp [flat]]
  have HEND := Lib.hid (show topL x m ++ endL s x a m = b32 (pN (ptimes (le (dgL (x ++ m))) cB)) ++ b32 (oMul (le (dgL (b32 (pN (ptimes (le (dgL (x ++ m))) cB)) ++ (a ++ m)))) (le s) (le (dgL (x ++ m)))) from rfl)
  have HLR := Lib.hid (dgL_len (x ++ m))
  generalize dgL (x ++ m) = R at HEND HLR ⊢
  replace HX0 := Lib.hid (HX0.out.ext hb3)
  replace HB := Lib.hid (HB.out.trans (hb3.mono (show N ≤ _ by have := HB.out.size; have := HN.out; omega)))
  clear hb3
  go_upto_region 2 with (refine wpList_new1 rfl 67 rfl (PB 0) zSc rfl _ _ rfl rfl (RB R) 32 (RB_rw HLR.out) (PB_rw 0).size (by kernel_rfl) rfl rfl (fun B1 w4 hB1 hb4 hCB1 => ?_))
  have HB1 := Lib.hid hCB1
  have hlB1X0 : N < B1 := by rw [← hB1]; exact HX0.out.lt
  have hNB1 : N ≤ B1 := by rw [← hB1]; have := HB.out.size; have := HN.out; omega
  clear hB1 hCB1
  replace HX0 := Lib.hid (HX0.out.ext hb4)
  replace HB := Lib.hid (HB.out.trans (hb4.mono (show N ≤ _ by have := HB.out.size; have := HN.out; omega)))
  clear hb4
  refine wp_region_seq 2 ?_
  simp only [List.take_succ_cons, List.take_zero, List.drop_succ_cons, List.drop_zero]
  refine upW_val (by rfl) (by rfl) (by rfl) (fun K hK => quiet_load_ct _ _ rfl B1 rfl 67 (RB R) 32 (RB_rw HLR.out) _ HB1.out Tryd.underlying67 rfl (by kernel_rfl) (hK _ ?_))
  simp only [Act.put, List.setIfInBounds_toArray, List.set]
  refine upW_call (by rfl) (by rfl) (.agg (PB (pN (ptimes (le R) cB)))) _ rfl (by simp) (fun p => ?_) ?_
  · go_big_quiet_op
    exact ⟨_, fun q => Calls.ext_of ((fun w => timesBase_any R HLR.out w) q.x), rfl⟩
  simp only [Act.put, List.setIfInBounds_toArray, List.set]
  refine upW_nil (fun wr1 hbr1 => ?_)
  replace HX0 := Lib.hid (HX0.out.ext hbr1)
  replace HB1 := Lib.hid (HB1.out.ext hbr1)
  replace HB := Lib.hid (HB.out.trans (hbr1.mono (show N ≤ _ by have := HB.out.size; have := HN.out; omega)))
  clear hbr1
  refine wpList_new1 rfl 68 rfl (PB 0) zPt rfl _ _ rfl rfl (PB (pN (ptimes (le R) cB))) 32 (PB_rw (pN (ptimes (le R) cB))) (PB_rw 0).size (by kernel_rfl) rfl rfl (fun B2 wr2 hB2 hbr2 hCB2 => ?_)
  have HB2 := Lib.hid hCB2
  have hlB2X0 : N < B2 := by rw [← hB2]; exact HX0.out.lt
  have hlB2B1 : B1 < B2 := by rw [← hB2]; exact HB1.out.lt
  have hNB2 : N ≤ B2 := by rw [← hB2]; have := HB.out.size; have := HN.out; omega
  clear hB2 hCB2
  simp only [Act.put, List.setIfInBounds_toArray, List.set]
  replace HX0 := Lib.hid (HX0.out.ext hbr2)
  replace HB1 := Lib.hid (HB1.out.ext hbr2)
  replace HB := Lib.hid (HB.out.trans (hbr2.mono (show N ≤ _ by have := HB.out.size; have := HN.out; omega)))
  clear hbr2
  obtain ⟨T, hT⟩ : ∃ T, b32 (pN (ptimes (le R) cB)) = T := ⟨_, rfl⟩
  rw [hT] at HEND
  have HT2 := Lib.hid (show CT wr2 B2 68 (RB T) by rw [← hT]; exact HB2.out)
  have HLT := Lib.hid (show T.length = 32 by rw [← hT]; exact b32_len _)
  clear HB2 hT
  go_upto_region 3 with fail
  obtain ⟨wq, hwq⟩ : ∃ wq, wr2 = wq := ⟨_, rfl⟩
  rw [hwq] at HX0 HB1 HT2 HB ⊢
  have HM3 := Lib.hid (HM.out.below (by rw [HN.out]; exact HB.out))
  have HG3 := Lib.hid (HG.out.below (by rw [HN.out]; exact HB.out))
  have HDG := Lib.hid (fun (X : World) (M : Nat) (hb : Below wq.heap.size wq X) (hc : X.heap[M]? = some (.cells #[.slice (some ⟨B2, 0, none⟩) 32 32, .slice (some ⟨N, 64, none⟩) 32 32, .slice ao m.length cap] 22 (0, 0))) =>
    show Calls Tryd.prog 35 #[.slice (some ⟨M, 0, none⟩) 3 3] X fun e w' => e = .returned (.agg (RB (dgL (T ++ (a ++ m))))) ∧ Below X.heap.size X w' by
      have h := digest_any _ _ X (bss_at hc [T, a, m] (bss_us3 (ct_all (HT2.out.ext hb) HLT.out) (ct_part (pre := s ++ x) (post := []) (by rw [List.append_nil, List.append_assoc]; exact HX0.out.ext hb) (by simp [HLS.out, HLX.out]) HLA.out (by decide)) (HM3.out.below hb)) 3 rfl) (by simp [flat]; have := HLT.out; have := HLA.out; have := HML.out; omega) (by simp) (HG3.out.below hb)
      rwa [show flat [T, a, m] = T ++ (a ++ m) by simp [flat]] at h)
  have HLK := Lib.hid (dgL_len (T ++ (a ++ m)))
  generalize dgL (T ++ (a ++ m)) = Kk at HDG HEND HLK
  have HMA := Lib.hid (fun (X : World) => MulAdd_sc Kk s R X HLK.out HLS.out HLR.out)
  obtain ⟨E, hE⟩ : ∃ E, b32 (oMul (le Kk) (le s) (le R)) = E := ⟨_, rfl⟩
  rw [hE] at HMA HEND
  have HLE := Lib.hid (show E.length = 32 by rw [← hE]; exact b32_len _)
  clear hE HM3 HG3
  clear hlB1X0 hlB2X0 hlB2B1
  have hi67 : (Tryd.prog.info? 67).map (·.size) = some (byteVals s).length := by rw [show (byteVals s).length = 32 by simp [byteVals, HLS.out]]; kernel_rfl
  have hi67' : (Tryd.prog.info? 67).map (·.size) = some (byteVals R).length := by rw [show (byteVals R).length = 32 by simp [byteVals, HLR.out]]; kernel_rfl
  refine wp_region_held_drew (S := fun X => Below wq.heap.size wq X) (by kernel_rfl) (below_dr wq) (fun hHeld => ?_)
  generalize World.drew wq = V0 at hHeld ⊢
  refine wpAnyH_take (i := 0) (v := .slice (some ⟨B2, 0, none⟩) 32 32) rfl (by kernel_rfl) (by kernel_rfl) (by kernel_rfl) (fun _ _ _ h => h) (.inl ⟨by rfl, fun _ _ => by kernel_rfl⟩) hHeld ?_
  try simp only [List.getElem_toArray, List.getElem_cons_succ, List.getElem_cons_zero, Act.put, List.setIfInBounds_toArray, List.set_cons_zero, List.set_cons_succ]
  refine wpAnyH_take (i := 1) (v := .pointer (some ⟨N, 64, none⟩)) rfl (by kernel_rfl) (by kernel_rfl) (by kernel_rfl) (fun _ _ _ h => h) (.inl ⟨by rfl, fun _ _ => by kernel_rfl⟩) hHeld ?_
  try simp only [List.getElem_toArray, List.getElem_cons_succ, List.getElem_cons_zero, Act.put, List.setIfInBounds_toArray, List.set_cons_zero, List.set_cons_succ]
  refine wpAnyH_take (i := 2) (v := .slice (some ⟨N, 64, none⟩) 32 32) rfl (by kernel_rfl) (by kernel_rfl) (by kernel_rfl) (fun _ _ _ h => h) (.inl ⟨by rfl, fun _ _ => by kernel_rfl⟩) hHeld ?_
  try simp only [List.getElem_toArray, List.getElem_cons_succ, List.getElem_cons_zero, Act.put, List.setIfInBounds_toArray, List.set_cons_zero, List.set_cons_succ]
  refine wpAnyH_take (i := 3) (v := .slice ao m.length cap) rfl (by kernel_rfl) (by kernel_rfl) (by kernel_rfl) (fun _ _ _ h => h) (.inl ⟨by rfl, fun _ _ => by kernel_rfl⟩) hHeld ?_
  try simp only [List.getElem_toArray, List.getElem_cons_succ, List.getElem_cons_zero, Act.put, List.setIfInBounds_toArray, List.set_cons_zero, List.set_cons_succ]
  refine wpAnyH_take (i := 6) (v := .pointer (some ⟨N, 0, none⟩)) rfl (by kernel_rfl) (by kernel_rfl) (by kernel_rfl) (fun _ _ _ h => h) (.inl ⟨by rfl, fun _ _ => by kernel_rfl⟩) hHeld ?_
  try simp only [List.getElem_toArray, List.getElem_cons_succ, List.getElem_cons_zero, Act.put, List.setIfInBounds_toArray, List.set_cons_zero, List.set_cons_succ]
  refine wpAnyH_take (i := 7) (v := .agg (byteVals s).toArray) rfl (by kernel_rfl) (by kernel_rfl) (by kernel_rfl) (fun _ _ _ h => h) (yieldsIf_load_mid (by rfl) _ _ rfl N 0 rfl (byteVals s) _ (fun X hX => (HX0.out.ext hX).range (key_0 s x a)) Tryd.underlying67 rfl hi67) hHeld ?_
  try simp only [List.getElem_toArray, List.getElem_cons_succ, List.getElem_cons_zero, Act.put, List.setIfInBounds_toArray, List.set_cons_zero, List.set_cons_succ]
  refine wpAnyH_take (i := 8) (v := .agg (byteVals R).toArray) rfl (by kernel_rfl) (by kernel_rfl) (by kernel_rfl) (fun _ _ _ h => h) (yieldsIf_load_mid (by rfl) _ _ rfl B1 0 rfl (byteVals R) _ (fun X hX => (HB1.out.ext hX).range (fun j v h => by rw [Nat.zero_add]; exact h)) Tryd.underlying67 rfl hi67') hHeld ?_
  try simp only [List.getElem_toArray, List.getElem_cons_succ, List.getElem_cons_zero, Act.put, List.setIfInBounds_toArray, List.set_cons_zero, List.set_cons_succ]
  refine wpAnyH_ready (rs := [4, 10]) (by kernel_rfl) (by simp) ?_
  refine AllReadyH.cons (i := 4) rfl (fun K hK => ?_) ?_
  · obtain ⟨M, hM⟩ : ∃ k, V0.heap.size = k := ⟨_, rfl⟩
    go_simp
    have hb1 : Below V0.heap.size V0 ((V0.alloc (.cells #[.slice (some ⟨B2, 0, none⟩) 32 32, .slice (some ⟨N, 64, none⟩) 32 32, .slice ao m.length cap] 22))) := ((below_al (Below.refl _ V0) _))
    have hNM : CT ((V0.alloc (.cells #[.slice (some ⟨B2, 0, none⟩) 32 32, .slice (some ⟨N, 64, none⟩) 32 32, .slice ao m.length cap] 22))) M 22 #[.slice (some ⟨B2, 0, none⟩) 32 32, .slice (some ⟨N, 64, none⟩) 32 32, .slice ao m.length cap] := by rw [← hM]; exact Go.heap_alloc_new _ _
    have hleM : wq.heap.size ≤ M := by rw [← hM]; exact hHeld.size
    try rw [hM]
    generalize ((V0.alloc (.cells #[.slice (some ⟨B2, 0, none⟩) 32 32, .slice (some ⟨N, 64, none⟩) 32 32, .slice ao m.length cap] 22))) = V1 at hb1 hNM ⊢
    clear hM
    refine hK.out _ _ (hHeld.trans (hb1.mono hHeld.size)) (fun hHeld2 => ?_)
    clear hb1 hHeld hK K
    have hHeld := hHeld2
    clear hHeld2
    try simp only [List.getElem_toArray, List.getElem_cons_succ, List.getElem_cons_zero, Act.put, List.setIfInBounds_toArray, List.set_cons_zero, List.set_cons_succ]
    refine wpAnyH_ready (rs := [5, 10]) (by kernel_rfl) (by simp) ?_
    refine AllReadyH.cons (i := 5) rfl (fun K hK => ?_) ?_
    · go_simp
      refine (HDG.out V1 M hHeld hNM).mono ?_
      rintro e V2 ⟨rfl, hb2⟩
      go_wp2_with fail
      refine hK.out _ _ (hHeld.trans (hb2.mono hHeld.size)) (fun hHeld2 => ?_)
      replace hNM := hNM.ext hb2
      clear hb2 hHeld hK K
      have hHeld := hHeld2
      clear hHeld2
      try simp only [List.getElem_toArray, List.getElem_cons_succ, List.getElem_cons_zero, Act.put, List.setIfInBounds_toArray, List.set_cons_zero, List.set_cons_succ]
      refine wpAnyH_ready (rs := [9, 10]) (by kernel_rfl) (by simp) ?_
      refine AllReadyH.cons (i := 9) rfl (fun K hK => ?_) ?_
      · go_simp
        refine (HMA.out V2).mono ?_
        rintro e V3 ⟨rfl, hb3⟩
        go_wp2_with fail
        refine hK.out _ _ (hHeld.trans (hb3.mono hHeld.size)) (fun hHeld2 => ?_)
        replace hNM := hNM.ext hb3
        clear hb3 hHeld hK K
        have hHeld := hHeld2
        clear hHeld2
        try simp only [List.getElem_toArray, List.getElem_cons_succ, List.getElem_cons_zero, Act.put, List.setIfInBounds_toArray, List.set_cons_zero, List.set_cons_succ]
        refine wpAnyH_ready (rs := [10]) (by kernel_rfl) (by simp) ?_
        refine AllReadyH.cons (i := 10) rfl (fun K hK => ?_) ?_
        · obtain ⟨C, hC⟩ : ∃ k, V3.heap.size = k := ⟨_, rfl⟩
          rw [if_pos (by rfl)]
          unfold Oper.wp
          rw [alloc_run _ _ zSc _ _ rfl V3, Oper.upon_value]
          have hb4 : Below V3.heap.size V3 ((V3.alloc (.cells (PB 0) 67))) := ((below_al (Below.refl _ V3) _))
          have hNC : CT ((V3.alloc (.cells (PB 0) 67))) C 67 (PB 0) := by rw [← hC]; exact Go.heap_alloc_new _ _
          have hleC : wq.heap.size ≤ C := by rw [← hC]; exact hHeld.size
          try rw [hC]
          generalize ((V3.alloc (.cells (PB 0) 67))) = V4 at hb4 hNC ⊢
          have hltMC : M < C := by rw [← hC]; exact hNM.lt
          clear hC
          refine hK.out _ _ (hHeld.trans (hb4.mono hHeld.size)) (fun hHeld2 => ?_)
          replace hNM := hNM.ext hb4
          clear hb4 hHeld hK K
          have hHeld := hHeld2
          clear hHeld2
          try simp only [List.getElem_toArray, List.getElem_cons_succ, List.getElem_cons_zero, Act.put, List.setIfInBounds_toArray, List.set_cons_zero, List.set_cons_succ]
          refine wpAnyH_ready (rs := [11]) (by kernel_rfl) (by simp) ?_
          refine AllReadyH.cons (i := 11) rfl (fun K hK => ?_) ?_
          · refine step_store_row (by rfl) _ _ _ rfl C (RB E) rfl rfl 67 _ hNC ((RB_rw HLE.out).info (by kernel_rfl)) ((PB_rw 0).same (RB_rw HLE.out)) (RB_rw HLE.out).one ?_
            have hb5 : Below wq.heap.size wq (V4.setRow C (RB E)) := Below.setRow hHeld hleC _
            replace hNC : CT (V4.setRow C (RB E)) C 67 (RB E) := setRow_heap _ _ _ _ _ _ hNC
            replace hNM : CT (V4.setRow C (RB E)) M _ _ := hNM.other (setRow_other _ _ _ _ (by omega))
            refine hK.out _ _ hb5 (fun hHeld2 => ?_)
            clear hHeld hK K
            generalize V4.setRow C (RB E) = V5 at hb5 hHeld2 hNM hNC ⊢
            have hHeld := hHeld2
            clear hHeld2 hb5
            try simp only [List.getElem_toArray, List.getElem_cons_succ, List.getElem_cons_zero, Act.put, List.setIfInBounds_toArray, List.set_cons_zero, List.set_cons_succ]
            refine wpAnyH_done (by kernel_rfl) ?_ _
            go_upto_region 4 with fail
            obtain ⟨vq, hvq⟩ : ∃ vq, V5 = vq := ⟨_, rfl⟩
            rw [hvq] at hHeld hNC ⊢
            have HT3 := Lib.hid (HT2.out.ext hHeld)
            have HC3 := Lib.hid hNC
            have HB3 := Lib.hid (HB.out.trans (hHeld.mono (show N ≤ wq.heap.size by have := HB.out.size; have := HN.out; omega)))
            clear hvq hHeld hNC hNM
            refine wp_region_held_drew (S := fun X => Below vq.heap.size vq X) (by kernel_rfl) (below_dr vq) (fun hHeld => ?_)
            generalize World.drew vq = V0 at hHeld ⊢
            refine wpAnyH_take (i := 0) (v := .slice (some ⟨B2, 0, none⟩) 32 32) rfl (by kernel_rfl) (by kernel_rfl) (by kernel_rfl) (fun _ _ _ h => h) (.inl ⟨by rfl, fun _ _ => by kernel_rfl⟩) hHeld ?_
            try simp only [List.getElem_toArray, List.getElem_cons_succ, List.getElem_cons_zero, Act.put, List.setIfInBounds_toArray, List.set_cons_zero, List.set_cons_succ]
            refine wpAnyH_take (i := 1) (v := .slice (some ⟨C, 0, none⟩) 32 32) rfl (by kernel_rfl) (by kernel_rfl) (by kernel_rfl) (fun _ _ _ h => h) (.inl ⟨by rfl, fun _ _ => by kernel_rfl⟩) hHeld ?_
            try simp only [List.getElem_toArray, List.getElem_cons_succ, List.getElem_cons_zero, Act.put, List.setIfInBounds_toArray, List.set_cons_zero, List.set_cons_succ]
            refine wpAnyH_ready (rs := [2]) (by kernel_rfl) (by simp) ?_
            refine AllReadyH.cons (i := 2) rfl (fun K hK => ?_) ?_
            · obtain ⟨M, hM⟩ : ∃ k, V0.heap.size = k := ⟨_, rfl⟩
              go_simp
              have hb1 : Below V0.heap.size V0 ((V0.alloc (.cells #[.slice (some ⟨B2, 0, none⟩) 32 32, .slice (some ⟨C, 0, none⟩) 32 32] 22))) := ((below_al (Below.refl _ V0) _))
              have hNM : CT ((V0.alloc (.cells #[.slice (some ⟨B2, 0, none⟩) 32 32, .slice (some ⟨C, 0, none⟩) 32 32] 22))) M 22 #[.slice (some ⟨B2, 0, none⟩) 32 32, .slice (some ⟨C, 0, none⟩) 32 32] := by rw [← hM]; exact Go.heap_alloc_new _ _
              have hleM : vq.heap.size ≤ M := by rw [← hM]; exact hHeld.size
              try rw [hM]
              generalize ((V0.alloc (.cells #[.slice (some ⟨B2, 0, none⟩) 32 32, .slice (some ⟨C, 0, none⟩) 32 32] 22))) = V1 at hb1 hNM ⊢
              clear hM
              refine hK.out _ _ (hHeld.trans (hb1.mono hHeld.size)) (fun hHeld2 => ?_)
              clear hb1 hHeld hK K
              have hHeld := hHeld2
              clear hHeld2
              try simp only [List.getElem_toArray, List.getElem_cons_succ, List.getElem_cons_zero, Act.put, List.setIfInBounds_toArray, List.set_cons_zero, List.set_cons_succ]
              refine wpAnyH_ready (rs := [3]) (by kernel_rfl) (by simp) ?_
              refine AllReadyH.cons (i := 3) rfl (fun K hK => ?_) ?_
              · go_simp
                refine (concat2_any (w := V1) (ct_all (HT3.out.ext hHeld) HLT.out) (ct_all (HC3.out.ext hHeld) HLE.out) (by have := HLT.out; have := HLE.out; omega) M _ hNM).mono ?_
                have hZ : vq.heap.size ≤ V1.heap.size := hHeld.size
                rintro e V2 ⟨v, rfl, hown, hb2⟩
                have HO := Lib.hid (hown.base (show w.heap.size ≤ _ by have := HN.out; have := HB3.out.size; omega))
                clear hown
                go_wp2_with fail
                refine hK.out _ _ (hHeld.trans (hb2.mono hHeld.size)) (fun hHeld2 => ?_)
                replace hNM := hNM.ext hb2
                clear hb2 hHeld hK K
                have hHeld := hHeld2
                clear hHeld2
                try simp only [List.getElem_toArray, List.getElem_cons_succ, List.getElem_cons_zero, Act.put, List.setIfInBounds_toArray, List.set_cons_zero, List.set_cons_succ]
                refine wpAnyH_ready (rs := [4]) (by kernel_rfl) (by simp) ?_
                refine AllReadyH.cons (i := 4) rfl (fun K hK => ?_) ?_
                · go_simp
                  refine hK.out _ _ hHeld (fun _ => ?_)
                  clear hK K
                  try simp only [List.getElem_toArray, List.getElem_cons_succ, List.getElem_cons_zero, Act.put, List.setIfInBounds_toArray, List.set_cons_zero, List.set_cons_succ]
                  refine wpAnyH_done (by kernel_rfl) ?_ _
                  go_wp2
                  go_ret
                  exact ⟨v, rfl, by rw [HEND.out]; exact HO.out, by rw [HN.out]; exact HB3.out.trans (hHeld.mono (show N ≤ vq.heap.size by have := HB3.out.size; have := HN.out; omega))⟩
                exact AllReadyH.nil
              exact AllReadyH.nil
            exact AllReadyH.nil
          exact AllReadyH.nil
        exact AllReadyH.nil
      refine AllReadyH.cons (i := 10) rfl (fun K hK => ?_) ?_
      · obtain ⟨C, hC⟩ : ∃ k, V2.heap.size = k := ⟨_, rfl⟩
        rw [if_pos (by rfl)]
        unfold Oper.wp
        rw [alloc_run _ _ zSc _ _ rfl V2, Oper.upon_value]
        have hb3 : Below V2.heap.size V2 ((V2.alloc (.cells (PB 0) 67))) := ((below_al (Below.refl _ V2) _))
        have hNC : CT ((V2.alloc (.cells (PB 0) 67))) C 67 (PB 0) := by rw [← hC]; exact Go.heap_alloc_new _ _
        have hleC : wq.heap.size ≤ C := by rw [← hC]; exact hHeld.size
        try rw [hC]
        generalize ((V2.alloc (.cells (PB 0) 67))) = V3 at hb3 hNC ⊢
        have hltMC : M < C := by rw [← hC]; exact hNM.lt
        clear hC
        refine hK.out _ _ (hHeld.trans (hb3.mono hHeld.size)) (fun hHeld2 => ?_)
        replace hNM := hNM.ext hb3
        clear hb3 hHeld hK K
        have hHeld := hHeld2
        clear hHeld2
        try simp only [List.getElem_toArray, List.getElem_cons_succ, List.getElem_cons_zero, Act.put, List.setIfInBounds_toArray, List.set_cons_zero, List.set_cons_succ]
        refine wpAnyH_ready (rs := [9]) (by kernel_rfl) (by simp) ?_
        refine AllReadyH.cons (i := 9) rfl (fun K hK => ?_) ?_
        · go_simp
          refine (HMA.out V3).mono ?_
          rintro e V4 ⟨rfl, hb4⟩
          go_wp2_with fail
          refine hK.out _ _ (hHeld.trans (hb4.mono hHeld.size)) (fun hHeld2 => ?_)
          replace hNM := hNM.ext hb4
          replace hNC := hNC.ext hb4
          clear hb4 hHeld hK K
          have hHeld := hHeld2
          clear hHeld2
          try simp only [List.getElem_toArray, List.getElem_cons_succ, List.getElem_cons_zero, Act.put, List.setIfInBounds_toArray, List.set_cons_zero, List.set_cons_succ]
          refine wpAnyH_ready (rs := [11]) (by kernel_rfl) (by simp) ?_
          refine AllReadyH.cons (i := 11) rfl (fun K hK => ?_) ?_
          · refine step_store_row (by rfl) _ _ _ rfl C (RB E) rfl rfl 67 _ hNC ((RB_rw HLE.out).info (by kernel_rfl)) ((PB_rw 0).same (RB_rw HLE.out)) (RB_rw HLE.out).one ?_
            have hb5 : Below wq.heap.size wq (V4.setRow C (RB E)) := Below.setRow hHeld hleC _
            replace hNC : CT (V4.setRow C (RB E)) C 67 (RB E) := setRow_heap _ _ _ _ _ _ hNC
            replace hNM : CT (V4.setRow C (RB E)) M _ _ := hNM.other (setRow_other _ _ _ _ (by omega))
            refine hK.out _ _ hb5 (fun hHeld2 => ?_)
            clear hHeld hK K
            generalize V4.setRow C (RB E) = V5 at hb5 hHeld2 hNM hNC ⊢
            have hHeld := hHeld2
            clear hHeld2 hb5
            try simp only [List.getElem_toArray, List.getElem_cons_succ, List.getElem_cons_zero, Act.put, List.setIfInBounds_toArray, List.set_cons_zero, List.set_cons_succ]
            refine wpAnyH_done (by kernel_rfl) ?_ _
            go_upto_region 4 with fail
            obtain ⟨vq, hvq⟩ : ∃ vq, V5 = vq := ⟨_, rfl⟩
            rw [hvq] at hHeld hNC ⊢
            have HT3 := Lib.hid (HT2.out.ext hHeld)
            have HC3 := Lib.hid hNC
            have HB3 := Lib.hid (HB.out.trans (hHeld.mono (show N ≤ wq.heap.size by have := HB.out.size; have := HN.out; omega)))
            clear hvq hHeld hNC hNM
            refine wp_region_held_drew (S := fun X => Below vq.heap.size vq X) (by kernel_rfl) (below_dr vq) (fun hHeld => ?_)
            generalize World.drew vq = V0 at hHeld ⊢
            refine wpAnyH_take (i := 0) (v := .slice (some ⟨B2, 0, none⟩) 32 32) rfl (by kernel_rfl) (by kernel_rfl) (by kernel_rfl) (fun _ _ _ h => h) (.inl ⟨by rfl, fun _ _ => by kernel_rfl⟩) hHeld ?_
            try simp only [List.getElem_toArray, List.getElem_cons_succ, List.getElem_cons_zero, Act.put, List.setIfInBounds_toArray, List.set_cons_zero, List.set_cons_succ]
            refine wpAnyH_take (i := 1) (v := .slice (some ⟨C, 0, none⟩) 32 32) rfl (by kernel_rfl) (by kernel_rfl) (by kernel_rfl) (fun _ _ _ h => h) (.inl ⟨by rfl, fun _ _ => by kernel_rfl⟩) hHeld ?_
            try simp only [List.getElem_toArray, List.getElem_cons_succ, List.getElem_cons_zero, Act.put, List.setIfInBounds_toArray, List.set_cons_zero, List.set_cons_succ]
            refine wpAnyH_ready (rs := [2]) (by kernel_rfl) (by simp) ?_
            refine AllReadyH.cons (i := 2) rfl (fun K hK => ?_) ?_
            · obtain ⟨M, hM⟩ : ∃ k, V0.heap.size = k := ⟨_, rfl⟩
              go_simp
              have hb1 : Below V0.heap.size V0 ((V0.alloc (.cells #[.slice (some ⟨B2, 0, none⟩) 32 32, .slice (some ⟨C, 0, none⟩) 32 32] 22))) := ((below_al (Below.refl _ V0) _))
              have hNM : CT ((V0.alloc (.cells #[.slice (some ⟨B2, 0, none⟩) 32 32, .slice (some ⟨C, 0, none⟩) 32 32] 22))) M 22 #[.slice (some ⟨B2, 0, none⟩) 32 32, .slice (some ⟨C, 0, none⟩) 32 32] := by rw [← hM]; exact Go.heap_alloc_new _ _
              have hleM : vq.heap.size ≤ M := by rw [← hM]; exact hHeld.size
              try rw [hM]
              generalize ((V0.alloc (.cells #[.slice (some ⟨B2, 0, none⟩) 32 32, .slice (some ⟨C, 0, none⟩) 32 32] 22))) = V1 at hb1 hNM ⊢
              clear hM
              refine hK.out _ _ (hHeld.trans (hb1.mono hHeld.size)) (fun hHeld2 => ?_)
              clear hb1 hHeld hK K
              have hHeld := hHeld2
              clear hHeld2
              try simp only [List.getElem_toArray, List.getElem_cons_succ, List.getElem_cons_zero, Act.put, List.setIfInBounds_toArray, List.set_cons_zero, List.set_cons_succ]
              refine wpAnyH_ready (rs := [3]) (by kernel_rfl) (by simp) ?_
              refine AllReadyH.cons (i := 3) rfl (fun K hK => ?_) ?_
              · go_simp
                refine (concat2_any (w := V1) (ct_all (HT3.out.ext hHeld) HLT.out) (ct_all (HC3.out.ext hHeld) HLE.out) (by have := HLT.out; have := HLE.out; omega) M _ hNM).mono ?_
                have hZ : vq.heap.size ≤ V1.heap.size := hHeld.size
                rintro e V2 ⟨v, rfl, hown, hb2⟩
                have HO := Lib.hid (hown.base (show w.heap.size ≤ _ by have := HN.out; have := HB3.out.size; omega))
                clear hown
                go_wp2_with fail
                refine hK.out _ _ (hHeld.trans (hb2.mono hHeld.size)) (fun hHeld2 => ?_)
                replace hNM := hNM.ext hb2
                clear hb2 hHeld hK K
                have hHeld := hHeld2
                clear hHeld2
                try simp only [List.getElem_toArray, List.getElem_cons_succ, List.getElem_cons_zero, Act.put, List.setIfInBounds_toArray, List.set_cons_zero, List.set_cons_succ]
                refine wpAnyH_ready (rs := [4]) (by kernel_rfl) (by simp) ?_
                refine AllReadyH.cons (i := 4) rfl (fun K hK => ?_) ?_
                · go_simp
                  refine hK.out _ _ hHeld (fun _ => ?_)
                  clear hK K
                  try simp only [List.getElem_toArray, List.getElem_cons_succ, List.getElem_cons_zero, Act.put, List.setIfInBounds_toArray, List.set_cons_zero, List.set_cons_succ]
                  refine wpAnyH_done (by kernel_rfl) ?_ _
                  go_wp2
                  go_ret
                  exact ⟨v, rfl, by rw [HEND.out]; exact HO.out, by rw [HN.out]; exact HB3.out.trans (hHeld.mono (show N ≤ vq.heap.size by have := HB3.out.size; have := HN.out; omega))⟩
                exact AllReadyH.nil
              exact AllReadyH.nil
            exact AllReadyH.nil
          exact AllReadyH.nil
        exact AllReadyH.nil
      exact AllReadyH.nil
    refine AllReadyH.cons (i := 10) rfl (fun K hK => ?_) ?_
    · obtain ⟨C, hC⟩ : ∃ k, V1.heap.size = k := ⟨_, rfl⟩
      rw [if_pos (by rfl)]
      unfold Oper.wp
      rw [alloc_run _ _ zSc _ _ rfl V1, Oper.upon_value]
      have hb2 : Below V1.heap.size V1 ((V1.alloc (.cells (PB 0) 67))) := ((below_al (Below.refl _ V1) _))
      have hNC : CT ((V1.alloc (.cells (PB 0) 67))) C 67 (PB 0) := by rw [← hC]; exact Go.heap_alloc_new _ _
      have hleC : wq.heap.size ≤ C := by rw [← hC]; exact hHeld.size
      try rw [hC]
      generalize ((V1.alloc (.cells (PB 0) 67))) = V2 at hb2 hNC ⊢
      have hltMC : M < C := by rw [← hC]; exact hNM.lt
      clear hC
      refine hK.out _ _ (hHeld.trans (hb2.mono hHeld.size)) (fun hHeld2 => ?_)
      replace hNM := hNM.ext hb2
      clear hb2 hHeld hK K
      have hHeld := hHeld2
      clear hHeld2
      try simp only [List.getElem_toArray, List.getElem_cons_succ, List.getElem_cons_zero, Act.put, List.setIfInBounds_toArray, List.set_cons_zero, List.set_cons_succ]
      refine wpAnyH_ready (rs := [5]) (by kernel_rfl) (by simp) ?_
      refine AllReadyH.cons (i := 5) rfl (fun K hK => ?_) ?_
      · go_simp
        refine (HDG.out V2 M hHeld hNM).mono ?_
        rintro e V3 ⟨rfl, hb3⟩
        go_wp2_with fail
        refine hK.out _ _ (hHeld.trans (hb3.mono hHeld.size)) (fun hHeld2 => ?_)
        replace hNM := hNM.ext hb3
        replace hNC := hNC.ext hb3
        clear hb3 hHeld hK K
        have hHeld := hHeld2
        clear hHeld2
        try simp only [List.getElem_toArray, List.getElem_cons_succ, List.getElem_cons_zero, Act.put, List.setIfInBounds_toArray, List.set_cons_zero, List.set_cons_succ]
        refine wpAnyH_ready (rs := [9]) (by kernel_rfl) (by simp) ?_
        refine AllReadyH.cons (i := 9) rfl (fun K hK => ?_) ?_
        · go_simp
          refine (HMA.out V3).mono ?_
          rintro e V4 ⟨rfl, hb4⟩
          go_wp2_with fail
          refine hK.out _ _ (hHeld.trans (hb4.mono hHeld.size)) (fun hHeld2 => ?_)
          replace hNM := hNM.ext hb4
          replace hNC := hNC.ext hb4
          clear hb4 hHeld hK K
          have hHeld := hHeld2
          clear hHeld2
          try simp only [List.getElem_toArray, List.getElem_cons_succ, List.getElem_cons_zero, Act.put, List.setIfInBounds_toArray, List.set_cons_zero, List.set_cons_succ]
          refine wpAnyH_ready (rs := [11]) (by kernel_rfl) (by simp) ?_
          refine AllReadyH.cons (i := 11) rfl (fun K hK => ?_) ?_
          · refine step_store_row (by rfl) _ _ _ rfl C (RB E) rfl rfl 67 _ hNC ((RB_rw HLE.out).info (by kernel_rfl)) ((PB_rw 0).same (RB_rw HLE.out)) (RB_rw HLE.out).one ?_
            have hb5 : Below wq.heap.size wq (V4.setRow C (RB E)) := Below.setRow hHeld hleC _
            replace hNC : CT (V4.setRow C (RB E)) C 67 (RB E) := setRow_heap _ _ _ _ _ _ hNC
            replace hNM : CT (V4.setRow C (RB E)) M _ _ := hNM.other (setRow_other _ _ _ _ (by omega))
            refine hK.out _ _ hb5 (fun hHeld2 => ?_)
            clear hHeld hK K
            generalize V4.setRow C (RB E) = V5 at hb5 hHeld2 hNM hNC ⊢
            have hHeld := hHeld2
            clear hHeld2 hb5
            try simp only [List.getElem_toArray, List.getElem_cons_succ, List.getElem_cons_zero, Act.put, List.setIfInBounds_toArray, List.set_cons_zero, List.set_cons_succ]
            refine wpAnyH_done (by kernel_rfl) ?_ _
            go_upto_region 4 with fail
            obtain ⟨vq, hvq⟩ : ∃ vq, V5 = vq := ⟨_, rfl⟩
            rw [hvq] at hHeld hNC ⊢
            have HT3 := Lib.hid (HT2.out.ext hHeld)
            have HC3 := Lib.hid hNC
            have HB3 := Lib.hid (HB.out.trans (hHeld.mono (show N ≤ wq.heap.size by have := HB.out.size; have := HN.out; omega)))
            clear hvq hHeld hNC hNM
            refine wp_region_held_drew (S := fun X => Below vq.heap.size vq X) (by kernel_rfl) (below_dr vq) (fun hHeld => ?_)
            generalize World.drew vq = V0 at hHeld ⊢
            refine wpAnyH_take (i := 0) (v := .slice (some ⟨B2, 0, none⟩) 32 32) rfl (by kernel_rfl) (by kernel_rfl) (by kernel_rfl) (fun _ _ _ h => h) (.inl ⟨by rfl, fun _ _ => by kernel_rfl⟩) hHeld ?_
            try simp only [List.getElem_toArray, List.getElem_cons_succ, List.getElem_cons_zero, Act.put, List.setIfInBounds_toArray, List.set_cons_zero, List.set_cons_succ]
            refine wpAnyH_take (i := 1) (v := .slice (some ⟨C, 0, none⟩) 32 32) rfl (by kernel_rfl) (by kernel_rfl) (by kernel_rfl) (fun _ _ _ h => h) (.inl ⟨by rfl, fun _ _ => by kernel_rfl⟩) hHeld ?_
            try simp only [List.getElem_toArray, List.getElem_cons_succ, List.getElem_cons_zero, Act.put, List.setIfInBounds_toArray, List.set_cons_zero, List.set_cons_succ]
            refine wpAnyH_ready (rs := [2]) (by kernel_rfl) (by simp) ?_
            refine AllReadyH.cons (i := 2) rfl (fun K hK => ?_) ?_
            · obtain ⟨M, hM⟩ : ∃ k, V0.heap.size = k := ⟨_, rfl⟩
              go_simp
              have hb1 : Below V0.heap.size V0 ((V0.alloc (.cells #[.slice (some ⟨B2, 0, none⟩) 32 32, .slice (some ⟨C, 0, none⟩) 32 32] 22))) := ((below_al (Below.refl _ V0) _))
              have hNM : CT ((V0.alloc (.cells #[.slice (some ⟨B2, 0, none⟩) 32 32, .slice (some ⟨C, 0, none⟩) 32 32] 22))) M 22 #[.slice (some ⟨B2, 0, none⟩) 32 32, .slice (some ⟨C, 0, none⟩) 32 32] := by rw [← hM]; exact Go.heap_alloc_new _ _
              have hleM : vq.heap.size ≤ M := by rw [← hM]; exact hHeld.size
              try rw [hM]
              generalize ((V0.alloc (.cells #[.slice (some ⟨B2, 0, none⟩) 32 32, .slice (some ⟨C, 0, none⟩) 32 32] 22))) = V1 at hb1 hNM ⊢
              clear hM
              refine hK.out _ _ (hHeld.trans (hb1.mono hHeld.size)) (fun hHeld2 => ?_)
              clear hb1 hHeld hK K
              have hHeld := hHeld2
              clear hHeld2
              try simp only [List.getElem_toArray, List.getElem_cons_succ, List.getElem_cons_zero, Act.put, List.setIfInBounds_toArray, List.set_cons_zero, List.set_cons_succ]
              refine wpAnyH_ready (rs := [3]) (by kernel_rfl) (by simp) ?_
              refine AllReadyH.cons (i := 3) rfl (fun K hK => ?_) ?_
              · go_simp
                refine (concat2_any (w := V1) (ct_all (HT3.out.ext hHeld) HLT.out) (ct_all (HC3.out.ext hHeld) HLE.out) (by have := HLT.out; have := HLE.out; omega) M _ hNM).mono ?_
                have hZ : vq.heap.size ≤ V1.heap.size := hHeld.size
                rintro e V2 ⟨v, rfl, hown, hb2⟩
                have HO := Lib.hid (hown.base (show w.heap.size ≤ _ by have := HN.out; have := HB3.out.size; omega))
                clear hown
                go_wp2_with fail
                refine hK.out _ _ (hHeld.trans (hb2.mono hHeld.size)) (fun hHeld2 => ?_)
                replace hNM := hNM.ext hb2
                clear hb2 hHeld hK K
                have hHeld := hHeld2
                clear hHeld2
                try simp only [List.getElem_toArray, List.getElem_cons_succ, List.getElem_cons_zero, Act.put, List.setIfInBounds_toArray, List.set_cons_zero, List.set_cons_succ]
                refine wpAnyH_ready (rs := [4]) (by kernel_rfl) (by simp) ?_
                refine AllReadyH.cons (i := 4) rfl (fun K hK => ?_) ?_
                · go_simp
                  refine hK.out _ _ hHeld (fun _ => ?_)
                  clear hK K
                  try simp only [List.getElem_toArray, List.getElem_cons_succ, List.getElem_cons_zero, Act.put, List.setIfInBounds_toArray, List.set_cons_zero, List.set_cons_succ]
                  refine wpAnyH_done (by kernel_rfl) ?_ _
                  go_wp2
                  go_ret
                  exact ⟨v, rfl, by rw [HEND.out]; exact HO.out, by rw [HN.out]; exact HB3.out.trans (hHeld.mono (show N ≤ vq.heap.size by have := HB3.out.size; have := HN.out; omega))⟩
                exact AllReadyH.nil
              exact AllReadyH.nil
            exact AllReadyH.nil
          exact AllReadyH.nil
        exact AllReadyH.nil
      exact AllReadyH.nil
    exact AllReadyH.nil
  refine AllReadyH.cons (i := 10) rfl (fun K hK => ?_) ?_
  · obtain ⟨C, hC⟩ : ∃ k, V0.heap.size = k := ⟨_, rfl⟩
    rw [if_pos (by rfl)]
    unfold Oper.wp
    rw [alloc_run _ _ zSc _ _ rfl V0, Oper.upon_value]
    have hb1 : Below V0.heap.size V0 ((V0.alloc (.cells (PB 0) 67))) := ((below_al (Below.refl _ V0) _))
    have hNC : CT ((V0.alloc (.cells (PB 0) 67))) C 67 (PB 0) := by rw [← hC]; exact Go.heap_alloc_new _ _
    have hleC : wq.heap.size ≤ C := by rw [← hC]; exact hHeld.size
    try rw [hC]
    generalize ((V0.alloc (.cells (PB 0) 67))) = V1 at hb1 hNC ⊢
    clear hC
    refine hK.out _ _ (hHeld.trans (hb1.mono hHeld.size)) (fun hHeld2 => ?_)
    clear hb1 hHeld hK K
    have hHeld := hHeld2
    clear hHeld2
    try simp only [List.getElem_toArray, List.getElem_cons_succ, List.getElem_cons_zero, Act.put, List.setIfInBounds_toArray, List.set_cons_zero, List.set_cons_succ]
    refine wpAnyH_ready (rs := [4]) (by kernel_rfl) (by simp) ?_
    refine AllReadyH.cons (i := 4) rfl (fun K hK => ?_) ?_
    · obtain ⟨M, hM⟩ : ∃ k, V1.heap.size = k := ⟨_, rfl⟩
      go_simp
      have hb2 : Below V1.heap.size V1 ((V1.alloc (.cells #[.slice (some ⟨B2, 0, none⟩) 32 32, .slice (some ⟨N, 64, none⟩) 32 32, .slice ao m.length cap] 22))) := ((below_al (Below.refl _ V1) _))
      have hNM : CT ((V1.alloc (.cells #[.slice (some ⟨B2, 0, none⟩) 32 32, .slice (some ⟨N, 64, none⟩) 32 32, .slice ao m.length cap] 22))) M 22 #[.slice (some ⟨B2, 0, none⟩) 32 32, .slice (some ⟨N, 64, none⟩) 32 32, .slice ao m.length cap] := by rw [← hM]; exact Go.heap_alloc_new _ _
      have hleM : wq.heap.size ≤ M := by rw [← hM]; exact hHeld.size
      try rw [hM]
      generalize ((V1.alloc (.cells #[.slice (some ⟨B2, 0, none⟩) 32 32, .slice (some ⟨N, 64, none⟩) 32 32, .slice ao m.length cap] 22))) = V2 at hb2 hNM ⊢
      have hltCM : C < M := by rw [← hM]; exact hNC.lt
      clear hM
      refine hK.out _ _ (hHeld.trans (hb2.mono hHeld.size)) (fun hHeld2 => ?_)
      replace hNC := hNC.ext hb2
      clear hb2 hHeld hK K
      have hHeld := hHeld2
      clear hHeld2
      try simp only [List.getElem_toArray, List.getElem_cons_succ, List.getElem_cons_zero, Act.put, List.setIfInBounds_toArray, List.set_cons_zero, List.set_cons_succ]
      refine wpAnyH_ready (rs := [5]) (by kernel_rfl) (by simp) ?_
      refine AllReadyH.cons (i := 5) rfl (fun K hK => ?_) ?_
      · go_simp
        refine (HDG.out V2 M hHeld hNM).mono ?_
        rintro e V3 ⟨rfl, hb3⟩
        go_wp2_with fail
        refine hK.out _ _ (hHeld.trans (hb3.mono hHeld.size)) (fun hHeld2 => ?_)
        replace hNC := hNC.ext hb3
        replace hNM := hNM.ext hb3
        clear hb3 hHeld hK K
        have hHeld := hHeld2
        clear hHeld2
        try simp only [List.getElem_toArray, List.getElem_cons_succ, List.getElem_cons_zero, Act.put, List.setIfInBounds_toArray, List.set_cons_zero, List.set_cons_succ]
        refine wpAnyH_ready (rs := [9]) (by kernel_rfl) (by simp) ?_
        refine AllReadyH.cons (i := 9) rfl (fun K hK => ?_) ?_
        · go_simp
          refine (HMA.out V3).mono ?_
          rintro e V4 ⟨rfl, hb4⟩
          go_wp2_with fail
          refine hK.out _ _ (hHeld.trans (hb4.mono hHeld.size)) (fun hHeld2 => ?_)
          replace hNC := hNC.ext hb4
          replace hNM := hNM.ext hb4
          clear hb4 hHeld hK K
          have hHeld := hHeld2
          clear hHeld2
          try simp only [List.getElem_toArray, List.getElem_cons_succ, List.getElem_cons_zero, Act.put, List.setIfInBounds_toArray, List.set_cons_zero, List.set_cons_succ]
          refine wpAnyH_ready (rs := [11]) (by kernel_rfl) (by simp) ?_
          refine AllReadyH.cons (i := 11) rfl (fun K hK => ?_) ?_
          · refine step_store_row (by rfl) _ _ _ rfl C (RB E) rfl rfl 67 _ hNC ((RB_rw HLE.out).info (by kernel_rfl)) ((PB_rw 0).same (RB_rw HLE.out)) (RB_rw HLE.out).one ?_
            have hb5 : Below wq.heap.size wq (V4.setRow C (RB E)) := Below.setRow hHeld hleC _
            replace hNC : CT (V4.setRow C (RB E)) C 67 (RB E) := setRow_heap _ _ _ _ _ _ hNC
            replace hNM : CT (V4.setRow C (RB E)) M _ _ := hNM.other (setRow_other _ _ _ _ (by omega))
            refine hK.out _ _ hb5 (fun hHeld2 => ?_)
            clear hHeld hK K
            generalize V4.setRow C (RB E) = V5 at hb5 hHeld2 hNC hNM ⊢
            have hHeld := hHeld2
            clear hHeld2 hb5
            try simp only [List.getElem_toArray, List.getElem_cons_succ, List.getElem_cons_zero, Act.put, List.setIfInBounds_toArray, List.set_cons_zero, List.set_cons_succ]
            refine wpAnyH_done (by kernel_rfl) ?_ _
            go_upto_region 4 with fail
            obtain ⟨vq, hvq⟩ : ∃ vq, V5 = vq := ⟨_, rfl⟩
            rw [hvq] at hHeld hNC ⊢
            have HT3 := Lib.hid (HT2.out.ext hHeld)
            have HC3 := Lib.hid hNC
            have HB3 := Lib.hid (HB.out.trans (hHeld.mono (show N ≤ wq.heap.size by have := HB.out.size; have := HN.out; omega)))
            clear hvq hHeld hNC hNM
            refine wp_region_held_drew (S := fun X => Below vq.heap.size vq X) (by kernel_rfl) (below_dr vq) (fun hHeld => ?_)
            generalize World.drew vq = V0 at hHeld ⊢
            refine wpAnyH_take (i := 0) (v := .slice (some ⟨B2, 0, none⟩) 32 32) rfl (by kernel_rfl) (by kernel_rfl) (by kernel_rfl) (fun _ _ _ h => h) (.inl ⟨by rfl, fun _ _ => by kernel_rfl⟩) hHeld ?_
            try simp only [List.getElem_toArray, List.getElem_cons_succ, List.getElem_cons_zero, Act.put, List.setIfInBounds_toArray, List.set_cons_zero, List.set_cons_succ]
            refine wpAnyH_take (i := 1) (v := .slice (some ⟨C, 0, none⟩) 32 32) rfl (by kernel_rfl) (by kernel_rfl) (by kernel_rfl) (fun _ _ _ h => h) (.inl ⟨by rfl, fun _ _ => by kernel_rfl⟩) hHeld ?_
            try simp only [List.getElem_toArray, List.getElem_cons_succ, List.getElem_cons_zero, Act.put, List.setIfInBounds_toArray, List.set_cons_zero, List.set_cons_succ]
            refine wpAnyH_ready (rs := [2]) (by kernel_rfl) (by simp) ?_
            refine AllReadyH.cons (i := 2) rfl (fun K hK => ?_) ?_
            · obtain ⟨M, hM⟩ : ∃ k, V0.heap.size = k := ⟨_, rfl⟩
              go_simp
              have hb1 : Below V0.heap.size V0 ((V0.alloc (.cells #[.slice (some ⟨B2, 0, none⟩) 32 32, .slice (some ⟨C, 0, none⟩) 32 32] 22))) := ((below_al (Below.refl _ V0) _))
              have hNM : CT ((V0.alloc (.cells #[.slice (some ⟨B2, 0, none⟩) 32 32, .slice (some ⟨C, 0, none⟩) 32 32] 22))) M 22 #[.slice (some ⟨B2, 0, none⟩) 32 32, .slice (some ⟨C, 0, none⟩) 32 32] := by rw [← hM]; exact Go.heap_alloc_new _ _
              have hleM : vq.heap.size ≤ M := by rw [← hM]; exact hHeld.size
              try rw [hM]
              generalize ((V0.alloc (.cells #[.slice (some ⟨B2, 0, none⟩) 32 32, .slice (some ⟨C, 0, none⟩) 32 32] 22))) = V1 at hb1 hNM ⊢
              clear hM
              refine hK.out _ _ (hHeld.trans (hb1.mono hHeld.size)) (fun hHeld2 => ?_)
              clear hb1 hHeld hK K
              have hHeld := hHeld2
              clear hHeld2
              try simp only [List.getElem_toArray, List.getElem_cons_succ, List.getElem_cons_zero, Act.put, List.setIfInBounds_toArray, List.set_cons_zero, List.set_cons_succ]
              refine wpAnyH_ready (rs := [3]) (by kernel_rfl) (by simp) ?_
              refine AllReadyH.cons (i := 3) rfl (fun K hK => ?_) ?_
              · go_simp
                refine (concat2_any (w := V1) (ct_all (HT3.out.ext hHeld) HLT.out) (ct_all (HC3.out.ext hHeld) HLE.out) (by have := HLT.out; have := HLE.out; omega) M _ hNM).mono ?_
                have hZ : vq.heap.size ≤ V1.heap.size := hHeld.size
                rintro e V2 ⟨v, rfl, hown, hb2⟩
                have HO := Lib.hid (hown.base (show w.heap.size ≤ _ by have := HN.out; have := HB3.out.size; omega))
                clear hown
                go_wp2_with fail
                refine hK.out _ _ (hHeld.trans (hb2.mono hHeld.size)) (fun hHeld2 => ?_)
                replace hNM := hNM.ext hb2
                clear hb2 hHeld hK K
                have hHeld := hHeld2
                clear hHeld2
                try simp only [List.getElem_toArray, List.getElem_cons_succ, List.getElem_cons_zero, Act.put, List.setIfInBounds_toArray, List.set_cons_zero, List.set_cons_succ]
                refine wpAnyH_ready (rs := [4]) (by kernel_rfl) (by simp) ?_
                refine AllReadyH.cons (i := 4) rfl (fun K hK => ?_) ?_
                · go_simp
                  refine hK.out _ _ hHeld (fun _ => ?_)
                  clear hK K
                  try simp only [List.getElem_toArray, List.getElem_cons_succ, List.getElem_cons_zero, Act.put, List.setIfInBounds_toArray, List.set_cons_zero, List.set_cons_succ]
                  refine wpAnyH_done (by kernel_rfl) ?_ _
                  go_wp2
                  go_ret
                  exact ⟨v, rfl, by rw [HEND.out]; exact HO.out, by rw [HN.out]; exact HB3.out.trans (hHeld.mono (show N ≤ vq.heap.size by have := HB3.out.size; have := HN.out; omega))⟩
                exact AllReadyH.nil
              exact AllReadyH.nil
            exact AllReadyH.nil
          exact AllReadyH.nil
        exact AllReadyH.nil
      exact AllReadyH.nil
    exact AllReadyH.nil
  exact AllReadyH.nil
end Go.Proofs.YtlpchgoaoglhcaaDoor
