/-
  The statement ValueMaps holds.
  Conditions: none.
-/
import Derived.Test.YthncckdagmjjnaaRows
import Derived.Test.YthncckdagmjjnaaValOpen
import Derived.Test.YthncckdagmjjnaaValMa
import Derived.Test.YthncckdagmjjnaaValMx
import Derived.Test.YthncckdagmjjnaaValAw
import Derived.Test.YthncckdagmjjnaaValLi
import Derived.Test.YthncckdagmjjnaaValQ
import Derived.Test.YthncckdagmjjnaaValMc
import Derived.Deep.RegionHeld3
import Derived.Deep.AppendLies
import Derived.Deep.RegionLaw
import Derived.ProofKit
import Derived.OpenShut
import Derived.ShutString
namespace Go.Proofs.Ythncckdagmjjnaa
open Go.RowKit Go.Shelf

theorem turn_small (tn : Int) (n : Nat) (h0 : 0 < n) (h : n ≤ 1000000) : ∃ k : Nat, wrap64 ((IntKind.u64.wrap tn).tmod (n : Int)) = (k : Int) ∧ k < n := by
  have h1 : 0 ≤ IntKind.u64.wrap tn := by simp [IntKind.wrap, IntKind.bits, IntKind.signed]; omega
  generalize IntKind.u64.wrap tn = q at *
  rw [Int.tmod_eq_emod_of_nonneg h1]
  have h2 := Int.emod_nonneg q (show (n : Int) ≠ 0 by omega)
  have h3 := Int.emod_lt_of_pos q (show (0 : Int) < n by omega)
  refine ⟨(q % (n : Int)).toNat, ?_, by omega⟩
  rw [wrap64_id _ (by omega)]
  omega
/-- The places from the end, k further on, round. -/
def backD (n k i : Nat) : List Nat := (List.range i).map fun j => (n - 1 - j + k) % n
theorem backD_succ (n k i : Nat) : backD n k (i + 1) = backD n k i ++ [(n - 1 - i + k) % n] := by
  unfold backD
  rw [List.range_succ]; simp
theorem backD_lt {n k i : Nat} (h : 0 < n) : ∀ x ∈ backD n k i, x < n := by
  intro x hx
  obtain ⟨j, _, rfl⟩ := List.mem_map.1 hx
  exact Nat.mod_lt _ h
theorem backs_mem (L : List (ByteArray × VT)) (k : Nat) (x : ByteArray × VT) : x ∈ (backD L.length k L.length).map (memD L) ↔ x ∈ L := by
  rw [← turned_mem L k (⟨#[]⟩, VT0) x]
  simp only [backD, List.map_map]
  rfl
theorem backD_len (n k i : Nat) : (backD n k i).length = i := by simp [backD]

theorem light_depM {m : List (ByteArray × VT)} {k n : Int} {s : ByteArray} (h : wt 800 71 (.mk k n s [] m) ≤ 800) : depM m ≤ 800 := by
  have h1 := wt_sz 800 (by decide) 71 _ h
  have h2 := depM_szM m
  simp only [sz] at h1
  omega
theorem mayM_mem {L : List (ByteArray × VT)} (h : MayM L) : ∀ x ∈ L, May x.2 := by
  induction L with
  | nil => intro x hx; cases hx
  | cons y L ih =>
    obtain ⟨k, t⟩ := y
    simp only [MayM] at h
    intro x hx
    rcases List.mem_cons.1 hx with rfl | hx
    · exact h.1
    · exact ih h.2 x hx
theorem mayM_of {L : List (ByteArray × VT)} (h : ∀ x ∈ L, May x.2) : MayM L := by
  induction L with
  | nil => trivial
  | cons y L ih =>
    obtain ⟨k, t⟩ := y
    exact ⟨h (k, t) (by simp), ih fun x hx => h x (by simp [hx])⟩
/-- A map's node, of keys that are good and ascend. -/
theorem node_map {L : List (ByteArray × VT)} (hL : Asc L) (hk : ∀ x ∈ L, gS x.1 = true) : NodeOK (.mk 5 0 ⟨#[]⟩ [] L) := by
  unfold NodeOK
  right; right; right; right; right
  refine ⟨rfl, rfl, by decide +kernel, rfl, fun i hi => ⟨hk _ (List.getElem_mem hi), fun h0 => hL (i - 1) i (by omega) hi⟩⟩
theorem node_keys {k n : Int} {s : ByteArray} {l : List VT} {L : List (ByteArray × VT)} (hk : k = 5) (h : NodeOK (.mk k n s l L)) : KeysOK L := by
  unfold NodeOK at h
  rcases h with h | h | h | h | h | h
  · omega
  · omega
  · omega
  · omega
  · omega
  · exact h.2.2.2.2
theorem may_mapT {L : List (ByteArray × VT)} : May (.mk 5 0 ⟨#[]⟩ [] L) ↔ Asc L ∧ (∀ x ∈ L, gS x.1 = true) ∧ ∀ x ∈ L, May x.2 := by
  rw [May]
  constructor
  · rintro ⟨h1, -, h3⟩
    have hk := node_keys rfl h1
    exact ⟨hk.asc, fun x hx => by obtain ⟨i, hi, rfl⟩ := List.mem_iff_getElem.1 hx; exact (hk i hi).1, mayM_mem (h3 rfl)⟩
  · rintro ⟨h1, h2, h3⟩
    exact ⟨node_map h1 h2, fun h => by simp at h, fun _ => mayM_of h3⟩
/-- A row of nothing that a call made. -/
theorem own_empty (w : World) : (w.alloc (.cells #[] 28)).ownsRow w.heap.size 28 6 (.slice (some ⟨w.heap.size, 0, none⟩) 0 0) 0 [] :=
  ⟨rfl, .inr ⟨w.heap.size, 0, #[], rfl, Nat.le_refl _, World.alloc_heap_new w _, Nat.le_refl _, by decide, rfl, rfl⟩⟩
/-- Members and others behind them, in a row of the call's own. -/
theorem joined_at {n₀ n₁ base n : Nat} {w w1 W : World} {m L : List (ByteArray × VT)} {s1 s2 v : Value} {c1 c2 : Nat → Nat → Value} (h1 : MAt n₀ w m s1 c1) (h2 : MAt n₁ w1 L s2 c2)
    (hown : W.ownsRow base 28 6 v n (flat6 c1 (List.range m.length) ++ flat6 c2 (List.range L.length))) (hb1 : Below n₀ w W) (hb2 : Below n₁ w1 W) (hz1 : n₀ ≤ W.heap.size) (hz2 : n₁ ≤ W.heap.size) (hl : m.length + L.length ≤ 1000000) :
    ∃ cm, MAt W.heap.size W (m ++ L) v cm := by
  exact (((h1.cells.keep hb1).mono hz1).append ((h2.cells.keep hb2).mono hz2)).owned hown (Nat.le_refl _) (by simpa using hl) |>.2

/-- The map of one member. -/
def oneT (x : ByteArray × VT) : VT := .mk 5 0 ⟨#[]⟩ [] [x]

theorem good_maps {m L : List (ByteArray × VT)} (h : IsMap m L) (hg : ∀ j (hj : j < m.length), GoodV (oneT m[j])) (hd : dep (.mk 5 0 ⟨#[]⟩ [] L) ≤ 50) : GoodV (.mk 5 0 ⟨#[]⟩ [] L) := by
  rw [goodV_iff]
  have key : ∀ x ∈ L, gS x.1 = true ∧ May x.2 := by
    intro x hx
    obtain ⟨j, hj, rfl⟩ := List.mem_iff_getElem.1 (isMap_mem h hx)
    have h1 := hg j hj
    rw [goodV_iff] at h1
    have h2 := may_mapT.1 h1.2
    exact ⟨h2.2.1 _ (by simp), h2.2.2 _ (by simp)⟩
  exact ⟨hd, may_mapT.2 ⟨h.1, fun x hx => (key x hx).1, fun x hx => (key x hx).2⟩⟩
theorem mapT_k5 (L : List (ByteArray × VT)) : dep (.mk 5 0 ⟨#[]⟩ [] L) = 1 + depM L := by simp [dep]

set_option maxRecDepth 100000 in
set_option maxHeartbeats 4000000 in
theorem maps_true (m : List (ByteArray × VT)) (sv : Value) (cm : Nat → Nat → Value) (tn : Int) (w : World) (hm : MAt w.heap.size w m sv cm) (htn : (Lit.int .i64 tn).wf = true) :
    Calls Try.prog 7 #[sv, .int .i64 tn] w fun e w' => e = .returned (.bool true) ∧ Below w.heap.size w w' := by
  obtain ⟨i0, hi0, hz0, hz1, hz2⟩ := info_parts info_mem
  obtain ⟨ao, cap, rfl, -⟩ := hm.1.form
  have HM := Lib.hid hm
  have HTN := Lib.hid htn
  clear hm htn
  go_enter Try.func7, Try.ntmps7
  go_wp2_with fail
  refine (awake_true _).mono ?_
  rintro e w1 ⟨rfl, hb1⟩
  have HB1 := Lib.hid hb1
  clear hb1
  by_cases hl1 : (m.length : Int) < 1
  · go_wp2
    go_ret
    exact ⟨rfl, HB1.out⟩
  by_cases hl40 : 40 < (m.length : Int)
  · go_wp2
    go_ret
    exact ⟨rfl, HB1.out⟩
  go_wp2_with fail
  obtain ⟨r, hr⟩ : ∃ r : Bool, r = true ↔ wt 800 71 (.mk 0 0 ⟨#[]⟩ [] m) ≤ 800 := ⟨decide (wt 800 71 (.mk 0 0 ⟨#[]⟩ [] m) ≤ 800), by simp⟩
  refine (light_any (HM.out.val 0 rfl) w1 HB1.out HB1.out.size r hr).mono ?_
  rintro e w2 ⟨rfl, hb2⟩
  have HB2 := Lib.hid (HB1.out.trans (hb2.mono HB1.out.size))
  clear hb2
  cases r with
  | false =>
    clear hr
    go_wp2
    go_ret
    exact ⟨rfl, HB2.out⟩
  | true =>
    have HL2 := Lib.hid (hr.1 rfl)
    clear hr
    go_wp2_with fail
    go_loopw [5] (fun iv wr => ∃ i : Nat, i ≤ m.length ∧ iv = .int .i64 i ∧ (∀ j (hj : j < m.length), j < i → GoodV (oneT m[j])) ∧ Below w.heap.size w wr) (fun i _ => m.length - (intOf i).toNat)
    case atStart => exact ⟨0, Nat.zero_le _, rfl, fun j _ hj => absurd hj (Nat.not_lt_zero _), HB2.out⟩
    case round =>
      obtain ⟨i, hi, rfl, hgs, hbr⟩ := hrel
      rename World => Wr
      have HGS := Lib.hid hgs
      have HBR := Lib.hid hbr
      clear hgs hbr
      by_cases hil : i < m.length
      · obtain ⟨bb, off, hao, hbn, c0, c1, c2, c3, c4, c5⟩ := (HM.out.keep HBR.out).1.at6 hil
        obtain ⟨ek, en, es, ea, el, ep, eb, em, eq, e1, e2, e3, e4, e5⟩ := (HM.out.2.2 i hil).form6
        simp only [Nat.reduceAdd] at e1 e2 e3 e4 e5
        have e0 := (HM.out.2.1 i hil).1
        have HVI := Lib.hid (HM.out.2.2 i hil)
        obtain ⟨ky, hky⟩ : ∃ ky, ky = m[i].1 := ⟨_, rfl⟩
        have HKS := Lib.hid (show ky.size ≤ sMax by rw [hky]; exact (HM.out.2.1 i hil).2)
        rw [← hky] at e0
        have HKY := Lib.hid hky
        have HVX := Lib.hid (show VAt w.heap.size w m[i].2 (.agg #[.int .i64 ek, .int .i64 en, .string es, .slice ea el ep, .slice eb em eq]) by rw [← e1, ← e2, ← e3, ← e4, ← e5]; exact HVI.out)
        rw [e0] at c0; rw [e1] at c1; rw [e2] at c2; rw [e3] at c3; rw [e4] at c4; rw [e5] at c5
        subst hao
        clear e0 e1 e2 e3 e4 e5 hky
        have i5 : (i : Int) < (m.length : Int) := by omega
        go_wp2_with fail
        generalize hWa : Wr.alloc _ = Wa
        have hvA : Wa.heap[Wr.heap.size]? = some (.cells #[.string ky, .int .i64 ek, .int .i64 en, .string es, .slice ea el ep, .slice eb em eq] 28 (0, 0)) := by subst hWa; exact World.alloc_heap_new Wr _
        have hbA : Below Wr.heap.size Wr Wa := by subst hWa; exact (Below.refl _ Wr).alloc (Nat.le_refl _) _
        have hzA : Wr.heap.size < Wa.heap.size := by subst hWa; simp
        have HBA := Lib.hid (HBR.out.trans (hbA.mono HBR.out.size))
        have HOA := Lib.hid (one_at (n₁ := Wa.heap.size) hvA hzA HKS.out HVX.out HBA.out HBA.out.size)
        clear hWa hvA hbA c0 c1 c2 c3 c4 c5
        refine (map_all HOA.out Wa (Below.refl _ _) (Nat.le_refl _) (by simp)).mono ?_
        rintro e w4 ⟨x, L, rfl, hL, hx, hb4⟩
        obtain rfl := hL.unique (isMap_one _)
        have hkv : (ky, m[i].2) = m[i] := by rw [HKY.out]
        rw [hkv] at hx
        have HX := Lib.hid (show VAt w4.heap.size w4 (oneT m[i]) x from hx)
        have HB4 := Lib.hid (HBA.out.trans (hb4.mono HBA.out.size))
        clear hL hx hb4 hkv hzA
        go_wp2_with fail
        obtain ⟨r, hr⟩ : ∃ r : Bool, r = true ↔ GoodV (oneT m[i]) := by classical exact ⟨decide (GoodV (oneT m[i])), by rw [decide_eq_true_iff]⟩
        refine (vgood_any HX.out w4 (Below.refl _ _) (Nat.le_refl _) r hr).mono ?_
        rintro e w5 ⟨rfl, hb5⟩
        have HB5 := Lib.hid (HB4.out.trans (hb5.mono HB4.out.size))
        clear hb5
        cases r with
        | false =>
          clear hr
          go_wp2
          go_ret
          exact ⟨rfl, HB5.out⟩
        | true =>
          have HGI := Lib.hid (hr.1 rfl)
          clear hr
          go_wp2
          go_roundw
          case rel =>
            refine ⟨i + 1, by omega, by go_num, fun j hj hji => ?_, HB5.out⟩
            rcases (show j < i ∨ j = i by omega) with h | rfl
            · exact HGS.out j hj h
            · exact HGI.out
          case measure => simp [intOf]; omega
      · have HGA := Lib.hid (show ∀ j (hj : j < m.length), GoodV (oneT m[j]) from fun j hj => HGS.out j hj (by omega))
        have HML := Lib.hid (show m.length ≤ 1000000 by omega)
        go_wp2_with fail
        refine (map_all HM.out Wr HBR.out HBR.out.size HML.out).mono ?_
        rintro e w3 ⟨x, L, rfl, hL, hx, hb3⟩
        have HL := Lib.hid hL
        have HLP := Lib.hid (isMap_pos hL (by omega))
        have hLn : L.length ≤ 40 := by have := isMap_len hL; omega
        have hLp : 0 < L.length := HLP.out
        have HX := Lib.hid hx
        obtain ⟨al, cl, am, cp, cx, rfl, hmx⟩ := hx.mems
        have HMX := Lib.hid hmx
        have HB3 := Lib.hid (HBR.out.trans (hb3.mono HBR.out.size))
        clear hL hx hmx hb3
        obtain ⟨k, hk, hkm⟩ := turn_small tn m.length (by omega) (by omega)
        go_wp2_with fail
        rw [hk]
        generalize hW4 : w3.alloc _ = W4
        have hv4 : W4.heap[w3.heap.size]? = some (.cells #[.int .i64 5, .int .i64 0, .string ⟨#[]⟩, .slice al 0 cl, .slice am L.length cp] 26 (0, 0)) := by subst hW4; exact World.alloc_heap_new w3 _
        have hb4 : Below w3.heap.size w3 W4 := by subst hW4; exact (Below.refl _ w3).alloc (Nat.le_refl _) _
        have hz4 : w3.heap.size < W4.heap.size := by subst hW4; simp
        have HV4 := Lib.hid hv4
        have HB4 := Lib.hid hb4
        have HBW4 := Lib.hid (HB3.out.trans (hb4.mono HB3.out.size))
        have hk40 : k < 40 := by omega
        clear hW4 hv4 hb4 hk
        go_loopw [8, 9] (fun ov iv wr => ∃ i : Nat, i ≤ L.length ∧ iv = .int .i64 i ∧ wr.ownsRow W4.heap.size 28 6 ov (backD L.length k i).length (flat6 cx (backD L.length k i)) ∧ Below W4.heap.size W4 wr) (fun _ i _ => L.length - (intOf i).toNat)
        case atStart => exact ⟨0, Nat.zero_le _, rfl, World.ownsRow_nil _ _ _ _, Below.refl _ _⟩
        case round =>
          obtain ⟨i, hi, rfl, hown, hbr⟩ := hrel
          rename World => Wq
          rw [backD_len] at hown
          obtain ⟨oa, oc, rfl, hoc⟩ := ownsRow_slice hown
          have HOWN := Lib.hid hown
          have HBQ := Lib.hid hbr
          have HXQ := Lib.hid (box_keep HV4.out hbr hz4)
          have hqz : W4.heap.size ≤ Wq.heap.size := hbr.size
          clear hown hbr hoc
          obtain ⟨y0, y1, y2, y3, y4⟩ := c5of HXQ.out
          by_cases hiL : i < L.length
          · obtain ⟨d, hd⟩ : ∃ d, d = (L.length - 1 - i + k) % L.length := ⟨_, rfl⟩
            have hdL : d < L.length := by rw [hd]; exact Nat.mod_lt _ hLp
            obtain ⟨bb, off, hao, hbn, c0, c1, c2, c3, c4, c5⟩ := (HMX.out.keep (HB4.out.trans (HBQ.out.mono (Nat.le_of_lt hz4)))).1.at6 hdL
            obtain ⟨ek, en, es, ea, el, ep, eb, em, eq, e1, e2, e3, e4, e5⟩ := (HMX.out.2.2 d hdL).form6
            simp only [Nat.reduceAdd] at e1 e2 e3 e4 e5
            have e0 := (HMX.out.2.1 d hdL).1
            obtain ⟨ky, hky⟩ : ∃ ky, ky = L[d].1 := ⟨_, rfl⟩
            rw [← hky] at e0
            rw [e0] at c0; rw [e1] at c1; rw [e2] at c2; rw [e3] at c3; rw [e4] at c4; rw [e5] at c5
            have HE := Lib.hid (show flat6 cx (backD L.length k (i + 1)) = flat6 cx (backD L.length k i) ++ [.string ky, .int .i64 ek, .int .i64 en, .string es, .slice ea el ep, .slice eb em eq] by
              rw [backD_succ, ← hd, flat6_append]; simp [flat6, e0, e1, e2, e3, e4, e5])
            subst hao
            have q1 : IntKind.i64.wrap ((L.length : Int) - 1) = ((L.length - 1 : Nat) : Int) := by rw [iw_id _ (by omega)]; omega
            have q2 : IntKind.i64.wrap (((L.length - 1 : Nat) : Int) - (i : Int)) = ((L.length - 1 - i : Nat) : Int) := by rw [iw_id _ (by omega)]; omega
            have q3 : IntKind.i64.wrap (((L.length - 1 - i : Nat) : Int) + (k : Int)) = ((L.length - 1 - i + k : Nat) : Int) := by rw [iw_id _ (by omega)]; omega
            have q4 : (((L.length - 1 - i : Nat) : Int) + (k : Int)).tmod (L.length : Int) = (d : Int) := by rw [hd, Int.tmod_eq_emod_of_nonneg (by omega)]; simp
            clear e0 e1 e2 e3 e4 e5 hky hd
            have i5 : (i : Int) < (L.length : Int) := by omega
            have d5 : (d : Int) < (L.length : Int) := by omega
            have n5 : ¬ L = [] := by rintro rfl; exact absurd hLp (Nat.lt_irrefl _)
            go_wp2_with fail
            go_region_law ((refine step_append_src (by simp [Region.wanted]) _ _ (by rfl) W4.heap.size i _ (flat6 cx (backD L.length k i)) (by rfl) (by exact ((HOWN.out.alloc _).drew)) 1 (.slice (some ⟨Wq.heap.size, 0, none⟩) 1 1) [.string ky, .int .i64 ek, .int .i64 en, .string es, .slice ea el ep, .slice eb em eq] (by rfl) (by exact src_one (World.alloc_heap_new Wq _) (by simp [Value.oneCell'])) (by omega) (by simp; omega) ?_; intro v5 w5 hown5 hgr5))
            all_goals
              have HO5 := Lib.hid (show w5.ownsRow W4.heap.size 28 6 v5 (i + 1) (flat6 cx (backD L.length k (i + 1))) by rw [HE.out]; exact hown5)
              have HB5 := Lib.hid (show Below W4.heap.size W4 w5 from ((HBQ.out.alloc hqz _).drew).grown hgr5 (by simp; omega) (fun k hk => ownBlock_lt HOWN.out k hk))
              clear hown5 hgr5 q1 q2 q3 q4 n5 y0 y1 y2 y3 y4 c0 c1 c2 c3 c4 c5
              go_wp2
              go_roundw
              case rel => exact ⟨i + 1, by omega, by go_num, by rw [backD_len]; exact HO5.out, HB5.out⟩
              case measure => simp [intOf]; omega
          · obtain rfl : i = L.length := by omega
            have HMC := Lib.hid (HMX.out.keep (HB4.out.trans (HBQ.out.mono (Nat.le_of_lt hz4))))
            have HDP := Lib.hid (show dep (.mk 5 0 ⟨#[]⟩ [] L) ≤ 1000000 by rw [mapT_k5]; have := isMap_dep HL.out; have := light_depM HL2.out; omega)
            have HBX := Lib.hid (show Below w3.heap.size w3 Wq from HB4.out.trans (HBQ.out.mono (Nat.le_of_lt hz4)))
            have HBWQ := Lib.hid (show Below w.heap.size w Wq from HBW4.out.trans (HBQ.out.mono HBW4.out.size))
            go_wp2_with fail
            refine (depth_any HX.out HDP.out Wq HBX.out HBX.out.size).mono ?_
            rintro e w6 ⟨rfl, hb6⟩
            have HB6 := Lib.hid (HBX.out.trans (hb6.mono HBX.out.size))
            have HBW6 := Lib.hid (HBWQ.out.trans (hb6.mono HBWQ.out.size))
            have HX6 := Lib.hid (box_keep HXQ.out hb6 (Nat.lt_of_lt_of_le hz4 hqz))
            have HO6 := Lib.hid (ownsRow_keep HOWN.out hb6)
            have h36 : w3.heap.size < w6.heap.size := Nat.lt_of_lt_of_le (Nat.lt_of_lt_of_le hz4 hqz) hb6.size
            clear hb6 y0 y1 y2 y3 y4
            obtain ⟨dd, hdd⟩ : ∃ dd, dd = dep (.mk 5 0 ⟨#[]⟩ [] L) := ⟨_, rfl⟩
            rw [← hdd]
            by_cases h50 : 50 < (dd : Int)
            · clear hdd
              go_wp2
              go_ret
              exact ⟨rfl, HBW6.out⟩
            · have HGD := Lib.hid (good_maps HL.out HGA.out (by omega))
              clear hdd
              obtain ⟨y0, y1, y2, y3, y4⟩ := c5of HX6.out
              go_wp2_with fail
              have HD6 := Lib.hid (show Below w6.heap.size w6 w6.drew from (Below.refl _ w6).drew)
              have HBK : ∀ x : World, Below w6.heap.size w6 x → Hid (x.heap[w3.heap.size]? = some (.cells #[.int .i64 5, .int .i64 0, .string ⟨#[]⟩, .slice al 0 cl, .slice am L.length cp] 26 (0, 0))) := fun x h => Lib.hid (box_keep HX6.out h h36)
              have HV3 : ∀ x : World, Below w6.heap.size w6 x → Hid (VAt x.heap.size x (.mk 5 0 ⟨#[]⟩ [] L) (.agg #[.int .i64 5, .int .i64 0, .string ⟨#[]⟩, .slice al 0 cl, .slice am L.length cp])) := fun x h => Lib.hid (((HX.out.keep HB6.out).mono HB6.out.size |>.keep h).mono h.size)
              obtain ⟨cb, hcb⟩ := ((HMX.out.keep HB6.out).pick (backD L.length k L.length) (backD_lt hLp)).owned HO6.out HB6.out.size (by simp [backD_len]; omega) |>.2
              have HBA := Lib.hid hcb
              clear hcb
              go_region_held3 (fun x => x.cell? ⟨w3.heap.size, 0, none⟩ = some (.int .i64 5) ∧ x.cell? ⟨w3.heap.size, 1, none⟩ = some (.int .i64 0) ∧ x.cell? ⟨w3.heap.size, 2, none⟩ = some (.string ⟨#[]⟩) ∧ x.cell? ⟨w3.heap.size, 3, none⟩ = some (.slice al 0 cl) ∧ x.cell? ⟨w3.heap.size, 4, none⟩ = some (.slice am L.length cp))
                (first | exact ⟨y0, y1, y2, y3, y4⟩ | exact ⟨by assumption, by assumption, by assumption, by assumption, by assumption⟩ | exact ⟨Lib.cell?_alloc_some _ (by assumption), Lib.cell?_alloc_some _ (by assumption), Lib.cell?_alloc_some _ (by assumption), Lib.cell?_alloc_some _ (by assumption), Lib.cell?_alloc_some _ (by assumption)⟩)
                (first
                  | (go_at_call 15; refine (vgood_any (HV3 w6.drew HD6.out).out _ (Below.refl _ _) (Nat.le_refl _) true (by simp [HGD.out])).mono ?_; rintro e w7 ⟨rfl, hq⟩; have hb7 : Below w6.heap.size w6 w7 := HD6.out.trans (hq.mono HD6.out.size); clear hq; obtain ⟨a70, a71, a72, a73, a74⟩ := c5of (HBK w7 hb7).out)
                  | (go_at_call_of 18 oa; refine (map_all HBA.out _ hb7 hb7.size (by simp [backD_len]; omega)).mono ?_; rintro e w8 ⟨u8, l8, rfl, hl8, hx8, hq⟩; have hb8 : Below w6.heap.size w6 w8 := hb7.trans (hq.mono hb7.size); clear hq; have HL8 := Lib.hid (hl8.unique (isMap_of_mem HL.out.1 (backs_mem L k))); have HX8 := Lib.hid hx8; clear hl8 hx8; obtain ⟨a80, a81, a82, a83, a84⟩ := c5of (HBK w8 hb8).out)
                  | (go_at_call_of 24 u8; refine (same_any HX8.out (HV3 w8 hb8).out _ (Below.refl _ _) (Nat.le_refl _) true (by rw [HL8.out]; simp)).mono ?_; rintro e w9 ⟨rfl, hq⟩; have hb9 : Below w6.heap.size w6 w9 := hb8.trans (hq.mono hb8.size); clear hq; obtain ⟨a90, a91, a92, a93, a94⟩ := c5of (HBK w9 hb9).out)
                  | (refine step_append_src (by rfl) _ _ (by rfl) w9.heap.size 0 _ [] (by rfl) (own_empty w9) m.length (.slice ao m.length cap) _ (by rfl) (HM.out.src _ ((HBW6.out.trans (hb9.mono HBW6.out.size)).alloc (Nat.le_trans HBW6.out.size hb9.size) _)) (by omega) (by simp) ?_; intro v10 w10 ho10 hg10; rw [Nat.zero_add, List.nil_append] at ho10; have hb10 : Below w6.heap.size w6 w10 := (hb9.alloc hb9.size _).grown hg10 (by have := hb9.size; simp; omega) (fun k hk => by simp [Value.ownBlock] at hk; have := hb9.size; omega); have hz10 : w9.heap.size ≤ w10.heap.size := (by have := hg10.size; simp at this; omega); clear hg10; obtain ⟨ja, jc, rfl, -⟩ := ownsRow_slice ho10; have HO10 := Lib.hid ho10; clear ho10; obtain ⟨b100, b101, b102, b103, b104⟩ := c5of (HBK w10 hb10).out)
                  | (refine step_append_src (by rfl) _ _ (by rfl) w9.heap.size m.length _ _ (by rfl) HO10.out L.length (.slice am L.length cp) _ (by rfl) (HMX.out.src w10 (HB6.out.trans (hb10.mono HB6.out.size))) (by omega) (by have := hz10; omega) ?_; intro v11 w11 ho11 hg11; have hb11 : Below w6.heap.size w6 w11 := hb10.grown hg11 hb10.size (fun k hk => by have := ownBlock_lt HO10.out k hk; have := hb9.size; omega); clear hg11; obtain ⟨ka, kc, rfl, -⟩ := ownsRow_slice ho11; obtain ⟨cj, hcj⟩ := joined_at HM.out HMX.out ho11 (HBW6.out.trans (hb11.mono HBW6.out.size)) (HB6.out.trans (hb11.mono HB6.out.size)) (HBW6.out.trans (hb11.mono HBW6.out.size)).size (HB6.out.trans (hb11.mono HB6.out.size)).size (by omega); have HJO := Lib.hid hcj; clear ho11 hcj; obtain ⟨b110, b111, b112, b113, b114⟩ := c5of (HBK w11 hb11).out)
                  | (go_at_call_of 18 ka; refine (map_all (HJO.out) _ (Below.refl _ _) (Nat.le_refl _) (by simp; omega)).mono ?_; rintro e w12 ⟨u12, l12, rfl, hl12, hx12, hq⟩; have hb12 : Below w6.heap.size w6 w12 := hb11.trans (hq.mono hb11.size); clear hq; have HL12 := Lib.hid (hl12.unique (isMap_app HL.out)); have HX12 := Lib.hid hx12; clear hl12 hx12; obtain ⟨a120, a121, a122, a123, a124⟩ := c5of (HBK w12 hb12).out)
                  | (go_at_call_of 24 u12; refine (same_any HX12.out (HV3 w12 hb12).out _ (Below.refl _ _) (Nat.le_refl _) true (by rw [HL12.out]; simp)).mono ?_; rintro e w13 ⟨rfl, hq⟩; have hb13 : Below w6.heap.size w6 w13 := hb12.trans (hq.mono hb12.size); clear hq; obtain ⟨a130, a131, a132, a133, a134⟩ := c5of (HBK w13 hb13).out))
              all_goals
                go_wp2
                go_ret
                exact ⟨rfl, HBW6.out.trans (hb13.mono HBW6.out.size)⟩

section
open Go.ChangeShapes Go.WideShapes Go.ChangeAt Go.Deep
open Go.ChangeMaps (open_string shut_string)
theorem maps_own : ownKnob Try.prog.godebug = none := by kernel_rfl
theorem maps_laid : laidOutB Try.prog = true := by kernel_rfl

set_option maxRecDepth 100000 in
theorem maps_lifted (os : Os) (started : os.Started) (H : Type) (enc : TypeId × Value → H) :
    ReturnsInHanded {} Try.checked os 7 .any (Rows.valueMapsSpec.pre6 enc Try.prog Try.f7 Rows.valueMapsRow.domain false) (Rows.valueMapsSpec.post enc Try.prog Try.f7 false true false false) := by
  refine returnsInHanded_of_change_sized (C := Try.checked) maps_own started (by kernel_rfl) Try.func7
    (ChangeSpec.witness6 (enc := enc) (C := Try.checked) false ⟨#[], #[.slice none 0 0, .int .i64 0], []⟩ 8 (by kernel_rfl) (by kernel_rfl) (by kernel_rfl) (by kernel_rfl)) ?_
  intro W base args ds gs before hval0 hW hcnd hsz0 _
  have hval : ∀ (j : Nat) t v, Try.f7.params[j]? = some t → args[j]? = some v → Value.okWide Try.prog W .any base t v := hval0
  have hW' := hW
  obtain ⟨p, q, hA0, hV, rfl, hfz, hnd⟩ := hW
  have hA : DataW.TrodAll enc Try.prog W 0 (fun _ => true) true Try.f7.params.toList args.toList ds p := hA0
  have hsz : (DataW.weightsEach Try.prog Try.f7.params.toList ds).all (· ≤ reachBytes) = true := by
    obtain ⟨rfl, rfl⟩ := trodVars_none hV
    rw [List.append_nil] at hsz0
    exact hsz0
  rw [Try.params7] at hA hval hsz
  obtain ⟨v0, vs0, d0, ds0, p0, q0, hargs, rfl, rfl, h0, r0⟩ := trodAll_cons hA
  obtain ⟨v1, vs1, d1, ds1, p1, q1, rfl, rfl, rfl, h1, r1⟩ := trodAll_cons r0
  obtain ⟨rfl, rfl, rfl⟩ := trodAll_nil r1
  obtain rfl : args = #[v0, v1] := by cases args; simp_all
  obtain ⟨rfl, rfl⟩ := trodVars_none hV
  have hw0 : ∀ n ∈ d0.weights Try.prog 24, n ≤ reachBytes := fun n hn => by simpa using List.all_eq_true.1 hsz n (DataW.weights_mem_each (j := 0) rfl rfl n hn)
  have hlt0 : ∀ x ∈ p0, x.block < W.heap.size := fun x hx => hW'.lt x (by simp [hx])
  have hh0 := h0
  obtain ⟨m0, cm0, hv0⟩ : ∃ m cm, MAt W.heap.size W m v0 cm := by
    obtain ⟨fuel, hf⟩ := h0
    obtain ⟨aa, ll, cc, rfl⟩ := okWide_slice Try.underlying24 (hval 0 24 v0 rfl rfl)
    exact open_mems fuel _ (d0, p0) hf hw0
  obtain ⟨a1, rfl, rfl, rfl, w1⟩ := open_int Try.underlying3 (hval 1 3 v1 rfl rfl) h1
  clear hA0 hval0 hsz0
  simp only [List.append_nil] at hW'
  refine (maps_true m0 v0 cm0 a1 W hv0 w1).mono fun e W' ⟨he, bel⟩ => ?_
  subst he
  exact ⟨_, rfl, _, _, _, [], _, [], hW', trodAll_mk1 (shut_bool Try.underlying4 _), (trodAll_cons_mk (Below.trod maps_laid (by kernel_rfl) (of_decide_eq_true (by kernel_rfl)) hh0 bel hlt0) (trodAll_cons_mk (shut_int Try.underlying3 w1) trodAll_mk0)), rfl, bel.frame _, fun h => by cases h⟩

theorem maps_holds : Rows.ValueMapsSaid :=
  OpenClaim.holds_of_wide 7 Try.f7 rfl rfl rfl rfl rfl rfl rfl ⟨rfl, rfl, rfl, rfl, rfl⟩ rfl rfl rfl rfl rfl (by kernel_rfl) Try.func7 (by kernel_rfl)
    (of_decide_eq_true (by kernel_rfl)) (by unfold Func.isWrapper; first | (rw [if_pos (by decide +kernel)]; kernel_rfl) | (rw [if_neg (by decide +kernel)]; exact ⟨rfl, rfl⟩))
    (fun os started H enc _ => maps_lifted os started H enc)
#print axioms maps_holds

end
end Go.Proofs.Ythncckdagmjjnaa
