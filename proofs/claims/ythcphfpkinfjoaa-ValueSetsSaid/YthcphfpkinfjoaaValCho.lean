/-
  The library's slices.Values, AppendSeq, Collect at strings: a row's strings, in a row of the call's own.
  The library's slices.SortFunc at strings, by package value's compare: the same strings, by their bytes.
  The library's slices.Collect, SortedFunc and BinarySearchFunc at strings, by package value's compare.
  Package value's choose, Keep and Drop: the members of a map whose key is among some, or is not.
  Conditions: none.
-/
import Derived.Test.YthcphfpkinfjoaaValE
import Derived.Test.YthcphfpkinfjoaaValMap
import Derived.OwnWalk
import Derived.Maps.AppendAt
import Derived.Test.YthcphfpkinfjoaaValR
import Derived.Shelf.SlSortCmp.NoneTotal
import Derived.Test.YthcphfpkinfjoaaValMc
namespace Go.Proofs.Ythcphfpkinfjoaa
open Go.RowKit Go.Shelf
attribute [local go_sem] Oper.semAt_some

/-- Strings in a row. -/
def StrAt (n₀ : Nat) (w : World) (ks : List ByteArray) (sv : Value) : Prop := RowAt n₀ w 1 sv ks.length (fun i _ => .string (ks.getD i ⟨#[]⟩))
theorem RowAt.at1 {n₀ : Nat} {w : World} {ao : Option Addr} {cap len : Nat} {c : Nat → Nat → Value} (h : RowAt n₀ w 1 (.slice ao len cap) len c) {j : Nat} (hj : j < len) :
    ∃ b off, ao = some ⟨b, off, none⟩ ∧ b < n₀ ∧ w.cell? ⟨b, off + j, none⟩ = some (c j 0) := by
  obtain ⟨b, off, rfl, hb, hc⟩ := h.at hj
  have := hc 0 (by decide)
  simp only [Nat.mul_one, Nat.add_zero] at this
  exact ⟨b, off, rfl, hb, this⟩

theorem values_any (sv : Value) (ao : Option Addr) (n cap : Nat) (hv : sv = .slice ao n cap) (w : World) :
    Calls Try.prog 68 #[sv] w fun e w' => e = .returned (.func (.func 90) #[] #[.pointer (some ⟨w.heap.size, 0, none⟩)]) ∧ w' = w.alloc (.cells #[sv] 56) := by
  subst hv
  go_enter Try.func68, Try.ntmps68
  go_wp2
  go_ret
  exact ⟨rfl, rfl⟩

set_option maxRecDepth 100000 in
set_option maxHeartbeats 2000000 in
theorem values_seq (n : Nat) (hn : 1 ≤ n) (Bv n₀ N cap : Nat) (ao : Option Addr) (cl : Nat → Nat → Value) (w : World) (hBv : Bv < w.heap.size) (hn₀ : n₀ ≤ w.heap.size)
    (hc0 : w.cell? ⟨Bv, 0, none⟩ = some (.slice ao N cap)) (hrow : RowAt n₀ w 1 (.slice ao N cap) N cl) (hN : N ≤ 1000000000000000) (hf : ∀ i, i < N → ∃ s, cl i 0 = .string s) :
    SeqStopsK Fence.wide n Try.prog 90 #[.pointer (some ⟨Bv, 0, none⟩)] (fun x : Fin N => #[cl x 0]) (KpB Bv n₀) (fun ys => ys = List.finRange N) (fun pre => pre <+: List.finRange N) N w := fun l J Jx W hW hJ hJx hY h0 => by
  have hc0' := (hW.cell (p := ⟨Bv, 0, none⟩) hBv).trans hc0
  have HR := Lib.hid (hrow.below (hW.mono hn₀))
  have HZ := Lib.hid hW.size
  clear hrow hc0
  refine callsIn_of_wp Try.func90 rfl trivial ?_ rfl
  simp only [Try.ntmps90, List.size_toArray, List.length_cons, List.length_nil, Nat.reduceAdd, Nat.reduceSub, Array.replicate_succ, Array.replicate_zero, List.push_toArray, List.append_toArray, List.nil_append, List.cons_append]
  gi_wp2
  gi_loopw [7] (fun i wr => ∃ k : Nat, k ≤ N ∧ i = .int .i64 k ∧ J ((List.finRange N).take k) wr ∧ KpB Bv n₀ W wr ∧ W.heap.size ≤ wr.heap.size) (fun i _ => N - (intOf i).toNat)
  case atStart => exact ⟨0, Nat.zero_le _, rfl, h0, KpB.refl _ _ _, Nat.le_refl _⟩
  case round =>
    obtain ⟨k, hk, rfl, hJs, hkp, hsz⟩ := hrel
    by_cases hlt : k < N
    · obtain ⟨b, off, rfl, hbn, c0⟩ := (HR.out.below hkp.1).at1 hlt
      obtain ⟨ss, e0⟩ := hf k hlt
      rw [e0] at c0
      obtain ⟨fn, tmps, assign, body, hy, hR⟩ := hY _ ⟨k, hlt⟩ _ hJs (by simp; omega)
      dsimp only at hy
      rw [e0] at hy
      have HJ := Lib.hid hJ
      have HJX := Lib.hid hJx
      have HKP := Lib.hid hkp
      have HY := Lib.hid hY
      clear e0 hf hJ hkp hY hJx
      gi_wp2
      refine hR.mono ?_
      rintro e W3 (⟨rfl, hJ3, hk3⟩ | ⟨rfl, hJx3⟩)
      · rw [← finTake N k hlt] at hJ3
        have hk4 : KpB Bv n₀ W W3 := HKP.out.t hk3
        have hsz3 : W.heap.size ≤ W3.heap.size := by have := hk3.1.size; omega
        have HK4 := Lib.hid hk4
        clear hk3 hk4
        gi_wp2
        go_roundw
        case rel => exact ⟨k + 1, by omega, by go_num, hJ3, HK4.out, hsz3⟩
        case measure => simp [intOf]; omega
      · rw [← finTake N k hlt] at hJx3
        gi_wp2
        refine bodyPost_ret (results_none rfl _ _ _) rfl ?_
        exact ⟨⟨_, rfl⟩, .inr ⟨_, List.take_prefix _ _, hJx3⟩⟩
    · obtain rfl : k = N := by omega
      rw [List.take_of_length_le (by simp)] at hJs
      gi_wp2
      go_end0
      exact ⟨⟨_, rfl⟩, .inl ⟨_, rfl, hJs⟩⟩

theorem info_str : (Try.prog.info? 9).map (fun i => (i.zero, i.size, i.bytes)) = some (some (.string ⟨#[]⟩), 1, 16) := by kernel_rfl
/-- A row of the call's own lies as it lay, if what has turned is no row. -/
theorem ownsRow_abide {W W' : World} {row : Option Nat} {base e size n : Nat} {v : Value} {xs : List Value} (h : W.ownsRow base e size v n xs) (hg : W.grownBy W' row) (hr : ∀ r, row = some r → ∃ o : Obj, W.heap[r]? = some o ∧ o.isCells = false) : W'.ownsRow base e size v n xs := by
  obtain ⟨h0, h1 | ⟨g, cap, cur, rfl, hb, hh, r⟩⟩ := h
  · exact ⟨h0, .inl h1⟩
  · refine ⟨h0, .inr ⟨g, cap, cur, rfl, hb, (hg.block g (lt_of_block hh) fun e => ?_).trans hh, r⟩⟩
    obtain ⟨o, ho, hc⟩ := hr g e.symm
    rw [hh] at ho; cases ho; cases hc
theorem strs_slice {W : World} {base e size n : Nat} {v : Value} {xs : List Value} (h : W.ownsRow base e size v n xs) : ∃ ao cap, v = .slice ao n cap := by
  obtain ⟨_, ⟨rfl, rfl⟩ | ⟨g, cap, cur, rfl, _⟩⟩ := h
  · exact ⟨_, _, rfl⟩
  · exact ⟨_, _, rfl⟩
theorem keepsFrom_own {B base e size n : Nat} {W W' : World} {v : Value} {xs : List Value} (h : W.ownsRow base e size v n xs) (hg : W.grownBy W' v.ownBlock) : KeepsFrom B W W' := by
  refine ⟨hg.size, fun k o _ hk hc => (hg.block k (Array.getElem?_eq_some_iff.1 hk).1 fun e => ?_).trans hk⟩
  obtain ⟨_, ⟨rfl, _⟩ | ⟨g, cap, cur, rfl, _, hh, _⟩⟩ := h
  · simp [Value.ownBlock] at e
  · simp only [Value.ownBlock, Option.some.injEq] at e
    subst e
    rw [hh] at hk; cases hk; cases hc
/-- What AppendSeq has gathered. -/
def ColAt (w : World) (cl : Nat → Nat → Value) (Bs : Nat) {N : Nat} (pre : List (Fin N)) (W : World) : Prop :=
  ∃ sv, Boxed W Bs 56 sv ∧ W.ownsRow (w.heap.size + 1) 9 1 sv pre.length (pre.map fun x => cl x.1 0) ∧ Below w.heap.size w W ∧ w.heap.size + 1 ≤ W.heap.size
theorem colAt_own (w : World) (cl : Nat → Nat → Value) (B Bs N : Nat) (hB : w.heap.size ≤ B) : OwnFrom B (fun (pre : List (Fin N)) W => ColAt w cl Bs pre W) := by
  intro s W W' row ⟨sv, h1, h2, h3, h4⟩ hg hr
  refine ⟨sv, ?_, ownsRow_abide h2 hg fun r e => (hr r e).2, h3.grown hg h3.size (fun k e => by have := (hr k e).1; omega), Nat.le_trans h4 hg.size⟩
  exact (hg.block Bs (lt_of_block h1) fun e => by
    obtain ⟨_, o, ho, hc⟩ := hr Bs e.symm
    have h1' : W.heap[Bs]? = _ := h1
    rw [h1'] at ho; cases ho; cases hc).trans h1

set_option maxRecDepth 100000 in
set_option maxHeartbeats 2000000 in
theorem appendSeq_any (Bv n₀ N cap : Nat) (ao : Option Addr) (cl : Nat → Nat → Value) (w : World) (hBv : Bv < w.heap.size) (hn₀ : n₀ ≤ w.heap.size)
    (hc0 : w.cell? ⟨Bv, 0, none⟩ = some (.slice ao N cap)) (hrow : RowAt n₀ w 1 (.slice ao N cap) N cl) (hN : N ≤ 1000000) (hf : ∀ i, i < N → ∃ s, cl i 0 = .string s) :
    Calls Try.prog 106 #[.slice none 0 0, .func (.func 90) #[] #[.pointer (some ⟨Bv, 0, none⟩)]] w fun e w' => ∃ v, e = .returned v ∧ w'.ownsRow (w.heap.size + 1) 9 1 v N ((List.finRange N).map fun x => cl x.1 0) ∧ Below w.heap.size w w' := by
  obtain ⟨i0, hi, hz0, hz1, hz2⟩ := info_parts info_str
  have HF := Lib.hid hf
  clear hf
  refine (callsIn_wide (n := 9)).1 ?_
  refine callsIn_of_wp_marks Try.func106 rfl trivial ?_ rfl
  simp only [Try.ntmps106, List.size_toArray, List.length_cons, List.length_nil, Nat.reduceAdd, Nat.reduceSub, Array.replicate_succ, Array.replicate_zero, List.push_toArray, List.append_toArray, List.nil_append, List.cons_append]
  gi_wp2
  have bS := Boxed.new w 56 (.slice none 0 0)
  have hB0 : Below w.heap.size w (w.alloc (.cells #[.slice none 0 0] 56)) := (Below.refl _ w).alloc (Nat.le_refl _) _
  have hsz : (w.alloc (.cells #[.slice none 0 0] 56)).heap.size = w.heap.size + 1 := by simp
  generalize w.alloc (.cells #[.slice none 0 0] 56) = W0 at bS hB0 hsz ⊢
  have q0 := (hB0.cell (p := ⟨Bv, 0, none⟩) hBv).trans hc0
  have hrow0 := hrow.below (hB0.mono hn₀)
  clear hrow hc0
  refine wpIn_rangeFunc_ownH rfl (by decide) (gf := 90) (lb := #[.pointer (some ⟨Bv, 0, none⟩)]) rfl trivial (enters_of Try.func90 (by kernel_rfl) rfl)
    (values_seq 8 (by decide) Bv n₀ N cap ao cl W0 (by omega) (by omega) q0 hrow0 (by omega) (fun i hi => HF.out i hi)) KpB.t (KpB.b (by omega) (by omega)) (Below.refl _ _) (fun _ => rfl)
    (fun pre W => ColAt w cl w.heap.size pre W) (fun _ _ _ => False)
    (colAt_own w cl _ _ N (by omega))
    (fun _ _ _ _ _ hs _ _ => hs)
    ⟨_, bS, World.ownsRow_nil _ _ _ _, hB0, by omega⟩
    (fun x a' W => a' = { tmps := #[.slice none 0 0, .func (.func 90) #[] #[.pointer (some ⟨Bv, 0, none⟩)], .pointer (some ⟨w.heap.size, 0, none⟩), undef, .slice none 0 0, cl x.1 0, .func (.func 90) #[] #[.pointer (some ⟨Bv, 0, none⟩)], cl x.1 0, undef, undef, undef, undef, undef], defers := [] })
    (fun x a' _ X Y row hs hg hr => hs)
    ?assign ?body ?done ?stop
  case assign =>
    rintro lo pre x W K hI hK
    gi_wp2
    exact hK _ _ (keepsFrom_below (Below.refl _ _)) (KpB.refl _ _ _) hI rfl
  case body =>
    rintro lo pre x a' W hlo ⟨r, hr⟩ ⟨sv, bS1, hO1, hB1, hs1⟩ rfl hlt
    obtain ⟨ss, e0⟩ := HF.out x.1 x.2
    rw [e0]
    have cS := bS1.cell
    have fS := bS1.frozen
    obtain ⟨sa, sc, rfl, -⟩ := (show ∃ ao cap, sv = .slice ao pre.length cap ∧ cap ≤ maxLen by
      obtain ⟨_, ⟨rfl, h0⟩ | ⟨g, cap, cur, rfl, _, _, _, hc, _⟩⟩ := hO1
      · exact ⟨_, _, by rw [h0], by decide⟩
      · exact ⟨_, _, rfl, hc⟩)
    have HBS := Lib.hid bS1
    have HO1 := Lib.hid hO1
    have HB1 := Lib.hid hB1
    have HE0 := Lib.hid e0
    clear bS1 hO1 hB1 e0
    have hws : W.heap.size = W.heap.size := rfl
    have hBs : w.heap.size < W.heap.size := by omega
    clear hws
    gi_wp2_with (gi_at_builtin; refine wpListIn_append_own _ rfl _ _ 56 rfl (w.heap.size + 1) 9 i0 (.string ⟨#[]⟩) 1 16 Try.underlying56 hi hz0 hz1 hz2 rfl (by decide) _ _ _ rfl (HO1.out.alloc _) ⟨W.heap.size, 0, none⟩ 1 1 [.string ss] rfl rfl (cell_one_new _ _ _) (by simp [Value.oneCell']) (by unfold maxLen; omega) (by omega) (by simp; omega) ?_; intro v' w3 hown' hg3 hnil3; clear hnil3; obtain ⟨va, vc, rfl⟩ := strs_slice hown'; have hv3 : Boxed w3 w.heap.size 56 (.slice sa pre.length sc) := (hg3.block w.heap.size (by simp; omega) (fun e => by have := ownBlock_lt HO1.out _ e.symm; omega)).trans ((Below.heap_alloc _ _ _ hBs).trans HBS.out); have HV3 := Lib.hid hv3; have c3 := hv3.cell; have f3 := hv3.frozen; have HO3 := Lib.hid hown'; have HG3 := Lib.hid hg3; clear hv3 hown' hg3)
    have hKF : KeepsFrom W0.heap.size W (w3.setCell ⟨w.heap.size, 0, none⟩ (.slice va (pre.length + 1) vc)) := (((KeepsOthers.alloc W _).from _).trans (keepsFrom_own (HO1.out.alloc _) HG3.out)).trans ((KeepsOthers.setCell _ _ _).from _)
    have hb3 : ∀ n₁, n₁ ≤ w.heap.size → Below n₁ W (w3.setCell ⟨w.heap.size, 0, none⟩ (.slice va (pre.length + 1) vc)) := fun n₁ h1 => ((((Below.refl n₁ W).alloc (by omega) _).grown HG3.out (by simp; omega) (fun k hk => by have := ownBlock_lt HO1.out k hk; omega)).setCell (p := ⟨w.heap.size, 0, none⟩) h1 _)
    have hbx : (w3.setCell ⟨w.heap.size, 0, none⟩ (.slice va (pre.length + 1) vc)).heap[Bv]? = W.heap[Bv]? := (hb3 w.heap.size (Nat.le_refl _)).block Bv hBv
    refine ⟨hKF, ⟨hb3 n₀ hn₀, hbx⟩, _, HV3.out.set _, ?_, HB1.out.trans (hb3 _ (Nat.le_refl _)), by have := (hb3 _ (Nat.le_refl _)).size; omega⟩
    have ho4 := ownsRow_set (b := w.heap.size) (i := 0) (u := .slice va (pre.length + 1) vc) HO3.out (by omega)
    simpa [HE0.out] using ho4
  case done =>
    rintro D ys W hD rfl ⟨sv, bS1, hO1, hB1, hs1⟩ hK
    have cS := bS1.cell
    obtain ⟨sa, sc, rfl, -⟩ := (show ∃ ao cap, sv = .slice ao (List.finRange N).length cap ∧ cap ≤ maxLen by
      obtain ⟨_, ⟨rfl, h0⟩ | ⟨g, cap, cur, rfl, _, _, _, hc, _⟩⟩ := hO1
      · exact ⟨_, _, by rw [h0], by decide⟩
      · exact ⟨_, _, rfl, hc⟩)
    rw [List.length_finRange] at hO1 cS
    have HO1 := Lib.hid hO1
    clear hO1
    gi_wp2
    refine ⟨by simp, .inl ⟨_, _, rfl, run_takeDeferred hK, ?_⟩⟩
    refine ⟨_, results_tmp rfl _ _ _, _, rfl, ?_, hB1.trans (belowK_b (w := w) (Nat.le_refl _) W D _ _ (by omega) hK rfl rfl)⟩
    exact ownsRow_abide HO1.out (grownBy_putObj' W D _) (fun r e => by cases e; exact ⟨_, hK, rfl⟩)
  case stop =>
    rintro D c pre W _ _ h _
    exact h.elim
end Go.Proofs.Ythcphfpkinfjoaa

namespace Go.Proofs.Ythcphfpkinfjoaa
open Go.RowKit Go.Shelf Go.Lib Go.Sort

def sortL_ren : Go.Shelf.Ren := ⟨fun | 6 => 89 | 15 => 108 | 14 => 107 | 28 => 129 | 29 => 130 | 20 => 121 | 21 => 122 | 22 => 123 | 23 => 124 | 24 => 125 | 25 => 126 | 26 => 127 | 27 => 128 | 46 => 141 | 47 => 142 | 48 => 143 | 49 => 144 | 50 => 145 | 57 => 150 | n => n, fun | 22 => 56 | 24 => 9 | 25 => 94 | 3 => 3 | 39 => 53 | 0 => 0 | 53 => 153 | 55 => 88 | 4 => 4 | 46 => 147 | 45 => 146 | 50 => 69 | 5 => 5 | 9 => 9 | 66 => 163 | 70 => 167 | 76 => 172 | 77 => 122 | n => n, fun | n => n⟩
theorem sortL : Go.Proofs.SlLaysF.n6 Try.prog sortL_ren := {
  mixed := by kernel_rfl
  f6 := ⟨Try.f89.name, by decide, Try.func89.trans (congrArg some (by kernel_rfl))⟩
  f14 := ⟨Try.f107.name, by decide, Try.func107.trans (congrArg some (by kernel_rfl))⟩
  f15 := Try.func108.trans (congrArg some (by kernel_rfl))
  f20 := ⟨Try.f121.name, by decide, Try.func121.trans (congrArg some (by kernel_rfl))⟩
  f21 := ⟨Try.f122.name, by decide, Try.func122.trans (congrArg some (by kernel_rfl))⟩
  f22 := ⟨Try.f123.name, by decide, Try.func123.trans (congrArg some (by kernel_rfl))⟩
  f23 := ⟨Try.f124.name, by decide, Try.func124.trans (congrArg some (by kernel_rfl))⟩
  f24 := ⟨Try.f125.name, by decide, Try.func125.trans (congrArg some (by kernel_rfl))⟩
  f25 := ⟨Try.f126.name, by decide, Try.func126.trans (congrArg some (by kernel_rfl))⟩
  f26 := ⟨Try.f127.name, by decide, Try.func127.trans (congrArg some (by kernel_rfl))⟩
  f27 := ⟨Try.f128.name, by decide, Try.func128.trans (congrArg some (by kernel_rfl))⟩
  f28 := Try.func129.trans (congrArg some (by kernel_rfl))
  f29 := Try.func130.trans (congrArg some (by kernel_rfl))
  f46 := ⟨Try.f141.name, by decide, Try.func141.trans (congrArg some (by kernel_rfl))⟩
  f47 := Try.func142.trans (congrArg some (by kernel_rfl))
  f48 := Try.func143.trans (congrArg some (by kernel_rfl))
  f49 := ⟨Try.f144.name, by decide, Try.func144.trans (congrArg some (by kernel_rfl))⟩
  f50 := ⟨Try.f145.name, by decide, Try.func145.trans (congrArg some (by kernel_rfl))⟩
  f57 := ⟨Try.f150.name, by decide, Try.func150.trans (congrArg some (by kernel_rfl))⟩
  t0 := Try.underlying0
  a0 := Try.isAgg0
  z0 := Try.sizeOf0
  v0 := Try.zeroValue0
  t3 := Try.underlying3
  a3 := Try.isAgg3
  z3 := Try.sizeOf3
  v3 := Try.zeroValue3
  t4 := Try.underlying4
  a4 := Try.isAgg4
  z4 := Try.sizeOf4
  v4 := Try.zeroValue4
  t5 := Try.underlying5
  a5 := Try.isAgg5
  z5 := Try.sizeOf5
  v5 := Try.zeroValue5
  t9 := Try.underlying9
  a9 := Try.isAgg9
  z9 := Try.sizeOf9
  v9 := Try.zeroValue9
  t22 := Try.underlying56
  a22 := Try.isAgg56
  z22 := Try.sizeOf56
  v22 := Try.zeroValue56
  a24 := Try.isAgg9
  z24 := Try.sizeOf9
  t25 := Try.underlying94
  a25 := Try.isAgg94
  z25 := Try.sizeOf94
  v25 := Try.zeroValue94
  t39 := Try.underlying53
  a39 := Try.isAgg53
  z39 := Try.sizeOf53
  v39 := Try.zeroValue53
  t45 := Try.underlying146
  a45 := Try.isAgg146
  z45 := Try.sizeOf146
  v45 := Try.zeroValue146
  t46 := Try.underlying147
  a46 := Try.isAgg147
  z46 := Try.sizeOf147
  v46 := Try.zeroValue147
  t50 := Try.underlying69
  a50 := Try.isAgg69
  z50 := Try.sizeOf69
  v50 := Try.zeroValue69
  t53 := Try.underlying153
  a53 := Try.isAgg153
  z53 := Try.sizeOf153
  v53 := Try.zeroValue153
  t55 := Try.underlying88
  a55 := Try.isAgg88
  z55 := Try.sizeOf88
  v55 := Try.zeroValue88
  t66 := Try.underlying163
  a66 := Try.isAgg163
  z66 := Try.sizeOf163
  v66 := Try.zeroValue163
  t70 := Try.underlying167
  a70 := Try.isAgg167
  z70 := Try.sizeOf167
  v70 := Try.zeroValue167
  t76 := Try.underlying172
  a76 := Try.isAgg172
  z76 := Try.sizeOf172
  v76 := Try.zeroValue172
  t77 := Try.underlying122
  a77 := Try.isAgg122
  z77 := Try.sizeOf122
  v77 := Try.zeroValue122 }

theorem lt_cmpS (x y : ByteArray) : ltOf cmpS x y = ltS x y := by
  unfold ltOf cmpS
  cases h1 : ltS x y <;> cases h2 : ltS y x <;> simp
theorem swo_cmpS : SWO (ltOf cmpS) where
  irrefl x := by rw [lt_cmpS, ltS_irrefl]
  trans x y z h1 h2 := by rw [lt_cmpS] at *; exact ltS_trans h1 h2
  ntrans x y z h1 h2 := by
    rw [lt_cmpS] at *
    cases h : ltS x z with
    | false => rfl
    | true =>
      cases h3 : ltS y x with
      | true => rw [ltS_trans h3 h] at h2; cases h2
      | false => rw [← ltS_tri x y h1 h3, h] at h2; cases h2
instance : Inhabited ByteArray := ⟨⟨#[]⟩⟩
/-- Strings in a row, as they stand. -/
def StrsOwn (W : World) (g : Nat) (ks : List ByteArray) : Prop := ∀ i (h : i < ks.length), W.cell? ⟨g, i, none⟩ = some (.string ks[i]) ∧ W.frozen? ⟨g, i, none⟩ = false
theorem holds_strs {W : World} {g : Nat} {ks : List ByteArray} (h : StrsOwn W g ks) : Holds Value.string W g 0 ks.toArray := by
  intro j hj
  have hj' : j < ks.length := by simpa using hj
  have e : ks.toArray[j]! = ks[j] := by rw [getElem!_pos _ j hj]; simp
  rw [e, Nat.zero_add]
  exact h j hj'
theorem strs_holds {W : World} {g : Nat} {d : Array ByteArray} (h : Holds Value.string W g 0 d) : StrsOwn W g d.toList := by
  intro i hi
  have hi' : i < d.size := by simpa using hi
  have := h i hi'
  rw [getElem!_pos _ i hi', Nat.zero_add] at this
  simpa using this
theorem sortStrs (ks : List ByteArray) (g cap : Nat) (w : World) (h : StrsOwn w g ks) (hg : g < w.heap.size) (hn : ks.length ≤ 1000000) :
    Calls Try.prog 89 #[.slice (some ⟨g, 0, none⟩) ks.length cap, .func (.func 62) #[] #[]] w fun e w' =>
      e = .returned (.tuple #[]) ∧ ∃ ks' : List ByteArray, ks'.Perm ks ∧ (∀ i j (hij : i < j) (hj : j < ks'.length), ltS ks'[j] ks'[i] = false) ∧ StrsOwn w' g ks' ∧ But g w w' := by
  have hH := holds_strs h
  have hC : CmpReads Try.prog 62 #[] Value.string cmpS g 0 ks.toArray.size w := fun m os dk _ x y => (compare_any x y _).mono fun _ _ ⟨he, hw⟩ => ⟨he, 0, by rw [hw]; rfl⟩
  have hS := Any.slices_SortFunc (P := Try.prog) (ρ := sortL_ren) sortL Value.string (fun _ => rfl) cmpS swo_cmpS 62 #[] g 0 cap ks.toArray w (enters_of Try.func62 (by kernel_rfl) rfl) hC.lays hH hg (by simp; omega)
  rw [show ks.toArray.size = ks.length by simp] at hS
  refine Calls.mono hS ?_
  rintro e w' ⟨he, d', n, os, hp, hs, rfl⟩
  have hsz : d'.size = ks.length := by have := hp.1; simpa using this
  have hH' : Holds Value.string (sortWorld Value.string w g 0 n d' os) g 0 d' := SW.holds ⟨n, os, rfl⟩ hg hH (by simpa using hsz)
  refine ⟨he, d'.toList, ?_, fun i j hij hj => ?_, strs_holds hH', ?_⟩
  · have h2 := hp.2.2
    rw [Array.extract_eq_self_of_le (by omega), Array.extract_eq_self_of_le (by simp)] at h2
    simpa using h2
  · have hj' : j < d'.size := by simpa using hj
    have h3 := hs i j (Nat.zero_le _) hij (by omega)
    rw [lt_cmpS, getElem!_pos _ i (by omega), getElem!_pos _ j hj'] at h3
    simpa using h3
  · refine ⟨rfl, rfl, rfl, ?_, fun k hk hkg => ?_⟩
    · show w.heap.size ≤ ((w.heap.modify g _) ++ os).size
      rw [Array.size_append, Array.size_modify]; omega
    · show ((w.heap.modify g _) ++ os)[k]? = _
      rw [Array.getElem?_append_left (by rw [Array.size_modify]; exact hk), Array.getElem?_modify]
      rw [if_neg (fun e => hkg e.symm)]
theorem sortStrs_none (p : Option Addr) (cap : Nat) (fv : Value) (w : World) : Calls Try.prog 89 #[.slice p 0 cap, fv] w fun e w' => e = .returned (.tuple #[]) ∧ w' = w :=
  AnyF.slices_SortFunc_none (P := Try.prog) (ρ := sortL_ren) { sortL with } p cap fv w
end Go.Proofs.Ythcphfpkinfjoaa

namespace Go.Proofs.Ythcphfpkinfjoaa
open Go.RowKit

set_option maxHeartbeats 1000000 in
theorem collect_any (Bv n₀ N cap : Nat) (ao : Option Addr) (cl : Nat → Nat → Value) (w : World) (hBv : Bv < w.heap.size) (hn₀ : n₀ ≤ w.heap.size)
    (hc0 : w.cell? ⟨Bv, 0, none⟩ = some (.slice ao N cap)) (hrow : RowAt n₀ w 1 (.slice ao N cap) N cl) (hN : N ≤ 1000000) (hf : ∀ i, i < N → ∃ s, cl i 0 = .string s) :
    Calls Try.prog 88 #[.func (.func 90) #[] #[.pointer (some ⟨Bv, 0, none⟩)]] w fun e w' => ∃ v, e = .returned v ∧ w'.ownsRow (w.heap.size + 1) 9 1 v N ((List.finRange N).map fun x => cl x.1 0) ∧ Below w.heap.size w w' := by
  have HA := Lib.hid (appendSeq_any Bv n₀ N cap ao cl w hBv hn₀ hc0 hrow hN hf)
  clear hc0 hrow hf
  go_enter Try.func88, Try.ntmps88
  go_wp2_with fail
  refine HA.out.mono ?_
  rintro e w1 ⟨v, rfl, ho, hb⟩
  obtain ⟨va, vc, rfl⟩ := strs_slice ho
  have HO := Lib.hid ho
  clear ho
  go_wp2
  go_ret
  exact ⟨_, rfl, HO.out, hb⟩

/-- A row of strings that a call owns. -/
theorem strs_own {W : World} {base N : Nat} {v : Value} {ks : List ByteArray} (h : W.ownsRow base 9 1 v N (ks.map Value.string)) (hN : N = ks.length) (h0 : 0 < N) :
    ∃ g cap, v = .slice (some ⟨g, 0, none⟩) N cap ∧ base ≤ g ∧ N ≤ cap ∧ cap ≤ maxLen ∧ g < W.heap.size ∧ StrsOwn W g ks := by
  obtain ⟨h1, ⟨_, h2⟩ | ⟨g, cap, cur, rfl, hg, hh, hc, hm, hs, ht⟩⟩ := h
  · omega
  · refine ⟨g, cap, rfl, hg, hc, hm, lt_of_block hh, fun i hi => ⟨?_, by simp [World.frozen?, hh]⟩⟩
    rw [cell_of_row W g i cur _ (0, 0) hh]
    have e : (ks.map Value.string)[i]? = some (.string ks[i]) := by simp [hi]
    rw [← ht, List.getElem?_take_of_lt (by omega)] at e
    simpa using e
theorem strs_at {W : World} {g cap : Nat} {ks : List ByteArray} (h : StrsOwn W g ks) (hg : g < W.heap.size) (h0 : 0 < ks.length) (hc : ks.length ≤ cap) (hm : cap ≤ maxLen) (hl : ks.length ≤ 1000000) : StrAt W.heap.size W ks (.slice (some ⟨g, 0, none⟩) ks.length cap) := by
  refine .inr ⟨g, 0, cap, h0, hc, ⟨by have : sMax = 140737488355328 := rfl; omega, hm⟩, rfl, hg, fun i j hi hj => ?_⟩
  obtain rfl : j = 0 := by omega
  have := (h i hi).1
  simp only [Nat.zero_add, Nat.mul_one, Nat.add_zero]
  rw [this]; simp [hi]

set_option maxHeartbeats 1000000 in
/-- SortedFunc: the same strings, by their bytes, in a row of the call's own. -/
theorem sorted_any (Bv n₀ cap : Nat) (ks : List ByteArray) (ao : Option Addr) (w : World) (hBv : Bv < w.heap.size) (hn₀ : n₀ ≤ w.heap.size)
    (hc0 : w.cell? ⟨Bv, 0, none⟩ = some (.slice ao ks.length cap)) (hrow : StrAt n₀ w ks (.slice ao ks.length cap)) (hN : ks.length ≤ 1000000) :
    Calls Try.prog 67 #[.func (.func 90) #[] #[.pointer (some ⟨Bv, 0, none⟩)], .func (.func 62) #[] #[]] w fun e w' =>
      ∃ v ks', e = .returned v ∧ ks'.Perm ks ∧ (∀ i j (hij : i < j) (hj : j < ks'.length), ltS ks'[j] ks'[i] = false) ∧ StrAt w'.heap.size w' ks' v ∧ Below w.heap.size w w' := by
  have HA := Lib.hid (collect_any Bv n₀ ks.length cap ao _ w hBv hn₀ hc0 hrow hN (fun i _ => ⟨_, rfl⟩))
  have HE := Lib.hid (show (List.finRange ks.length).map (fun x => Value.string (ks.getD x.1 ⟨#[]⟩)) = ks.map Value.string by
    apply List.ext_getElem <;> simp)
  clear hc0 hrow
  go_enter Try.func67, Try.ntmps67
  go_wp2_with fail
  refine HA.out.mono ?_
  rintro e w1 ⟨v, rfl, ho0, hb1⟩
  have ho : w1.ownsRow (w.heap.size + 1) 9 1 v ks.length (ks.map Value.string) := by rw [← HE.out]; exact ho0
  clear ho0
  have HB1 := Lib.hid hb1
  clear hb1
  rcases Nat.eq_zero_or_pos ks.length with h0 | h0
  · obtain rfl : ks = [] := List.eq_nil_of_length_eq_zero h0
    obtain ⟨va, vc, hva, hvc⟩ : ∃ va vc, v = .slice va 0 vc ∧ vc ≤ maxLen ∧ (va = none → vc = 0) := by
      obtain ⟨_, ⟨rfl, _⟩ | ⟨g, cap, cur, rfl, _, _, _, hm, _⟩⟩ := ho
      · exact ⟨_, _, rfl, by decide, fun _ => rfl⟩
      · exact ⟨_, _, rfl, hm, fun h => by cases h⟩
    subst hva
    have HVC := Lib.hid hvc
    clear ho hvc
    go_wp2_with fail
    refine (sortStrs_none va vc _ w1).mono ?_
    rintro e w2 ⟨rfl, rfl⟩
    go_wp2
    go_ret
    exact ⟨_, [], rfl, List.Perm.nil, fun i j _ hj => absurd hj (Nat.not_lt_zero _), .inl ⟨rfl, _, _, rfl, HVC.out⟩, HB1.out⟩
  · obtain ⟨g, vc, rfl, hg, hc, hm, hgl, hs⟩ := strs_own ho rfl h0
    have HS := Lib.hid hs
    have HC := Lib.hid (And.intro hc hm)
    clear ho hs hc hm
    go_wp2_with fail
    refine (sortStrs ks g vc w1 HS.out hgl hN).mono ?_
    rintro e w2 ⟨rfl, ks', hp, hso, hs2, hbt⟩
    have HP := Lib.hid hp
    have HSO := Lib.hid hso
    have HS2 := Lib.hid hs2
    have HBT := Lib.hid hbt
    clear hp hso hs2 hbt
    go_wp2
    go_ret
    have hl := HP.out.length_eq
    refine ⟨_, ks', rfl, HP.out, HSO.out, ?_, HB1.out.trans (HBT.out.below (by omega) HB1.out.size)⟩
    rw [← hl]
    exact strs_at HS2.out (Nat.lt_of_lt_of_le hgl HBT.out.size) (by omega) (by have := HC.out.1; omega) HC.out.2 (by omega)

set_option maxRecDepth 100000 in
set_option maxHeartbeats 1000000 in
theorem searchS_any {n₀ : Nat} {w0 : World} (ks : List ByteArray) (ao : Option Addr) (cap : Nat) (hr1 : StrAt n₀ w0 ks (.slice ao ks.length cap))
    (key : ByteArray) (w : World) (hw : Below n₀ w0 w) (hz : n₀ ≤ w.heap.size) (i : Nat) (f : Bool) (hi : i ≤ ks.length) (h1 : ∀ j (h : j < ks.length), j < i → ltS ks[j] key = true) (h2 : ∀ j (h : j < ks.length), i ≤ j → ltS ks[j] key = false) (hf : f = true ↔ ∃ h : i < ks.length, ks[i] = key) :
    Calls Try.prog 69 #[.slice ao ks.length cap, .string key, .func (.func 62) #[] #[]] w fun e w' => e = .returned (.tuple #[.int .i64 (i : Int), .bool f]) ∧ Below w.heap.size w w' := by
  have hll : ks.length ≤ 1000000000000000 := by have := hr1.len; have := sMax_lt; omega
  have HR1 := Lib.hid hr1
  have HW := Lib.hid hw
  have HZ := Lib.hid hz
  have HI := Lib.hid (And.intro hi (And.intro h1 h2))
  have HF := Lib.hid hf
  clear hr1 hw hz hi h1 h2 hf
  go_enter Try.func69, Try.ntmps69
  go_wp2_with fail
  go_loopw [9, 10] (fun iv jv wr => ∃ a b : Nat, a ≤ i ∧ i ≤ b ∧ b ≤ ks.length ∧ iv = .int .i64 a ∧ jv = .int .i64 b ∧ Below w.heap.size w wr) (fun i j _ => (intOf j).toNat - (intOf i).toNat)
  case atStart => exact ⟨0, ks.length, by omega, HI.out.1, by omega, rfl, rfl, Below.refl _ _⟩
  case round =>
    obtain ⟨a, b, ha, hb, hbm, rfl, rfl, hbr⟩ := hrel
    have HBR := Lib.hid hbr
    clear hbr
    by_cases hab : a < b
    · obtain ⟨h, hh⟩ : ∃ h : Nat, h = (a + b) / 2 := ⟨_, rfl⟩
      have hm : ((a : Int) + b) / 2 = (h : Int) := by omega
      have hah : a ≤ h := by omega
      have hhb : h < b := by omega
      have hhm : h < ks.length := by omega
      have hhm' : (h : Int) < (ks.length : Int) := by omega
      clear hh
      have HB0 := Lib.hid (show Below n₀ w0 wr from HW.out.trans (HBR.out.mono HZ.out))
      obtain ⟨bb, off, rfl, hbn, c0⟩ := RowAt.at1 (HR1.out.below HB0.out) hhm
      rw [show ks.getD h ⟨#[]⟩ = ks[h] by simp [hhm]] at c0
      have HLT := Lib.hid (@cmp_neg ks[h] key)
      generalize hcp : cmpS ks[h] key = cp at HLT
      have HCP := Lib.hid hcp
      clear hcp
      by_cases hlt : cp < 0
      · have HL := Lib.hid (show h < i by
          have h3 := HLT.out.1 hlt
          by_cases hx : h < i
          · exact hx
          · have := HI.out.2.2 h hhm (by omega); rw [h3] at this; cases this)
        go_wp2_with fail
        refine (compare_any _ _ _).mono ?_
        rintro e w' ⟨rfl, rfl⟩
        rw [HCP.out]
        go_wp2
        go_roundw
        case measure => simp [intOf]; omega
        case rel => exact ⟨h + 1, b, HL.out, hb, hbm, by go_num, rfl, HBR.out⟩
      · have HL := Lib.hid (show i ≤ h by
          by_cases hx : h < i
          · have := HLT.out.2 (HI.out.2.1 h hhm hx); omega
          · omega)
        go_wp2_with fail
        refine (compare_any _ _ _).mono ?_
        rintro e w' ⟨rfl, rfl⟩
        rw [HCP.out]
        go_wp2
        go_roundw
        case measure => simp [intOf]; omega
        case rel => exact ⟨a, h, ha, HL.out, by omega, rfl, by go_num, HBR.out⟩
    · obtain rfl : a = i := by omega
      by_cases hlen : a < ks.length
      · have hlen' : (a : Int) < (ks.length : Int) := by omega
        have HB0 := Lib.hid (show Below n₀ w0 wr from HW.out.trans (HBR.out.mono HZ.out))
        obtain ⟨bb, off, rfl, hbn, c0⟩ := RowAt.at1 (HR1.out.below HB0.out) hlen
        rw [show ks.getD a ⟨#[]⟩ = ks[a] by simp [hlen]] at c0
        have HFE := Lib.hid (show f = decide (cmpS ks[a] key = 0) by
          rw [Bool.eq_iff_iff, HF.out, decide_eq_true_eq, cmp_zero]; exact ⟨fun h => h.2, fun h => ⟨hlen, h⟩⟩)
        generalize hcp : cmpS ks[a] key = cp at HFE
        have HCP := Lib.hid hcp
        clear hcp
        go_wp2_with fail
        refine (compare_any _ _ _).mono ?_
        rintro e w' ⟨rfl, rfl⟩
        rw [HCP.out]
        go_wp2
        go_ret2
        exact ⟨by rw [HFE.out]; rfl, HBR.out⟩
      · have hrf : f = false := by
          rw [← Bool.not_eq_true, HF.out]
          rintro ⟨h, _⟩; omega
        subst hrf
        go_wp2
        go_ret2
        exact ⟨rfl, HBR.out⟩

/-- Is a key among strings that are sorted? -/
theorem foundS_any {n₀ : Nat} {w0 : World} (ks : List ByteArray) (ao : Option Addr) (cap : Nat) (hr1 : StrAt n₀ w0 ks (.slice ao ks.length cap)) (hs : ∀ i j (hij : i < j) (hj : j < ks.length), ltS ks[j] ks[i] = false)
    (key : ByteArray) (w : World) (hw : Below n₀ w0 w) (hz : n₀ ≤ w.heap.size) (f : Bool) (hf : f = true ↔ key ∈ ks) :
    Calls Try.prog 69 #[.slice ao ks.length cap, .string key, .func (.func 62) #[] #[]] w fun e w' => (∃ i : Nat, e = .returned (.tuple #[.int .i64 (i : Int), .bool f])) ∧ Below w.heap.size w w' := by
  have hi : ks.findIdx (fun x => !ltS x key) ≤ ks.length := List.findIdx_le_length
  have h1 : ∀ j (h : j < ks.length), j < ks.findIdx (fun x => !ltS x key) → ltS ks[j] key = true := by
    intro j h hj
    have := List.not_of_lt_findIdx hj
    simpa using this
  have hat : ∀ h : ks.findIdx (fun x => !ltS x key) < ks.length, ltS ks[ks.findIdx (fun x => !ltS x key)] key = false := by
    intro h
    have := List.findIdx_getElem (xs := ks) (p := fun x : ByteArray => !ltS x key) (w := h)
    simp only [Bool.not_eq_true'] at this
    exact this
  have h2 : ∀ j (h : j < ks.length), ks.findIdx (fun x => !ltS x key) ≤ j → ltS ks[j] key = false := by
    intro j h hj
    have h0 := hat (by omega)
    by_cases e : ks.findIdx (fun x => !ltS x key) = j
    · subst e; exact h0
    · have h3 := hs _ j (show ks.findIdx (fun x => !ltS x key) < j by omega) h
      cases h4 : ltS ks[j] key with
      | false => rfl
      | true =>
        exfalso
        cases h5 : ltS ks[ks.findIdx (fun x => !ltS x key)] ks[j] with
        | true => rw [ltS_trans h5 h4] at h0; cases h0
        | false => rw [← ltS_tri _ _ h3 h5, h4] at h0; cases h0
  refine (searchS_any ks ao cap hr1 key w hw hz _ f hi h1 h2 ?_).mono fun e w' ⟨he, hb⟩ => ⟨⟨_, he⟩, hb⟩
  rw [hf]
  constructor
  · intro hk
    obtain ⟨j, hj, rfl⟩ := List.mem_iff_getElem.1 hk
    have hle : ks.findIdx (fun x => !ltS x ks[j]) ≤ j := by
      rcases Nat.lt_or_ge j (ks.findIdx (fun x => !ltS x ks[j])) with h | h
      · have := h1 j hj h; rw [ltS_irrefl] at this; cases this
      · exact h
    refine ⟨by omega, ?_⟩
    by_cases e : ks.findIdx (fun x => !ltS x ks[j]) = j
    · simp only [e]
    · exact ltS_tri _ _ (hat (by omega)) (hs _ j (by omega) hj)
  · rintro ⟨h, e⟩
    rw [← e]; exact List.getElem_mem h
end Go.Proofs.Ythcphfpkinfjoaa

namespace Go.Proofs.Ythcphfpkinfjoaa
open Go.RowKit

/-- Does a member stay? -/
def isIn (ks : List ByteArray) (k : ByteArray) : Bool := ks.any fun y => decide (y = k)
theorem isIn_iff {ks : List ByteArray} {k : ByteArray} : isIn ks k = true ↔ k ∈ ks := by simp [isIn]
def stays (ks : List ByteArray) (b : Bool) (x : ByteArray × VT) : Bool := isIn ks x.1 == b
/-- The numbers of the first so many members that stay. -/
def stayD (m : List (ByteArray × VT)) (ks : List ByteArray) (b : Bool) (j : Nat) : List Nat := (List.range j).filter fun i => stays ks b (memD m i)
theorem stayD_len (m : List (ByteArray × VT)) (ks : List ByteArray) (b : Bool) (j : Nat) : (stayD m ks b j).length ≤ j := by
  have := List.length_filter_le (fun i => stays ks b (memD m i)) (List.range j)
  simpa [stayD] using this
theorem stayD_lt {m : List (ByteArray × VT)} {ks : List ByteArray} {b : Bool} {j : Nat} : ∀ x ∈ stayD m ks b j, x < j := by
  intro x hx
  exact List.mem_range.1 (List.mem_filter.1 hx).1
theorem stayD_yes {m : List (ByteArray × VT)} {ks : List ByteArray} {b : Bool} {j : Nat} (h : stays ks b (memD m j) = true) : stayD m ks b (j + 1) = stayD m ks b j ++ [j] := by
  unfold stayD
  rw [List.range_succ, List.filter_append]
  simp [h]
theorem stayD_no {m : List (ByteArray × VT)} {ks : List ByteArray} {b : Bool} {j : Nat} (h : stays ks b (memD m j) = false) : stayD m ks b (j + 1) = stayD m ks b j := by
  unfold stayD
  rw [List.range_succ, List.filter_append]
  simp [h]
theorem stayD_all (m : List (ByteArray × VT)) (ks : List ByteArray) (b : Bool) : (stayD m ks b m.length).map (memD m) = m.filter (stays ks b) := by
  have e : m = (List.range m.length).map (memD m) := by
    apply List.ext_getElem
    · simp
    · intro i h1 h2; simp [memD, h1]
  conv => rhs; rw [e]
  rw [List.filter_map]
  rfl

set_option maxRecDepth 100000 in
set_option maxHeartbeats 4000000 in
theorem choose_map {n₀ : Nat} {w0 : World} {n : Int} {s : ByteArray} {l : List VT} {m : List (ByteArray × VT)} {v : Value} (h : VAt n₀ w0 (.mk 5 n s l m) v) (hm : m.length ≤ 800000) {ks : List ByteArray} {sv : Value} (hk : StrAt n₀ w0 ks sv) (hkl : ks.length ≤ 1000000) (b : Bool) (w : World) (hw : Below n₀ w0 w) (hz : n₀ ≤ w.heap.size) :
    Calls Try.prog 46 #[v, sv, .bool b] w fun e w' => ∃ y, e = .returned y ∧ MadeV n₀ (w.heap.size + 2) w' (.mk 5 0 ⟨#[]⟩ [] (m.filter (stays ks b))) y ∧ Below w.heap.size w w' := by
  obtain ⟨ao, kc, rfl, -⟩ := RowAt.form hk
  obtain ⟨al, cl, am, cap, cm, rfl, hM⟩ := h.mems
  have HM := Lib.hid hM
  have HK := Lib.hid hk
  have HW := Lib.hid hw
  have HZ := Lib.hid hz
  clear h hM hk hw hz
  go_enter Try.func46, Try.ntmps46
  go_wp2_with fail
  generalize hW2 : (w.alloc _).alloc _ = W2
  have hb2 : Below w.heap.size w W2 := by subst hW2; exact ((Below.refl _ w).alloc (Nat.le_refl _) _).alloc (by simp) _
  have hv1 : W2.heap[w.heap.size]? = some (.cells #[.int .i64 5, .int .i64 n, .string s, .slice al l.length cl, .slice am m.length cap] 26 (0, 0)) := by
    subst hW2; rw [Below.heap_alloc _ _ _ (by simp)]; exact World.alloc_heap_new w _
  have hv2 : W2.heap[w.heap.size + 1]? = some (.cells #[.int .i64 0, .int .i64 0, .string ⟨#[]⟩, .slice none 0 0, .slice none 0 0] 26 (0, 0)) := by
    subst hW2
    have := World.alloc_heap_new (w.alloc (.cells #[.int .i64 5, .int .i64 n, .string s, .slice al l.length cl, .slice am m.length cap] 26)) (.cells #[.int .i64 0, .int .i64 0, .string ⟨#[]⟩, .slice none 0 0, .slice none 0 0] 26)
    rwa [World.size_alloc] at this
  have hz2 : W2.heap.size = w.heap.size + 2 := by subst hW2; simp
  clear hW2
  have HZ2 := Lib.hid hz2
  have l1 : w.heap.size + 1 < W2.heap.size := by omega
  clear hz2
  refine (values_any _ ao ks.length kc rfl W2).mono ?_
  rintro e w' ⟨rfl, rfl⟩
  generalize hW3 : W2.alloc _ = W3
  have hb3 : Below W2.heap.size W2 W3 := by subst hW3; exact (Below.refl _ W2).alloc (Nat.le_refl _) _
  have hz3 : W2.heap.size < W3.heap.size := by subst hW3; simp
  have hc3 : W3.cell? ⟨W2.heap.size, 0, none⟩ = some (.slice ao ks.length kc) := by subst hW3; simp
  clear hW3
  have HB3 := Lib.hid (show Below w.heap.size w W3 from hb2.trans (hb3.mono hb2.size))
  have HV1 := Lib.hid (box_keep hv1 hb3 (by omega))
  have HV2 := Lib.hid (box_keep hv2 hb3 (by omega))
  have HN3 := Lib.hid (show Below n₀ w0 W3 from HW.out.trans (HB3.out.mono HZ.out))
  have HSO := Lib.hid (sorted_any W2.heap.size n₀ kc ks ao W3 hz3 (by have := HZ.out; omega) hc3 (RowAt.below HK.out HN3.out) hkl)
  clear hb2 hb3 hv1 hv2 hc3
  go_wp2_with fail
  refine HSO.out.mono ?_
  rintro e w4 ⟨v4, ks', rfl, hp, hso, hst, hb4⟩
  obtain ⟨sa, sc, rfl, -⟩ := RowAt.form hst
  have HP := Lib.hid hp
  have HSR := Lib.hid hso
  have HST := Lib.hid hst
  have HV1' := Lib.hid (box_keep HV1.out hb4 (by omega))
  have HV2' := Lib.hid (box_keep HV2.out hb4 (by omega))
  have HB4 := Lib.hid (HB3.out.trans (hb4.mono HB3.out.size))
  have hz4 : w.heap.size + 2 < w4.heap.size := by have := hb4.size; have := HZ2.out; omega
  clear hp hso hst hb4
  obtain ⟨y0, y1, y2, y3, y4⟩ := c5of HV1'.out
  have HKI := Lib.hid (fun x : ByteArray => (HP.out.mem_iff (a := x)))
  go_wp2_with fail
  go_loopw [8, 23] (fun ov iv wr => ∃ j : Nat, j ≤ m.length ∧ iv = .int .i64 j ∧ wr.ownsRow w4.heap.size 28 6 ov (stayD m ks b j).length (flat6 cm (stayD m ks b j)) ∧ Below w4.heap.size w4 wr) (fun _ i _ => m.length - (intOf i).toNat)
  case atStart => exact ⟨0, Nat.zero_le _, rfl, World.ownsRow_nil _ _ _ _, Below.refl _ _⟩
  case round =>
    obtain ⟨j, hj, rfl, hown, hbr⟩ := hrel
    rename World => Wr
    obtain ⟨oa, oc, rfl, -⟩ := ownsRow_slice hown
    have HOWN := Lib.hid hown
    have HBR := Lib.hid hbr
    have hsl := stayD_len m ks b j
    have hrz : w4.heap.size ≤ Wr.heap.size := hbr.size
    clear hown hbr
    have HNR := Lib.hid (show Below n₀ w0 Wr from HW.out.trans ((HB4.out.trans (HBR.out.mono HB4.out.size)).mono HZ.out))
    by_cases hjm : j < m.length
    · obtain ⟨bb, off, hao, hbn, c0, c1, c2, c3, c4, c5⟩ := (HM.out.keep HNR.out).1.at6 hjm
      obtain ⟨ek, en, es, ea, el, ep, eb, em, eq, e1, e2, e3, e4, e5⟩ := (HM.out.2.2 j hjm).form6
      simp only [Nat.reduceAdd] at e1 e2 e3 e4 e5
      have e0 := (HM.out.2.1 j hjm).1
      obtain ⟨ky, hky⟩ : ∃ ky, ky = m[j].1 := ⟨_, rfl⟩
      rw [← hky] at e0
      rw [e0] at c0; rw [e1] at c1; rw [e2] at c2; rw [e3] at c3; rw [e4] at c4; rw [e5] at c5
      have HFL := Lib.hid (show ∀ D, flat6 cm (D ++ [j]) = flat6 cm D ++ [.string ky, .int .i64 ek, .int .i64 en, .string es, .slice ea el ep, .slice eb em eq] by
        intro D; rw [flat6_append]; simp [flat6, e0, e1, e2, e3, e4, e5])
      subst hao
      obtain ⟨f, hf⟩ : ∃ f : Bool, f = isIn ks ky := ⟨_, rfl⟩
      have HFK := Lib.hid (show f = true ↔ ky ∈ ks' by rw [hf, isIn_iff, HKI.out])
      have HST2 := Lib.hid (show stays ks b (memD m j) = (f == b) by unfold stays; rw [memD_at m j hjm, ← hky, hf])
      clear e0 e1 e2 e3 e4 e5 hky hf
      have j5 : (j : Int) < (m.length : Int) := by omega
      go_wp2_with fail
      generalize hWa : Wr.alloc _ = Wa
      have hvA : Wa.heap[Wr.heap.size]? = some (.cells #[.string ky, .int .i64 ek, .int .i64 en, .string es, .slice ea el ep, .slice eb em eq] 28 (0, 0)) := by subst hWa; exact World.alloc_heap_new Wr _
      have hbA : Below Wr.heap.size Wr Wa := by subst hWa; exact (Below.refl _ Wr).alloc (Nat.le_refl _) _
      have hzA : Wr.heap.size < Wa.heap.size := by subst hWa; simp
      clear hWa c0 c1 c2 c3 c4 c5
      refine (foundS_any ks' sa sc HST.out HSR.out ky Wa (HBR.out.trans (hbA.mono HBR.out.size)) (by omega) f HFK.out).mono ?_
      rintro e w5 ⟨⟨ix, rfl⟩, hb5⟩
      obtain ⟨z0, z1, z2, z3, z4, z5⟩ := c6of (box_keep hvA hb5 hzA)
      have HB5 := Lib.hid (show Below w4.heap.size w4 w5 from (HBR.out.trans (hbA.mono HBR.out.size)).trans (hb5.mono (by omega)))
      have HO5 := Lib.hid (ownsRow_keep (ownsRow_keep HOWN.out hbA) hb5)
      have hz5 : w4.heap.size ≤ w5.heap.size := by have := hb5.size; omega
      clear hvA hbA hb5
      cases hfb : (f == b) with
      | false =>
        have HD := Lib.hid (stayD_no (m := m) (ks := ks) (b := b) (j := j) (HST2.out.trans hfb))
        go_wp2
        go_roundw
        case rel => exact ⟨j + 1, by omega, by go_num, by rw [HD.out]; exact HO5.out, HB5.out⟩
        case measure => simp [intOf]; omega
      | true =>
        have HD := Lib.hid (stayD_yes (m := m) (ks := ks) (b := b) (j := j) (HST2.out.trans hfb))
        go_wp2_with (at_builtin; refine wpList_append_src rfl _ _ rfl w4.heap.size _ _ _ rfl (HO5.out.alloc _) 1 (.slice (some ⟨w5.heap.size, 0, none⟩) 1 1) [.string ky, .int .i64 ek, .int .i64 en, .string es, .slice ea el ep, .slice eb em eq] rfl (src_one (World.alloc_heap_new w5 _) (by simp [Value.oneCell'])) (by omega) (by simp; omega) ?_)
        intro v6 w6 hown6 hgr6
        have HO6 := Lib.hid hown6
        have HB6 := Lib.hid (show Below w4.heap.size w4 w6 from (HB5.out.alloc hz5 _).grown hgr6 (by simp; omega) (fun k hk => ownBlock_lt HO5.out k hk))
        clear hown6 hgr6
        go_wp2
        go_roundw
        case rel => exact ⟨j + 1, by omega, by go_num, by rw [HD.out, HFL.out]; simpa using HO6.out, HB6.out⟩
        case measure => simp [intOf]; omega
    · obtain rfl : j = m.length := by omega
      go_wp2_with fail
      refine (mapOf_any _ _ _ _).mono ?_
      rintro e w5 ⟨rfl, hb5⟩
      have HB5 := Lib.hid (show Below w4.heap.size w4 w5 from HBR.out.trans (hb5.mono hrz))
      have HBW := Lib.hid (HB4.out.trans (HB5.out.mono HB4.out.size))
      have HO5 := Lib.hid (ownsRow_keep HOWN.out hb5)
      have hv5 := box_keep HV2'.out HB5.out (by omega)
      have HV5 := Lib.hid hv5
      obtain ⟨r0, r1, r2, r3, r4⟩ := c5of hv5
      have f0 : w5.frozen? ⟨w.heap.size + 1, 0, none⟩ = false := by simp [World.frozen?, hv5]
      have f1 : w5.frozen? ⟨w.heap.size + 1, 1, none⟩ = false := by simp [World.frozen?, hv5]
      have f2 : w5.frozen? ⟨w.heap.size + 1, 2, none⟩ = false := by simp [World.frozen?, hv5]
      have f3 : w5.frozen? ⟨w.heap.size + 1, 3, none⟩ = false := by simp [World.frozen?, hv5]
      have f4 : w5.frozen? ⟨w.heap.size + 1, 4, none⟩ = false := by simp [World.frozen?, hv5]
      have HPK := Lib.hid ((HM.out.keep (HW.out.trans (HBW.out.mono HZ.out))).pick (stayD m ks b m.length) stayD_lt)
      generalize hN : (stayD m ks b m.length).length = N at *
      have HN := Lib.hid hN
      clear hv5 hb5 hN
      go_wp2
      have hp5 := put5 (.int .i64 5) (.int .i64 0) (.string ⟨#[]⟩) (.slice none 0 0) (.slice oa N oc) HV5.out
      have hpb := put5_below (.int .i64 5) (.int .i64 0) (.string ⟨#[]⟩) (.slice none 0 0) (.slice oa N oc) HBW.out (b := w.heap.size + 1) (by omega)
      have HC9 := Lib.hid (HPK.out.keep (put5_below (.int .i64 5) (.int .i64 0) (.string ⟨#[]⟩) (.slice none 0 0) (.slice oa N oc) (Below.refl n₀ w5) (b := w.heap.size + 1) (by have := HZ.out; omega)))
      have HO9 := Lib.hid (ownsRow_set (b := w.heap.size + 1) (i := 4) (u := .slice oa N oc) (ownsRow_set (b := w.heap.size + 1) (i := 3) (u := .slice none 0 0) (ownsRow_set (b := w.heap.size + 1) (i := 2) (u := .string ⟨#[]⟩) (ownsRow_set (b := w.heap.size + 1) (i := 1) (u := .int .i64 0) (ownsRow_set (b := w.heap.size + 1) (i := 0) (u := .int .i64 5) HO5.out (by omega)) (by omega)) (by omega)) (by omega)) (by omega))
      generalize ((((w5.setCell _ _).setCell _ _).setCell _ _).setCell _ _).setCell _ _ = W9 at hp5 hpb HC9 HO9 ⊢
      obtain ⟨q0, q1, q2, q3, q4⟩ := c5of hp5
      refine bodyPost_ret (v := .agg #[.int .i64 5, .int .i64 0, .string ⟨#[]⟩, .slice none 0 0, .slice oa N oc]) (by simp [results, Try.results46, go_sem, q0, q1, q2, q3, q4]) rfl ?_
      refine ⟨_, rfl, ?_, hpb⟩
      rw [← stayD_all]
      refine .inr ⟨_, _, _, rfl, rfl, ownsRow_base (base := w4.heap.size) ?_ (by omega), HC9.out, by simp; have := HN.out; omega⟩
      rw [List.length_map, HN.out]
      exact HO9.out

set_option maxRecDepth 100000 in
set_option maxHeartbeats 1000000 in
theorem choose_other {n₀ : Nat} {w0 : World} {t : VT} {v : Value} (h : VAt n₀ w0 t v) (h5 : t.k ≠ 5) (ao : Option Addr) (kn kc : Nat) (b : Bool) (w : World) :
    Calls Try.prog 46 #[v, .slice ao kn kc, .bool b] w fun e w' => e = .returned v ∧ Below w.heap.size w w' := by
  cases h with
  | @mk k n s l m sl sm cl cm hk hn hs hl hm hL hK hM =>
    obtain ⟨al, pl, rfl, -⟩ := hl.form
    obtain ⟨am, pm, rfl, -⟩ := hm.form
    have hkb : (k != 5) = true := by simpa [VT.k] using h5
    clear hk hn hs hl hm hL hK hM h5
    go_enter Try.func46, Try.ntmps46
    go_wp2
    refine bodyPost_ret (v := .agg #[.int .i64 k, .int .i64 n, .string s, .slice al l.length pl, .slice am m.length pm]) (by simp [results, Try.results46, go_sem]) rfl ?_
    exact ⟨rfl, ((Below.refl _ w).alloc (Nat.le_refl _) _).alloc (by simp) _⟩

/-- What Keep and Drop make of a value. -/
def keepV (t : VT) (ks : List ByteArray) (b : Bool) : VT := if t.k = 5 then .mk 5 0 ⟨#[]⟩ [] (t.m.filter (stays ks b)) else t
theorem choose_any {n₀ : Nat} {w0 : World} {t : VT} {v : Value} (h : VAt n₀ w0 t v) (hm : t.m.length ≤ 800000) {ks : List ByteArray} {sv : Value} (hk : StrAt n₀ w0 ks sv) (hkl : ks.length ≤ 1000000) (b : Bool) (w : World) (hw : Below n₀ w0 w) (hz : n₀ ≤ w.heap.size) :
    Calls Try.prog 46 #[v, sv, .bool b] w fun e w' => ∃ y, e = .returned y ∧ MadeV n₀ w.heap.size w' (keepV t ks b) y ∧ Below w.heap.size w w' := by
  by_cases h5 : t.k = 5
  · obtain ⟨k, n, s, l, m⟩ := t
    obtain rfl : k = 5 := h5
    have e : keepV (.mk 5 n s l m) ks b = .mk 5 0 ⟨#[]⟩ [] (m.filter (stays ks b)) := by simp [keepV, VT.k, VT.m]
    rw [e]
    exact (choose_map h hm hk hkl b w hw hz).mono fun e w' ⟨y, he, hy, hb⟩ => ⟨y, he, hy.base (by omega), hb⟩
  · obtain ⟨ao, kc, rfl, -⟩ := RowAt.form hk
    refine (choose_other h h5 ao _ kc b w).mono ?_
    rintro e w' ⟨he, hb⟩
    have e2 : keepV t ks b = t := by unfold keepV; rw [if_neg h5]
    rw [e2]
    exact ⟨v, he, .inl ((h.keep hw).keep (hb.mono hz)), hb⟩

set_option maxRecDepth 100000 in
set_option maxHeartbeats 1000000 in
theorem keep_any {n₀ : Nat} {w0 : World} {t : VT} {v : Value} (h : VAt n₀ w0 t v) (hm : t.m.length ≤ 800000) {ks : List ByteArray} {sv : Value} (hk : StrAt n₀ w0 ks sv) (hkl : ks.length ≤ 1000000) (w : World) (hw : Below n₀ w0 w) (hz : n₀ ≤ w.heap.size) :
    Calls Try.prog 21 #[v, sv] w fun e w' => ∃ y, e = .returned y ∧ MadeV n₀ w.heap.size w' (keepV t ks true) y ∧ Below w.heap.size w w' := by
  have HC := Lib.hid (fun (W : World) hW hZ => choose_any h hm hk hkl true W hW hZ)
  obtain ⟨ao, kc, rfl, -⟩ := RowAt.form hk
  obtain ⟨c0, c1, c2, c3, c4, rfl⟩ := vAt_agg h
  have HW := Lib.hid hw
  have HZ := Lib.hid hz
  clear h hk hw hz
  go_enter Try.func21, Try.ntmps21
  go_wp2_with fail
  generalize hW2 : (w.alloc _).alloc _ = W2
  have hb2 : Below w.heap.size w W2 := by subst hW2; exact ((Below.refl _ w).alloc (Nat.le_refl _) _).alloc (by simp) _
  have hv2 : W2.heap[w.heap.size + 1]? = some (.cells #[.int .i64 0, .int .i64 0, .string ⟨#[]⟩, .slice none 0 0, .slice none 0 0] 26 (0, 0)) := by
    subst hW2
    have := World.alloc_heap_new (w.alloc (.cells #[c0, c1, c2, c3, c4] 26)) (.cells #[.int .i64 0, .int .i64 0, .string ⟨#[]⟩, .slice none 0 0, .slice none 0 0] 26)
    rwa [World.size_alloc] at this
  have l2 : w.heap.size + 1 < W2.heap.size := by subst hW2; simp
  clear hW2
  refine (HC.out W2 (HW.out.trans (hb2.mono HZ.out)) (Nat.le_trans HZ.out hb2.size)).mono ?_
  rintro e w3 ⟨y, rfl, hy, hb3⟩
  obtain ⟨yk, yn, ys, ya, yl, yp, yb, ym, yq, rfl⟩ := hy.form
  have hv3 := box_keep hv2 hb3 l2
  have HY := Lib.hid hy
  have HV3 := Lib.hid hv3
  have HB3 := Lib.hid (hb2.trans (hb3.mono hb2.size))
  obtain ⟨r0, r1, r2, r3, r4⟩ := c5of hv3
  have f0 : w3.frozen? ⟨w.heap.size + 1, 0, none⟩ = false := by simp [World.frozen?, hv3]
  have f1 : w3.frozen? ⟨w.heap.size + 1, 1, none⟩ = false := by simp [World.frozen?, hv3]
  have f2 : w3.frozen? ⟨w.heap.size + 1, 2, none⟩ = false := by simp [World.frozen?, hv3]
  have f3 : w3.frozen? ⟨w.heap.size + 1, 3, none⟩ = false := by simp [World.frozen?, hv3]
  have f4 : w3.frozen? ⟨w.heap.size + 1, 4, none⟩ = false := by simp [World.frozen?, hv3]
  clear hy hv2 hv3 hb2 hb3
  go_wp2
  have hp5 := put5 (.int .i64 yk) (.int .i64 yn) (.string ys) (.slice ya yl yp) (.slice yb ym yq) HV3.out
  have hpb := put5_below (.int .i64 yk) (.int .i64 yn) (.string ys) (.slice ya yl yp) (.slice yb ym yq) HB3.out (b := w.heap.size + 1) (by omega)
  have HY9 := Lib.hid (((((HY.out.set (b := w.heap.size + 1) (i := 0) (u := .int .i64 yk) (by have := HZ.out; omega) l2).set (b := w.heap.size + 1) (i := 1) (u := .int .i64 yn) (by have := HZ.out; omega) l2).set (b := w.heap.size + 1) (i := 2) (u := .string ys) (by have := HZ.out; omega) l2).set (b := w.heap.size + 1) (i := 3) (u := .slice ya yl yp) (by have := HZ.out; omega) l2).set (b := w.heap.size + 1) (i := 4) (u := .slice yb ym yq) (by have := HZ.out; omega) l2)
  generalize ((((w3.setCell _ _).setCell _ _).setCell _ _).setCell _ _).setCell _ _ = W9 at hp5 hpb HY9 ⊢
  obtain ⟨q0, q1, q2, q3, q4⟩ := c5of hp5
  refine bodyPost_ret (v := .agg #[.int .i64 yk, .int .i64 yn, .string ys, .slice ya yl yp, .slice yb ym yq]) (by simp [results, Try.results21, go_sem, q0, q1, q2, q3, q4]) rfl ?_
  exact ⟨_, rfl, HY9.out.base (by omega), hpb⟩

set_option maxRecDepth 100000 in
set_option maxHeartbeats 1000000 in
theorem drop_any {n₀ : Nat} {w0 : World} {t : VT} {v : Value} (h : VAt n₀ w0 t v) (hm : t.m.length ≤ 800000) {ks : List ByteArray} {sv : Value} (hk : StrAt n₀ w0 ks sv) (hkl : ks.length ≤ 1000000) (w : World) (hw : Below n₀ w0 w) (hz : n₀ ≤ w.heap.size) :
    Calls Try.prog 20 #[v, sv] w fun e w' => ∃ y, e = .returned y ∧ MadeV n₀ w.heap.size w' (keepV t ks false) y ∧ Below w.heap.size w w' := by
  have HC := Lib.hid (fun (W : World) hW hZ => choose_any h hm hk hkl false W hW hZ)
  obtain ⟨ao, kc, rfl, -⟩ := RowAt.form hk
  obtain ⟨c0, c1, c2, c3, c4, rfl⟩ := vAt_agg h
  have HW := Lib.hid hw
  have HZ := Lib.hid hz
  clear h hk hw hz
  go_enter Try.func20, Try.ntmps20
  go_wp2_with fail
  generalize hW2 : (w.alloc _).alloc _ = W2
  have hb2 : Below w.heap.size w W2 := by subst hW2; exact ((Below.refl _ w).alloc (Nat.le_refl _) _).alloc (by simp) _
  have hv2 : W2.heap[w.heap.size + 1]? = some (.cells #[.int .i64 0, .int .i64 0, .string ⟨#[]⟩, .slice none 0 0, .slice none 0 0] 26 (0, 0)) := by
    subst hW2
    have := World.alloc_heap_new (w.alloc (.cells #[c0, c1, c2, c3, c4] 26)) (.cells #[.int .i64 0, .int .i64 0, .string ⟨#[]⟩, .slice none 0 0, .slice none 0 0] 26)
    rwa [World.size_alloc] at this
  have l2 : w.heap.size + 1 < W2.heap.size := by subst hW2; simp
  clear hW2
  refine (HC.out W2 (HW.out.trans (hb2.mono HZ.out)) (Nat.le_trans HZ.out hb2.size)).mono ?_
  rintro e w3 ⟨y, rfl, hy, hb3⟩
  obtain ⟨yk, yn, ys, ya, yl, yp, yb, ym, yq, rfl⟩ := hy.form
  have hv3 := box_keep hv2 hb3 l2
  have HY := Lib.hid hy
  have HV3 := Lib.hid hv3
  have HB3 := Lib.hid (hb2.trans (hb3.mono hb2.size))
  obtain ⟨r0, r1, r2, r3, r4⟩ := c5of hv3
  have f0 : w3.frozen? ⟨w.heap.size + 1, 0, none⟩ = false := by simp [World.frozen?, hv3]
  have f1 : w3.frozen? ⟨w.heap.size + 1, 1, none⟩ = false := by simp [World.frozen?, hv3]
  have f2 : w3.frozen? ⟨w.heap.size + 1, 2, none⟩ = false := by simp [World.frozen?, hv3]
  have f3 : w3.frozen? ⟨w.heap.size + 1, 3, none⟩ = false := by simp [World.frozen?, hv3]
  have f4 : w3.frozen? ⟨w.heap.size + 1, 4, none⟩ = false := by simp [World.frozen?, hv3]
  clear hy hv2 hv3 hb2 hb3
  go_wp2
  have hp5 := put5 (.int .i64 yk) (.int .i64 yn) (.string ys) (.slice ya yl yp) (.slice yb ym yq) HV3.out
  have hpb := put5_below (.int .i64 yk) (.int .i64 yn) (.string ys) (.slice ya yl yp) (.slice yb ym yq) HB3.out (b := w.heap.size + 1) (by omega)
  have HY9 := Lib.hid (((((HY.out.set (b := w.heap.size + 1) (i := 0) (u := .int .i64 yk) (by have := HZ.out; omega) l2).set (b := w.heap.size + 1) (i := 1) (u := .int .i64 yn) (by have := HZ.out; omega) l2).set (b := w.heap.size + 1) (i := 2) (u := .string ys) (by have := HZ.out; omega) l2).set (b := w.heap.size + 1) (i := 3) (u := .slice ya yl yp) (by have := HZ.out; omega) l2).set (b := w.heap.size + 1) (i := 4) (u := .slice yb ym yq) (by have := HZ.out; omega) l2)
  generalize ((((w3.setCell _ _).setCell _ _).setCell _ _).setCell _ _).setCell _ _ = W9 at hp5 hpb HY9 ⊢
  obtain ⟨q0, q1, q2, q3, q4⟩ := c5of hp5
  refine bodyPost_ret (v := .agg #[.int .i64 yk, .int .i64 yn, .string ys, .slice ya yl yp, .slice yb ym yq]) (by simp [results, Try.results20, go_sem, q0, q1, q2, q3, q4]) rfl ?_
  exact ⟨_, rfl, HY9.out.base (by omega), hpb⟩
end Go.Proofs.Ythcphfpkinfjoaa
