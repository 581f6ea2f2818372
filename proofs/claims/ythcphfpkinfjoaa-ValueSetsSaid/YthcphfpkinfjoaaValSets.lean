/-
  The statement ValueSets holds.
  Conditions: none.
-/
import Derived.Test.YthcphfpkinfjoaaRows
import Derived.Test.YthcphfpkinfjoaaValOpen
import Derived.Test.YthcphfpkinfjoaaValSx
import Derived.Test.YthcphfpkinfjoaaValMa
import Derived.Test.YthcphfpkinfjoaaValAw
import Derived.Test.YthcphfpkinfjoaaValLi
import Derived.Test.YthcphfpkinfjoaaValQ
import Derived.Deep.RegionHeld3
import Derived.ProofKit
import Derived.OpenShut
import Derived.ShutString
namespace Go.Proofs.Ythcphfpkinfjoaa
open Go.RowKit Go.Shelf

theorem good_ascS {t : VT} (h : GoodV t) : t.k = 5 → Asc t.m := by
  intro h5
  obtain ⟨k, n, s, l, m⟩ := t
  obtain rfl : k = 5 := h5
  have h1 := ((goodV_iff _).1 h).2
  rw [May] at h1
  have h2 := h1.1
  unfold NodeOK at h2
  rcases h2 with h | h | h | h | h | h
  · omega
  · omega
  · omega
  · omega
  · omega
  · exact h.2.2.2.2.asc
theorem vAt_formS {n₀ : Nat} {w : World} {t : VT} {y : Value} (h : VAt n₀ w t y) : ∃ (k n : Int) (s : ByteArray) (a1 : Option Addr) (l1 p1 : Nat) (a2 : Option Addr) (l2 p2 : Nat), y = .agg #[.int .i64 k, .int .i64 n, .string s, .slice a1 l1 p1, .slice a2 l2 p2] := MadeV.form (base := 0) (.inl h)

theorem field_m (zl zm : Option Addr) (zc zp : Nat) (W : World) : (Instr.field 26 (.agg #[.int .i64 5, .int .i64 0, .string ⟨#[]⟩, .slice zl 0 zc, .slice zm 1 zp]) 4).run Try.prog W = .ok (.slice zm 1 zp) W := by kernel_rfl
theorem str_one (W : World) (key : ByteArray) : StrAt (W.alloc (.cells #[.string key] 9)).heap.size (W.alloc (.cells #[.string key] 9)) [key] (.slice (some ⟨W.heap.size, 0, none⟩) 1 1) := by
  have hb : (W.alloc (.cells #[.string key] 9)).heap[W.heap.size]? = some (.cells #[.string key] 9) := World.alloc_heap_new W _
  refine .inr ⟨W.heap.size, 0, 1, Nat.one_pos, Nat.le_refl _, ⟨by unfold sMax; simp, by decide⟩, rfl, by simp, fun i j hi hj => ?_⟩
  obtain rfl : i = 0 := by simp at hi; omega
  obtain rfl : j = 0 := by omega
  simp only [World.cell?, hb]
  rfl
theorem drop_one {n₀ : Nat} {w0 : World} {t : VT} {v : Value} (h : VAt n₀ w0 t v) (hm : t.m.length ≤ 800000) (key : ByteArray) (W : World) (hw : Below n₀ w0 W) (hz : n₀ ≤ W.heap.size) :
    Calls Try.prog 20 #[v, .slice (some ⟨W.heap.size, 0, none⟩) 1 1] (W.alloc (.cells #[.string key] 9)) fun e w' => ∃ y, e = .returned y ∧ VAt w'.heap.size w' (keepV t [key] false) y ∧ Below W.heap.size W w' := by
  have hb : Below W.heap.size W (W.alloc (.cells #[.string key] 9)) := (Below.refl _ W).alloc (Nat.le_refl _) _
  refine (drop_any ((h.keep (hw.trans (hb.mono hz))).mono (Nat.le_trans hz hb.size)) hm (str_one W key) (by simp) _ (Below.refl _ _) (Nat.le_refl _)).mono ?_
  rintro e w' ⟨y, he, hy, hq⟩
  exact ⟨y, he, hy.at hq.size, hb.trans (hq.mono hb.size)⟩
theorem keep_one {n₀ : Nat} {w0 : World} {t : VT} {v : Value} (h : VAt n₀ w0 t v) (hm : t.m.length ≤ 800000) (key : ByteArray) (W : World) (hw : Below n₀ w0 W) (hz : n₀ ≤ W.heap.size) :
    Calls Try.prog 21 #[v, .slice (some ⟨W.heap.size, 0, none⟩) 1 1] (W.alloc (.cells #[.string key] 9)) fun e w' => ∃ y, e = .returned y ∧ VAt w'.heap.size w' (keepV t [key] true) y ∧ Below W.heap.size W w' := by
  have hb : Below W.heap.size W (W.alloc (.cells #[.string key] 9)) := (Below.refl _ W).alloc (Nat.le_refl _) _
  refine (keep_any ((h.keep (hw.trans (hb.mono hz))).mono (Nat.le_trans hz hb.size)) hm (str_one W key) (by simp) _ (Below.refl _ _) (Nat.le_refl _)).mono ?_
  rintro e w' ⟨y, he, hy, hq⟩
  exact ⟨y, he, hy.at hq.size, hb.trans (hq.mono hb.size)⟩
abbrev kO (key : ByteArray) : Obj := .cells #[.string key] 9
theorem str_blk {W : World} {b : Nat} {key : ByteArray} (hb : W.heap[b]? = some (.cells #[.string key] 9 (0, 0))) : StrAt W.heap.size W [key] (.slice (some ⟨b, 0, none⟩) 1 1) := by
  refine .inr ⟨b, 0, 1, Nat.one_pos, Nat.le_refl _, ⟨by unfold sMax; simp, by decide⟩, rfl, lt_of_block hb, fun i j hi hj => ?_⟩
  obtain rfl : i = 0 := by simp at hi; omega
  obtain rfl : j = 0 := by omega
  simp only [World.cell?, hb]
  rfl
theorem drop_blk {n₀ : Nat} {w0 : World} {t : VT} {v : Value} (h : VAt n₀ w0 t v) (hm : t.m.length ≤ 800000) (key : ByteArray) (W : World) (b : Nat) (hb : W.heap[b]? = some (.cells #[.string key] 9 (0, 0))) (hw : Below n₀ w0 W) (hz : n₀ ≤ W.heap.size) :
    Calls Try.prog 20 #[v, .slice (some ⟨b, 0, none⟩) 1 1] W fun e w' => ∃ y, e = .returned y ∧ VAt w'.heap.size w' (keepV t [key] false) y ∧ Below W.heap.size W w' := by
  refine (drop_any ((h.keep hw).mono hz) hm (str_blk hb) (by simp) _ (Below.refl _ _) (Nat.le_refl _)).mono ?_
  rintro e w' ⟨y, he, hy, hq⟩
  exact ⟨y, he, hy.at hq.size, hq⟩
theorem two_blk (W : World) (key : ByteArray) : ((W.alloc (kO key)).alloc (kO key)).heap[W.heap.size]? = some (.cells #[.string key] 9 (0, 0)) ∧ ((W.alloc (kO key)).alloc (kO key)).heap[W.heap.size + 1]? = some (.cells #[.string key] 9 (0, 0)) := by
  constructor
  · exact (((Below.refl _ (W.alloc (kO key))).alloc (Nat.le_refl _) _).block W.heap.size (by simp)).trans (World.alloc_heap_new W _)
  · have := World.alloc_heap_new (W.alloc (kO key)) (kO key)
    rwa [World.size_alloc] at this
theorem drop_two {n₀ : Nat} {w0 : World} {t : VT} {v : Value} (h : VAt n₀ w0 t v) (hm : t.m.length ≤ 800000) (key : ByteArray) (W : World) (b b' : Nat) (hbb : (b = W.heap.size ∧ b' = W.heap.size + 1) ∨ (b = W.heap.size + 1 ∧ b' = W.heap.size)) (hw : Below n₀ w0 W) (hz : n₀ ≤ W.heap.size) :
    Calls Try.prog 20 #[v, .slice (some ⟨b, 0, none⟩) 1 1] ((W.alloc (kO key)).alloc (kO key)) fun e w' => ∃ y, e = .returned y ∧ VAt w'.heap.size w' (keepV t [key] false) y ∧ Below W.heap.size W w' ∧ w'.heap[b']? = some (.cells #[.string key] 9 (0, 0)) := by
  obtain ⟨h1, h2⟩ := two_blk W key
  have hA : Below W.heap.size W ((W.alloc (kO key)).alloc (kO key)) := ((Below.refl _ W).alloc (Nat.le_refl _) _).alloc (by simp) _
  have hb : ((W.alloc (kO key)).alloc (kO key)).heap[b]? = some (.cells #[.string key] 9 (0, 0)) := by rcases hbb with ⟨rfl, _⟩ | ⟨rfl, _⟩ <;> assumption
  have hb' : ((W.alloc (kO key)).alloc (kO key)).heap[b']? = some (.cells #[.string key] 9 (0, 0)) := by rcases hbb with ⟨_, rfl⟩ | ⟨_, rfl⟩ <;> assumption
  refine (drop_blk h hm key _ b hb (hw.trans (hA.mono hz)) (Nat.le_trans hz hA.size)).mono ?_
  rintro e w' ⟨y, he, hy, hq⟩
  exact ⟨y, he, hy, hA.trans (hq.mono hA.size), (hq.block b' (lt_of_block hb')).trans hb'⟩
theorem keep_form {L2 : List (ByteArray × VT)} {key : ByteArray} {n : Nat} {W : World} {y : Value} (h : (L2.filter (stays [key] true)).length = 1) (hy : VAt n W (keepV (.mk 5 0 ⟨#[]⟩ [] L2) [key] true) y) :
    ∃ al cl am cp, y = .agg #[.int .i64 5, .int .i64 0, .string ⟨#[]⟩, .slice al 0 cl, .slice am 1 cp] := by
  have e : keepV (.mk 5 0 ⟨#[]⟩ [] L2) [key] true = .mk 5 0 ⟨#[]⟩ [] (L2.filter (stays [key] true)) := by simp [keepV, VT.k, VT.m]
  rw [e] at hy
  obtain ⟨al, cl, am, cp, cx, rfl, -⟩ := hy.mems
  rw [h]
  exact ⟨al, cl, am, cp, rfl⟩
theorem sets_again {L L2 : List (ByteArray × VT)} {key : ByteArray} {tx u : VT} {n : Nat} {W : World} {y : Value} (h : IsMap (L ++ [(key, tx)]) L2) (hu : ((.mk 5 0 ⟨#[]⟩ [] L2 : VT).k = 5 ∧ ∃ L3, IsMap ((.mk 5 0 ⟨#[]⟩ [] L2 : VT).m ++ [(key, tx)]) L3 ∧ u = .mk 5 0 ⟨#[]⟩ [] L3) ∨ ((.mk 5 0 ⟨#[]⟩ [] L2 : VT).k ≠ 5 ∧ u = .mk 5 0 ⟨#[]⟩ [] L2)) (hy : VAt n W u y) : VAt n W (.mk 5 0 ⟨#[]⟩ [] L2) y := by
  rcases hu with ⟨_, L3, h1, rfl⟩ | ⟨h1, _⟩
  · have := set_again h h1
    subst this
    exact hy
  · exact absurd rfl h1
set_option maxRecDepth 100000 in
set_option maxHeartbeats 8000000 in
theorem sets_true (m : List (ByteArray × VT)) (sv : Value) (cm : Nat → Nat → Value) (key : ByteArray) (tx : VT) (vx : Value) (w : World) (hm : MAt w.heap.size w m sv cm) (hx : VAt w.heap.size w tx vx) :
    Calls Try.prog 4 #[sv, .string key, vx] w fun e w' => e = .returned (.bool true) ∧ Below w.heap.size w w' := by
  obtain ⟨d0, d1, d2, d3, d4, rfl⟩ := vAt_agg hx
  obtain ⟨ao, cap, rfl, -⟩ := hm.1.form
  have HM := Lib.hid hm
  have HX := Lib.hid hx
  clear hm hx
  go_enter Try.func4, Try.ntmps4
  go_wp2_with fail
  generalize hW0 : w.alloc _ = w0
  have hb0 : Below w.heap.size w w0 := by subst hW0; exact (Below.refl _ w).alloc (Nat.le_refl _) _
  have HE0 := Lib.hid (show w0.heap[w.heap.size]? = some (.cells #[d0, d1, d2, d3, d4] 26 (0, 0)) by subst hW0; exact World.alloc_heap_new w _)
  have hz0 : w.heap.size < w0.heap.size := by subst hW0; simp
  have HB0 := Lib.hid hb0
  clear hW0 hb0
  refine (awake_true _).mono ?_
  rintro e w1 ⟨rfl, hq⟩
  have HE1 := Lib.hid (box_keep HE0.out hq (by omega))
  have HB1 := Lib.hid (HB0.out.trans (hq.mono HB0.out.size))
  have hz1 : w.heap.size < w1.heap.size := Nat.lt_of_lt_of_le hz0 hq.size
  clear hq
  obtain ⟨x0, x1, x2, x3, x4⟩ := c5of HE1.out
  go_wp2_with fail
  obtain ⟨r, hr⟩ : ∃ r : Bool, r = true ↔ wt 800 71 (.mk 0 0 ⟨#[]⟩ [] m) ≤ 800 := by classical exact ⟨decide (wt 800 71 (.mk 0 0 ⟨#[]⟩ [] m) ≤ 800), by rw [decide_eq_true_iff]⟩
  refine (light_any (HM.out.val 0 rfl) w1 HB1.out HB1.out.size r hr).mono ?_
  rintro e w2 ⟨rfl, hq⟩
  have HE2 := Lib.hid (box_keep HE1.out hq (by omega))
  have HB2 := Lib.hid (HB1.out.trans (hq.mono HB1.out.size))
  have hz2 : w.heap.size < w2.heap.size := Nat.lt_of_lt_of_le hz1 hq.size
  clear hq
  clear x0 x1 x2 x3 x4
  cases r with
  | false =>
    clear hr
    go_wp2
    go_ret
    exact ⟨rfl, HB2.out⟩
  | true =>
  have HL0 := Lib.hid (hr.1 rfl)
  clear hr
  have HMN := Lib.hid (show m.length ≤ 1000000 by have := (light_len _ HL0.out).1; simp [VT.m] at this; omega)
  obtain ⟨x0, x1, x2, x3, x4⟩ := c5of HE2.out
  go_wp2_with fail
  clear x0 x1 x2 x3 x4
  refine (map_all HM.out w2 HB2.out HB2.out.size HMN.out).mono ?_
  rintro e w3 ⟨xv, L, rfl, hL, hxv, hq⟩
  have HE3 := Lib.hid (box_keep HE2.out hq (by omega))
  have HB3 := Lib.hid (HB2.out.trans (hq.mono HB2.out.size))
  have hz3 : w.heap.size < w3.heap.size := Nat.lt_of_lt_of_le hz2 hq.size
  clear hq
  have HLM := Lib.hid hL
  have HV := Lib.hid hxv
  obtain ⟨al, cl, am, cp, cx, rfl, hmx⟩ := hxv.mems
  have HMX := Lib.hid hmx
  clear hL hxv hmx
  obtain ⟨x0, x1, x2, x3, x4⟩ := c5of HE3.out
  go_wp2_with fail
  clear x0 x1 x2 x3 x4
  generalize hW4 : w3.alloc _ = w4
  have hq : Below w3.heap.size w3 w4 := by subst hW4; exact (Below.refl _ w3).alloc (Nat.le_refl _) _
  have HA4 := Lib.hid (show w4.heap[w3.heap.size]? = some (.cells #[.int .i64 5, .int .i64 0, .string ⟨#[]⟩, .slice al 0 cl, .slice am L.length cp] 26 (0, 0)) by subst hW4; exact World.alloc_heap_new w3 _)
  have hz4 : w3.heap.size < w4.heap.size := by subst hW4; simp
  have HE4 := Lib.hid (box_keep HE3.out hq (by omega))
  have HB4 := Lib.hid (HB3.out.trans (hq.mono HB3.out.size))
  have HN4 := Lib.hid hq
  clear hW4 hq
  obtain ⟨r, hr⟩ : ∃ r : Bool, r = true ↔ wt 800 71 (.mk 5 0 ⟨#[]⟩ [] L) ≤ 800 := by classical exact ⟨decide (wt 800 71 (.mk 5 0 ⟨#[]⟩ [] L) ≤ 800), by rw [decide_eq_true_iff]⟩
  refine (light_any HV.out w4 HN4.out HN4.out.size r hr).mono ?_
  rintro e w5 ⟨rfl, hq⟩
  have HE5 := Lib.hid (box_keep HE4.out hq (by omega))
  have HA5 := Lib.hid (box_keep HA4.out hq (by omega))
  have HB5 := Lib.hid (HB4.out.trans (hq.mono HB4.out.size))
  have HN5 := Lib.hid (HN4.out.trans (hq.mono HN4.out.size))
  have hz5 : w3.heap.size < w5.heap.size := Nat.lt_of_lt_of_le hz4 hq.size
  clear hq
  cases r with
  | false =>
    clear hr
    go_wp2
    go_ret
    exact ⟨rfl, HB5.out⟩
  | true =>
  have HL1 := Lib.hid (hr.1 rfl)
  clear hr
  obtain ⟨x0, x1, x2, x3, x4⟩ := c5of HE5.out
  obtain ⟨y0, y1, y2, y3, y4⟩ := c5of HA5.out
  go_wp2_with fail
  clear x0 x1 x2 x3 x4 y0 y1 y2 y3 y4
  obtain ⟨r, hr⟩ : ∃ r : Bool, r = true ↔ wt 800 71 tx ≤ 800 := by classical exact ⟨decide (wt 800 71 tx ≤ 800), by rw [decide_eq_true_iff]⟩
  refine (light_any HX.out w5 HB5.out HB5.out.size r hr).mono ?_
  rintro e w6 ⟨rfl, hq⟩
  have HE6 := Lib.hid (box_keep HE5.out hq (by omega))
  have HA6 := Lib.hid (box_keep HA5.out hq (by omega))
  have HB6 := Lib.hid (HB5.out.trans (hq.mono HB5.out.size))
  have HN6 := Lib.hid (HN5.out.trans (hq.mono HN5.out.size))
  have hz6 : w3.heap.size < w6.heap.size := Nat.lt_of_lt_of_le hz5 hq.size
  clear hq
  cases r with
  | false =>
    clear hr
    go_wp2
    go_ret
    exact ⟨rfl, HB6.out⟩
  | true =>
  have HL2 := Lib.hid (hr.1 rfl)
  clear hr
  obtain ⟨x0, x1, x2, x3, x4⟩ := c5of HE6.out
  obtain ⟨y0, y1, y2, y3, y4⟩ := c5of HA6.out
  by_cases hk100 : 100 < (key.size : Int)
  · go_wp2
    go_ret
    exact ⟨rfl, HB6.out⟩
  clear x0 x1 x2 x3 x4 y0 y1 y2 y3 y4
  have HKS := Lib.hid (show key.size ≤ sMax by have : sMax = 140737488355328 := rfl; omega)
  obtain ⟨x0, x1, x2, x3, x4⟩ := c5of HE6.out
  obtain ⟨y0, y1, y2, y3, y4⟩ := c5of HA6.out
  go_wp2_with fail
  clear x0 x1 x2 x3 x4 y0 y1 y2 y3 y4
  obtain ⟨r, hr⟩ : ∃ r : Bool, r = true ↔ GoodV (.mk 5 0 ⟨#[]⟩ [] L) := by classical exact ⟨decide (GoodV (.mk 5 0 ⟨#[]⟩ [] L)), by rw [decide_eq_true_iff]⟩
  refine (vgood_any HV.out w6 HN6.out HN6.out.size r hr).mono ?_
  rintro e w7 ⟨rfl, hq⟩
  have HE7 := Lib.hid (box_keep HE6.out hq (by omega))
  have HA7 := Lib.hid (box_keep HA6.out hq (by omega))
  have HB7 := Lib.hid (HB6.out.trans (hq.mono HB6.out.size))
  have HN7 := Lib.hid (HN6.out.trans (hq.mono HN6.out.size))
  have hz7 : w3.heap.size < w7.heap.size := Nat.lt_of_lt_of_le hz6 hq.size
  clear hq
  cases r with
  | false =>
    clear hr
    go_wp2
    go_ret
    exact ⟨rfl, HB7.out⟩
  | true =>
  have HG1 := Lib.hid (hr.1 rfl)
  clear hr
  obtain ⟨x0, x1, x2, x3, x4⟩ := c5of HE7.out
  obtain ⟨y0, y1, y2, y3, y4⟩ := c5of HA7.out
  go_wp2_with fail
  clear x0 x1 x2 x3 x4 y0 y1 y2 y3 y4
  obtain ⟨r, hr⟩ : ∃ r : Bool, r = true ↔ GoodV tx := by classical exact ⟨decide (GoodV tx), by rw [decide_eq_true_iff]⟩
  refine (vgood_any HX.out w7 HB7.out HB7.out.size r hr).mono ?_
  rintro e w8 ⟨rfl, hq⟩
  have HE8 := Lib.hid (box_keep HE7.out hq (by omega))
  have HA8 := Lib.hid (box_keep HA7.out hq (by omega))
  have HB8 := Lib.hid (HB7.out.trans (hq.mono HB7.out.size))
  have HN8 := Lib.hid (HN7.out.trans (hq.mono HN7.out.size))
  have hz8 : w3.heap.size < w8.heap.size := Nat.lt_of_lt_of_le hz7 hq.size
  clear hq
  cases r with
  | false =>
    clear hr
    go_wp2
    go_ret
    exact ⟨rfl, HB8.out⟩
  | true =>
  have HG2 := Lib.hid (hr.1 rfl)
  clear hr
  obtain ⟨x0, x1, x2, x3, x4⟩ := c5of HE8.out
  obtain ⟨y0, y1, y2, y3, y4⟩ := c5of HA8.out
  go_wp2_with fail
  clear x0 x1 x2 x3 x4 y0 y1 y2 y3 y4
  refine (textv_any key w8).mono ?_
  rintro e w9 ⟨rfl, hq⟩
  have HE9 := Lib.hid (box_keep HE8.out hq (by omega))
  have HA9 := Lib.hid (box_keep HA8.out hq (by omega))
  have HB9 := Lib.hid (HB8.out.trans (hq.mono HB8.out.size))
  have HN9 := Lib.hid (HN8.out.trans (hq.mono HN8.out.size))
  have hz9 : w3.heap.size < w9.heap.size := Nat.lt_of_lt_of_le hz8 hq.size
  clear hq
  obtain ⟨x0, x1, x2, x3, x4⟩ := c5of HE9.out
  obtain ⟨y0, y1, y2, y3, y4⟩ := c5of HA9.out
  go_wp2_with fail
  clear x0 x1 x2 x3 x4 y0 y1 y2 y3 y4
  obtain ⟨r, hr⟩ : ∃ r : Bool, r = true ↔ GoodV (textT key) := by classical exact ⟨decide (GoodV (textT key)), by rw [decide_eq_true_iff]⟩
  refine (vgood_any (textT_at w9.heap.size w9 key HKS.out) w9 (Below.refl _ _) (Nat.le_refl _) r hr).mono ?_
  rintro e w10 ⟨rfl, hq⟩
  have HE10 := Lib.hid (box_keep HE9.out hq (by omega))
  have HA10 := Lib.hid (box_keep HA9.out hq (by omega))
  have HB10 := Lib.hid (HB9.out.trans (hq.mono HB9.out.size))
  have HN10 := Lib.hid (HN9.out.trans (hq.mono HN9.out.size))
  have hz10 : w3.heap.size < w10.heap.size := Nat.lt_of_lt_of_le hz9 hq.size
  clear hq
  cases r with
  | false =>
    clear hr
    go_wp2
    go_ret
    exact ⟨rfl, HB10.out⟩
  | true =>
  have HG3 := Lib.hid (hr.1 rfl)
  clear hr
  have HDX := Lib.hid (show dep tx ≤ 1000000 by have := ((goodV_iff _).1 HG2.out).1; omega)
  obtain ⟨x0, x1, x2, x3, x4⟩ := c5of HE10.out
  obtain ⟨y0, y1, y2, y3, y4⟩ := c5of HA10.out
  go_wp2_with fail
  clear x0 x1 x2 x3 x4 y0 y1 y2 y3 y4
  refine (depth_any HX.out HDX.out w10 HB10.out HB10.out.size).mono ?_
  rintro e w11 ⟨rfl, hq⟩
  have HE11 := Lib.hid (box_keep HE10.out hq (by omega))
  have HA11 := Lib.hid (box_keep HA10.out hq (by omega))
  have HB11 := Lib.hid (HB10.out.trans (hq.mono HB10.out.size))
  have HN11 := Lib.hid (HN10.out.trans (hq.mono HN10.out.size))
  have hz11 : w3.heap.size < w11.heap.size := Nat.lt_of_lt_of_le hz10 hq.size
  clear hq
  obtain ⟨dd, hdd⟩ : ∃ dd, dd = dep tx := ⟨_, rfl⟩
  have HDD := Lib.hid hdd
  rw [← hdd]
  clear hdd
  obtain ⟨x0, x1, x2, x3, x4⟩ := c5of HE11.out
  obtain ⟨y0, y1, y2, y3, y4⟩ := c5of HA11.out
  by_cases h50 : 50 ≤ (dd : Int)
  · go_wp2
    go_ret
    exact ⟨rfl, HB11.out⟩
  go_wp2_with fail
  clear x0 x1 x2 x3 x4 y0 y1 y2 y3 y4
  have HX3 := Lib.hid (show VAt w3.heap.size w3 tx (.agg #[d0, d1, d2, d3, d4]) from (HX.out.keep HB3.out).mono HB3.out.size)
  have HMLs := Lib.hid (show L.length ≤ 700000 by have := (light_len _ HL1.out).1; simp [VT.m] at this; omega)
  have HML := Lib.hid (show L.length ≤ 800000 by have := (light_len _ HL1.out).1; simp [VT.m] at this; omega)
  have hg := get_any HV.out (fun _ => HLM.out.1) key w11 HN11.out HN11.out.size
  rw [show getV (.mk 5 0 ⟨#[]⟩ [] L) key = look L key from rfl] at hg
  obtain ⟨bt, hbt⟩ : ∃ bt, (look L key).isSome = bt := ⟨_, rfl⟩
  rw [hbt] at hg
  have HBT := Lib.hid hbt
  clear hbt
  refine hg.mono ?_
  clear hg
  rintro e w12 ⟨⟨xg, rfl, hxg⟩, hq⟩
  obtain ⟨gk, gn, gsx, ga, gl, gp, gb, gm, gq, rfl⟩ := vAt_formS hxg
  have HE12 := Lib.hid (box_keep HE11.out hq (by omega))
  have HA12 := Lib.hid (box_keep HA11.out hq (by omega))
  have HB12 := Lib.hid (HB11.out.trans (hq.mono HB11.out.size))
  have HN12 := Lib.hid (HN11.out.trans (hq.mono HN11.out.size))
  have hz12 : w3.heap.size < w12.heap.size := Nat.lt_of_lt_of_le hz11 hq.size
  clear hq hxg
  obtain ⟨x0, x1, x2, x3, x4⟩ := c5of HE12.out
  obtain ⟨y0, y1, y2, y3, y4⟩ := c5of HA12.out
  have ly12 : w.heap.size < w12.heap.size := by omega
  go_wp2_with fail
  clear x0 x1 x2 x3 x4 y0 y1 y2 y3 y4
  generalize hW13 : w12.alloc _ = w13
  have hq : Below w12.heap.size w12 w13 := by subst hW13; exact (Below.refl _ w12).alloc (Nat.le_refl _) _
  have hz13 : w3.heap.size < w13.heap.size := by subst hW13; simp; omega
  have HE13 := Lib.hid (box_keep HE12.out hq (by omega))
  have HA13 := Lib.hid (box_keep HA12.out hq (by omega))
  have HB13 := Lib.hid (HB12.out.trans (hq.mono HB12.out.size))
  have HN13 := Lib.hid (HN12.out.trans (hq.mono HN12.out.size))
  clear hW13 hq
  refine (set_any HV.out (fun _ => HLM.out.1) HML.out key HKS.out HX3.out w13 HN13.out HN13.out.size).mono ?_
  rintro e w14 ⟨xw, u, rfl, hu, hxw, hq⟩
  obtain ⟨L2, hL2, rfl⟩ : ∃ L2, IsMap (L ++ [(key, tx)]) L2 ∧ u = .mk 5 0 ⟨#[]⟩ [] L2 := by
    rcases hu with ⟨_, L2, h1, h2⟩ | ⟨h1, _⟩
    · exact ⟨L2, h1, h2⟩
    · exact absurd rfl h1
  have HL2M := Lib.hid hL2
  have HWV := Lib.hid hxw
  obtain ⟨al2, cl2, am2, cp2, cx2, rfl, -⟩ := hxw.mems
  have HE14 := Lib.hid (box_keep HE13.out hq (by omega))
  have HA14 := Lib.hid (box_keep HA13.out hq (by omega))
  have HB14 := Lib.hid (HB13.out.trans (hq.mono HB13.out.size))
  have HN14 := Lib.hid (HN13.out.trans (hq.mono HN13.out.size))
  have hz14 : w3.heap.size < w14.heap.size := Nat.lt_of_lt_of_le hz13 hq.size
  clear hq hu hL2 hxw
  obtain ⟨x0, x1, x2, x3, x4⟩ := c5of HE14.out
  obtain ⟨y0, y1, y2, y3, y4⟩ := c5of HA14.out
  have ly14 : w.heap.size < w14.heap.size := by omega
  go_wp2_with fail
  clear x0 x1 x2 x3 x4 y0 y1 y2 y3 y4
  generalize hW15 : w14.alloc _ = w15
  have hq : Below w14.heap.size w14 w15 := by subst hW15; exact (Below.refl _ w14).alloc (Nat.le_refl _) _
  have HC15 := Lib.hid (show w15.heap[w14.heap.size]? = some (.cells #[.int .i64 5, .int .i64 0, .string ⟨#[]⟩, .slice al2 0 cl2, .slice am2 L2.length cp2] 26 (0, 0)) by subst hW15; exact World.alloc_heap_new w14 _)
  have hz15 : w14.heap.size < w15.heap.size := by subst hW15; simp
  have HO15 := Lib.hid hq
  have HE15 := Lib.hid (box_keep HE14.out hq (by omega))
  have HA15 := Lib.hid (box_keep HA14.out hq (by omega))
  have HB15 := Lib.hid (HB14.out.trans (hq.mono HB14.out.size))
  have HN15 := Lib.hid (HN14.out.trans (hq.mono HN14.out.size))
  clear hW15 hq
  have hg := get_any HWV.out (fun _ => HL2M.out.1) key w15 HO15.out HO15.out.size
  rw [show getV (.mk 5 0 ⟨#[]⟩ [] L2) key = some tx from set_look HL2M.out] at hg
  refine hg.mono ?_
  clear hg
  rintro e w16 ⟨⟨xy, rfl, hxy⟩, hq⟩
  obtain ⟨yk, yn, ysx, ya, yl, yp, yb, ym, yq, rfl⟩ := vAt_formS hxy
  have HE16 := Lib.hid (box_keep HE15.out hq (by omega))
  have HA16 := Lib.hid (box_keep HA15.out hq (by omega))
  have HC16 := Lib.hid (box_keep HC15.out hq (by omega))
  have HB16 := Lib.hid (HB15.out.trans (hq.mono HB15.out.size))
  have HN16 := Lib.hid (HN15.out.trans (hq.mono HN15.out.size))
  have HO16 := Lib.hid (HO15.out.trans (hq.mono HO15.out.size))
  have hz16 : w14.heap.size < w16.heap.size := Nat.lt_of_lt_of_le hz15 hq.size
  have HY := Lib.hid (show VAt w14.heap.size w14 tx (.agg #[.int .i64 yk, .int .i64 yn, .string ysx, .slice ya yl yp, .slice yb ym yq]) from hxy)
  clear hq hxy
  obtain ⟨x0, x1, x2, x3, x4⟩ := c5of HE16.out
  obtain ⟨y0, y1, y2, y3, y4⟩ := c5of HA16.out
  obtain ⟨z0, z1, z2, z3, z4⟩ := c5of HC16.out
  have ly16 : w.heap.size < w16.heap.size := by omega
  have lz16 : w3.heap.size < w16.heap.size := by omega
  have HGU := Lib.hid (set_good HL2M.out.1 (set_mem HL2M.out) HG1.out ((textT_good key).1 HG3.out) HG2.out (by have := HDD.out; omega))
  have HLN := Lib.hid (set_len HLM.out.1 HL2M.out)
  cases bt with
  | true =>
    have HLE := Lib.hid (show L2.length = L.length by have := HLN.out; rw [HBT.out] at this; simpa using this)
    go_wp2_with fail
    generalize hW17 : w16.alloc _ = w17
    have hq : Below w16.heap.size w16 w17 := by subst hW17; exact (Below.refl _ w16).alloc (Nat.le_refl _) _
    have HF17 := Lib.hid (show w17.heap[w16.heap.size]? = some (.cells #[.int .i64 yk, .int .i64 yn, .string ysx, .slice ya yl yp, .slice yb ym yq] 26 (0, 0)) by subst hW17; exact World.alloc_heap_new w16 _)
    have hz17 : w16.heap.size < w17.heap.size := by subst hW17; simp
    have HE17 := Lib.hid (box_keep HE16.out hq (by omega))
    have HA17 := Lib.hid (box_keep HA16.out hq (by omega))
    have HC17 := Lib.hid (box_keep HC16.out hq (by omega))
    have HB17 := Lib.hid (HB16.out.trans (hq.mono HB16.out.size))
    have HN17 := Lib.hid (HN16.out.trans (hq.mono HN16.out.size))
    have HO17 := Lib.hid (HO16.out.trans (hq.mono HO16.out.size))
    clear hW17 hq x0 x1 x2 x3 x4 y0 y1 y2 y3 y4 z0 z1 z2 z3 z4
    obtain ⟨e0, e1, e2, e3, e4⟩ := c5of HE17.out
    obtain ⟨f0, f1, f2, f3, f4⟩ := c5of HC17.out
    obtain ⟨g0, g1, g2, g3, g4⟩ := c5of HF17.out
    have le17 : w.heap.size < w17.heap.size := by omega
    have lc17 : w14.heap.size < w17.heap.size := by omega
    have ke0 := fun p => KidOf.cell le17 e0 p
    have ke1 := fun p => KidOf.cell le17 e1 p
    have ke2 := fun p => KidOf.cell le17 e2 p
    have ke3 := fun p => KidOf.cell le17 e3 p
    have ke4 := fun p => KidOf.cell le17 e4 p
    have kf0 := fun p => KidOf.cell lc17 f0 p
    have kf1 := fun p => KidOf.cell lc17 f1 p
    have kf2 := fun p => KidOf.cell lc17 f2 p
    have kf3 := fun p => KidOf.cell lc17 f3 p
    have kf4 := fun p => KidOf.cell lc17 f4 p
    have kg0 := fun p => KidOf.cell hz17 g0 p
    have kg1 := fun p => KidOf.cell hz17 g1 p
    have kg2 := fun p => KidOf.cell hz17 g2 p
    have kg3 := fun p => KidOf.cell hz17 g3 p
    have kg4 := fun p => KidOf.cell hz17 g4 p
    clear e0 e1 e2 e3 e4 f0 f1 f2 f3 f4 g0 g1 g2 g3 g4
    have HGD := Lib.hid (fun p : KidOf w17 => vgood_any HWV.out p.x (HO17.out.trans (p.h.mono HO17.out.size)) (Nat.le_trans HO17.out.size p.h.size) true (by simp [HGU.out]))
    have HXY := Lib.hid (show VAt w14.heap.size w14 tx (.agg #[d0, d1, d2, d3, d4]) from (HX.out.keep HB14.out).mono HB14.out.size)
    have HSM := Lib.hid (fun p : KidOf w17 => same_any HY.out HXY.out p.x (HO17.out.trans (p.h.mono HO17.out.size)) (Nat.le_trans HO17.out.size p.h.size) true (by simp))
    have hne : ((L2.length : Int) != (L.length : Int)) = false := by rw [HLE.out]; simp
    refine wp_region_below (by kernel_rfl) (by kernel_rfl) ?_
    repeat (go_big_quiet_step (first | (go_at_call 10; exact Calls.below_of (HGD.out _)) | (go_at_call 19; exact Calls.below_of (HSM.out _))))
    refine wpQuiet_nil ?_
    rintro wz ⟨⟨_, hbz⟩, rfl⟩
    have HBz := Lib.hid (HB17.out.trans (hbz.mono HB17.out.size))
    have HOz := Lib.hid (HO17.out.trans (hbz.mono HO17.out.size))
    have HEz := Lib.hid (box_keep HE17.out hbz (by omega))
    have HAz := Lib.hid (box_keep HA17.out hbz (by omega))
    have HCz := Lib.hid (box_keep HC17.out hbz (by omega))
    have hzE : w.heap.size < wz.heap.size := Nat.lt_of_lt_of_le le17 hbz.size
    have hzA : w3.heap.size < wz.heap.size := by have := hbz.size; omega
    have hzC : w14.heap.size < wz.heap.size := Nat.lt_of_lt_of_le lc17 hbz.size
    clear hbz ke0 ke1 ke2 ke3 ke4 kf0 kf1 kf2 kf3 kf4 kg0 kg1 kg2 kg3 kg4
    have HDr := Lib.hid (show Below wz.heap.size wz wz.drew from (Below.refl _ wz).drew)
    have HQ : ∀ x : World, Below wz.heap.size wz x → Hid (Below w14.heap.size w14 x ∧ w14.heap.size ≤ x.heap.size) := fun x h => Lib.hid ⟨HOz.out.trans (h.mono HOz.out.size), Nat.le_trans HOz.out.size h.size⟩
    have HKE : ∀ x : World, Below wz.heap.size wz x → Hid (x.heap[w.heap.size]? = some (.cells #[d0, d1, d2, d3, d4] 26 (0, 0))) := fun x h => Lib.hid (box_keep HEz.out h (by omega))
    have HKA : ∀ x : World, Below wz.heap.size wz x → Hid (x.heap[w3.heap.size]? = some (.cells #[.int .i64 5, .int .i64 0, .string ⟨#[]⟩, .slice al 0 cl, .slice am L.length cp] 26 (0, 0))) := fun x h => Lib.hid (box_keep HAz.out h (by omega))
    have HKC : ∀ x : World, Below wz.heap.size wz x → Hid (x.heap[w14.heap.size]? = some (.cells #[.int .i64 5, .int .i64 0, .string ⟨#[]⟩, .slice al2 0 cl2, .slice am2 L2.length cp2] 26 (0, 0))) := fun x h => Lib.hid (box_keep HCz.out h (by omega))
    obtain ⟨x0, x1, x2, x3, x4⟩ := c5of HEz.out
    obtain ⟨y0, y1, y2, y3, y4⟩ := c5of HAz.out
    obtain ⟨z0, z1, z2, z3, z4⟩ := c5of HCz.out
    have HS0 := Lib.hid (show wz.drew.cell? ⟨w.heap.size, 0, none⟩ = some (d0) ∧ wz.drew.cell? ⟨w.heap.size, 1, none⟩ = some (d1) ∧ wz.drew.cell? ⟨w.heap.size, 2, none⟩ = some (d2) ∧ wz.drew.cell? ⟨w.heap.size, 3, none⟩ = some (d3) ∧ wz.drew.cell? ⟨w.heap.size, 4, none⟩ = some (d4) ∧ wz.drew.cell? ⟨w3.heap.size, 0, none⟩ = some (.int .i64 5) ∧ wz.drew.cell? ⟨w3.heap.size, 1, none⟩ = some (.int .i64 0) ∧ wz.drew.cell? ⟨w3.heap.size, 2, none⟩ = some (.string ⟨#[]⟩) ∧ wz.drew.cell? ⟨w3.heap.size, 3, none⟩ = some (.slice al 0 cl) ∧ wz.drew.cell? ⟨w3.heap.size, 4, none⟩ = some (.slice am L.length cp) ∧ wz.drew.cell? ⟨w14.heap.size, 0, none⟩ = some (.int .i64 5) ∧ wz.drew.cell? ⟨w14.heap.size, 1, none⟩ = some (.int .i64 0) ∧ wz.drew.cell? ⟨w14.heap.size, 2, none⟩ = some (.string ⟨#[]⟩) ∧ wz.drew.cell? ⟨w14.heap.size, 3, none⟩ = some (.slice al2 0 cl2) ∧ wz.drew.cell? ⟨w14.heap.size, 4, none⟩ = some (.slice am2 L2.length cp2) from ⟨x0, x1, x2, x3, x4, y0, y1, y2, y3, y4, z0, z1, z2, z3, z4⟩)
    have HV14 := Lib.hid (show VAt w14.heap.size w14 (.mk 5 0 ⟨#[]⟩ [] L) (.agg #[.int .i64 5, .int .i64 0, .string ⟨#[]⟩, .slice al 0 cl, .slice am L.length cp]) from (HV.out.keep HN14.out).mono HN14.out.size)
    have HWVc := Lib.hid (show VAt w14.heap.size w14 (.mk 5 0 ⟨#[]⟩ [] L2) (.agg #[.int .i64 5, .int .i64 0, .string ⟨#[]⟩, .slice al2 0 cl2, .slice am2 L2.length cp2]) from HWV.out)
    have HFL := Lib.hid (set_filt HLM.out.1 HL2M.out)
    have HML2 := Lib.hid (show L2.length ≤ 800000 by have h1 := HLN.out; have := HMLs.out; split at h1 <;> omega)
    go_wp2_with fail
    have hfld := field_m
    go_region_held3 (fun x => x.cell? ⟨w.heap.size, 0, none⟩ = some (d0) ∧ x.cell? ⟨w.heap.size, 1, none⟩ = some (d1) ∧ x.cell? ⟨w.heap.size, 2, none⟩ = some (d2) ∧ x.cell? ⟨w.heap.size, 3, none⟩ = some (d3) ∧ x.cell? ⟨w.heap.size, 4, none⟩ = some (d4) ∧ x.cell? ⟨w3.heap.size, 0, none⟩ = some (.int .i64 5) ∧ x.cell? ⟨w3.heap.size, 1, none⟩ = some (.int .i64 0) ∧ x.cell? ⟨w3.heap.size, 2, none⟩ = some (.string ⟨#[]⟩) ∧ x.cell? ⟨w3.heap.size, 3, none⟩ = some (.slice al 0 cl) ∧ x.cell? ⟨w3.heap.size, 4, none⟩ = some (.slice am L.length cp) ∧ x.cell? ⟨w14.heap.size, 0, none⟩ = some (.int .i64 5) ∧ x.cell? ⟨w14.heap.size, 1, none⟩ = some (.int .i64 0) ∧ x.cell? ⟨w14.heap.size, 2, none⟩ = some (.string ⟨#[]⟩) ∧ x.cell? ⟨w14.heap.size, 3, none⟩ = some (.slice al2 0 cl2) ∧ x.cell? ⟨w14.heap.size, 4, none⟩ = some (.slice am2 L2.length cp2))
      (first | with_reducible exact ⟨HS0.out.1, HS0.out.2.1, HS0.out.2.2.1, HS0.out.2.2.2.1, HS0.out.2.2.2.2.1, HS0.out.2.2.2.2.2.1, HS0.out.2.2.2.2.2.2.1, HS0.out.2.2.2.2.2.2.2.1, HS0.out.2.2.2.2.2.2.2.2.1, HS0.out.2.2.2.2.2.2.2.2.2.1, HS0.out.2.2.2.2.2.2.2.2.2.2.1, HS0.out.2.2.2.2.2.2.2.2.2.2.2.1, HS0.out.2.2.2.2.2.2.2.2.2.2.2.2.1, HS0.out.2.2.2.2.2.2.2.2.2.2.2.2.2.1, HS0.out.2.2.2.2.2.2.2.2.2.2.2.2.2.2⟩ | with_reducible exact ⟨by with_reducible assumption, by with_reducible assumption, by with_reducible assumption, by with_reducible assumption, by with_reducible assumption, by with_reducible assumption, by with_reducible assumption, by with_reducible assumption, by with_reducible assumption, by with_reducible assumption, by with_reducible assumption, by with_reducible assumption, by with_reducible assumption, by with_reducible assumption, by with_reducible assumption⟩ | go_keep)
      (first
        | (go_at_call 22; refine (set_any HWV.out (fun _ => HL2M.out.1) HML2.out key HKS.out HXY.out _ (HQ wz.drew HDr.out).out.1 (HQ wz.drew HDr.out).out.2).mono ?_; rintro e k1 ⟨ya, ua, rfl, hua, hya, hq⟩; have hb0 : Below wz.heap.size wz k1 := HDr.out.trans (hq.mono HDr.out.size); have HYA := Lib.hid (sets_again HL2M.out hua hya); clear hua hya hq; obtain ⟨ge00, ge01, ge02, ge03, ge04⟩ := c5of (HKE k1 hb0).out; obtain ⟨ga00, ga01, ga02, ga03, ga04⟩ := c5of (HKA k1 hb0).out; obtain ⟨gc00, gc01, gc02, gc03, gc04⟩ := c5of (HKC k1 hb0).out)
        | (go_at_call_of 19 ya; refine (same_any HYA.out ((HWV.out.keep (HQ k1 hb0).out.1).mono (HQ k1 hb0).out.2) _ (Below.refl _ _) (Nat.le_refl _) true (by simp)).mono ?_; rintro e k2 ⟨rfl, hq⟩; have hb1 : Below wz.heap.size wz k2 := hb0.trans (hq.mono hb0.size); clear hq; obtain ⟨ge10, ge11, ge12, ge13, ge14⟩ := c5of (HKE k2 hb1).out; obtain ⟨ga10, ga11, ga12, ga13, ga14⟩ := c5of (HKA k2 hb1).out; obtain ⟨gc10, gc11, gc12, gc13, gc14⟩ := c5of (HKC k2 hb1).out)
        | (go_at_call_of 20 al2; refine (drop_one HWVc.out HML2.out key k2 (HQ k2 hb1).out.1 (HQ k2 hb1).out.2).mono ?_; rintro e k3 ⟨yb, rfl, hyb, hq⟩; have hb2 : Below wz.heap.size wz k3 := hb1.trans (hq.mono hb1.size); have HYB := Lib.hid hyb; clear hyb hq; obtain ⟨ge20, ge21, ge22, ge23, ge24⟩ := c5of (HKE k3 hb2).out; obtain ⟨ga20, ga21, ga22, ga23, ga24⟩ := c5of (HKA k3 hb2).out; obtain ⟨gc20, gc21, gc22, gc23, gc24⟩ := c5of (HKC k3 hb2).out)
        | (go_at_call_of 20 al2; refine (drop_two HWVc.out HML2.out key k2 k2.heap.size (k2.heap.size + 1) (.inl ⟨rfl, rfl⟩) (HQ k2 hb1).out.1 (HQ k2 hb1).out.2).mono ?_; rintro e k3 ⟨yb, rfl, hyb, hq, hbk⟩; have hb2 : Below wz.heap.size wz k3 := hb1.trans (hq.mono hb1.size); have HYB := Lib.hid hyb; have HBK := Lib.hid hbk; clear hyb hq hbk; obtain ⟨ge20, ge21, ge22, ge23, ge24⟩ := c5of (HKE k3 hb2).out; obtain ⟨ga20, ga21, ga22, ga23, ga24⟩ := c5of (HKA k3 hb2).out; obtain ⟨gc20, gc21, gc22, gc23, gc24⟩ := c5of (HKC k3 hb2).out)
        | (go_at_call_of 20 al2; refine (drop_two HWVc.out HML2.out key k2 (k2.heap.size + 1) k2.heap.size (.inr ⟨rfl, rfl⟩) (HQ k2 hb1).out.1 (HQ k2 hb1).out.2).mono ?_; rintro e k3 ⟨yb, rfl, hyb, hq, hbk⟩; have hb2 : Below wz.heap.size wz k3 := hb1.trans (hq.mono hb1.size); have HYB := Lib.hid hyb; have HBK := Lib.hid hbk; clear hyb hq hbk; obtain ⟨ge20, ge21, ge22, ge23, ge24⟩ := c5of (HKE k3 hb2).out; obtain ⟨ga20, ga21, ga22, ga23, ga24⟩ := c5of (HKA k3 hb2).out; obtain ⟨gc20, gc21, gc22, gc23, gc24⟩ := c5of (HKC k3 hb2).out)
        | (go_at_call_of 20 al; refine (drop_one HV14.out HML.out key k3 (HQ k3 hb2).out.1 (HQ k3 hb2).out.2).mono ?_; rintro e k4 ⟨yc, rfl, hyc, hq⟩; have hb3 : Below wz.heap.size wz k4 := hb2.trans (hq.mono hb2.size); have HYC := Lib.hid hyc; have HYB2 := Lib.hid ((HYB.out.keep hq).mono hq.size); clear hyc hq; obtain ⟨ge30, ge31, ge32, ge33, ge34⟩ := c5of (HKE k4 hb3).out; obtain ⟨ga30, ga31, ga32, ga33, ga34⟩ := c5of (HKA k4 hb3).out; obtain ⟨gc30, gc31, gc32, gc33, gc34⟩ := c5of (HKC k4 hb3).out)
        | (go_at_call_of 20 al; refine (drop_blk HV14.out HML.out key k3 _ HBK.out (HQ k3 hb2).out.1 (HQ k3 hb2).out.2).mono ?_; rintro e k4 ⟨yc, rfl, hyc, hq⟩; have hb3 : Below wz.heap.size wz k4 := hb2.trans (hq.mono hb2.size); have HYC := Lib.hid hyc; have HYB2 := Lib.hid ((HYB.out.keep hq).mono hq.size); clear hyc hq; obtain ⟨ge30, ge31, ge32, ge33, ge34⟩ := c5of (HKE k4 hb3).out; obtain ⟨ga30, ga31, ga32, ga33, ga34⟩ := c5of (HKA k4 hb3).out; obtain ⟨gc30, gc31, gc32, gc33, gc34⟩ := c5of (HKC k4 hb3).out)
        | (go_at_call_of 19 yc; refine (same_any HYB2.out HYC.out _ (Below.refl _ _) (Nat.le_refl _) true (by simp [keepV, VT.k, VT.m, HFL.out.1])).mono ?_; rintro e k5 ⟨rfl, hq⟩; have hb4 : Below wz.heap.size wz k5 := hb3.trans (hq.mono hb3.size); clear hq; obtain ⟨ge40, ge41, ge42, ge43, ge44⟩ := c5of (HKE k5 hb4).out; obtain ⟨ga40, ga41, ga42, ga43, ga44⟩ := c5of (HKA k5 hb4).out; obtain ⟨gc40, gc41, gc42, gc43, gc44⟩ := c5of (HKC k5 hb4).out)
        | (go_at_call 21; refine (keep_one HWV.out HML2.out key _ (HQ k5 hb4).out.1 (HQ k5 hb4).out.2).mono ?_; rintro e k6 ⟨yd, rfl, hyd, hq⟩; have hb5 : Below wz.heap.size wz k6 := hb4.trans (hq.mono hb4.size); obtain ⟨zl, zc, zm, zp, hzd⟩ := keep_form HFL.out.2.1 hyd; subst hzd; clear hyd hq; obtain ⟨ge50, ge51, ge52, ge53, ge54⟩ := c5of (HKE k6 hb5).out; obtain ⟨ga50, ga51, ga52, ga53, ga54⟩ := c5of (HKA k6 hb5).out; obtain ⟨gc50, gc51, gc52, gc53, gc54⟩ := c5of (HKC k6 hb5).out))
    all_goals
      go_wp2
      go_ret
      exact ⟨rfl, HBz.out.trans (hb5.mono HBz.out.size)⟩
  | false =>
    have HLE := Lib.hid (show L2.length = L.length + 1 by have := HLN.out; rw [HBT.out] at this; simpa using this)
    go_wp2_with fail
    generalize hW17 : w16.alloc _ = w17
    have hq : Below w16.heap.size w16 w17 := by subst hW17; exact (Below.refl _ w16).alloc (Nat.le_refl _) _
    have HF17 := Lib.hid (show w17.heap[w16.heap.size]? = some (.cells #[.int .i64 yk, .int .i64 yn, .string ysx, .slice ya yl yp, .slice yb ym yq] 26 (0, 0)) by subst hW17; exact World.alloc_heap_new w16 _)
    have hz17 : w16.heap.size < w17.heap.size := by subst hW17; simp
    have HE17 := Lib.hid (box_keep HE16.out hq (by omega))
    have HA17 := Lib.hid (box_keep HA16.out hq (by omega))
    have HC17 := Lib.hid (box_keep HC16.out hq (by omega))
    have HB17 := Lib.hid (HB16.out.trans (hq.mono HB16.out.size))
    have HO17 := Lib.hid (HO16.out.trans (hq.mono HO16.out.size))
    clear hW17 hq x0 x1 x2 x3 x4 y0 y1 y2 y3 y4 z0 z1 z2 z3 z4
    have le17 : w.heap.size < w17.heap.size := by omega
    have la17 : w3.heap.size < w17.heap.size := by omega
    have lc17 : w14.heap.size < w17.heap.size := by omega
    have HXY := Lib.hid (show VAt w14.heap.size w14 tx (.agg #[d0, d1, d2, d3, d4]) from (HX.out.keep HB14.out).mono HB14.out.size)
    have HV14 := Lib.hid (show VAt w14.heap.size w14 (.mk 5 0 ⟨#[]⟩ [] L) (.agg #[.int .i64 5, .int .i64 0, .string ⟨#[]⟩, .slice al 0 cl, .slice am L.length cp]) from (HV.out.keep HN14.out).mono HN14.out.size)
    have HWVc := Lib.hid (show VAt w14.heap.size w14 (.mk 5 0 ⟨#[]⟩ [] L2) (.agg #[.int .i64 5, .int .i64 0, .string ⟨#[]⟩, .slice al2 0 cl2, .slice am2 L2.length cp2]) from HWV.out)
    have HFN := Lib.hid ((set_filt HLM.out.1 HL2M.out).2.2 HBT.out)
    have HML2 := Lib.hid (show L2.length ≤ 800000 by have h1 := HLE.out; have := HMLs.out; omega)
    have JDr := Lib.hid (show Below w17.heap.size w17 w17.drew from (Below.refl _ w17).drew)
    have JQ : ∀ x : World, Below w17.heap.size w17 x → Hid (Below w14.heap.size w14 x ∧ w14.heap.size ≤ x.heap.size) := fun x h => Lib.hid ⟨HO17.out.trans (h.mono HO17.out.size), Nat.le_trans HO17.out.size h.size⟩
    have JKE : ∀ x : World, Below w17.heap.size w17 x → Hid (x.heap[w.heap.size]? = some (.cells #[d0, d1, d2, d3, d4] 26 (0, 0))) := fun x h => Lib.hid (box_keep HE17.out h (by omega))
    have JKA : ∀ x : World, Below w17.heap.size w17 x → Hid (x.heap[w3.heap.size]? = some (.cells #[.int .i64 5, .int .i64 0, .string ⟨#[]⟩, .slice al 0 cl, .slice am L.length cp] 26 (0, 0))) := fun x h => Lib.hid (box_keep HA17.out h (by omega))
    have JKC : ∀ x : World, Below w17.heap.size w17 x → Hid (x.heap[w14.heap.size]? = some (.cells #[.int .i64 5, .int .i64 0, .string ⟨#[]⟩, .slice al2 0 cl2, .slice am2 L2.length cp2] 26 (0, 0))) := fun x h => Lib.hid (box_keep HC17.out h (by omega))
    have JKF : ∀ x : World, Below w17.heap.size w17 x → Hid (x.heap[w16.heap.size]? = some (.cells #[.int .i64 yk, .int .i64 yn, .string ysx, .slice ya yl yp, .slice yb ym yq] 26 (0, 0))) := fun x h => Lib.hid (box_keep HF17.out h (by omega))
    obtain ⟨x0, x1, x2, x3, x4⟩ := c5of HE17.out
    obtain ⟨y0, y1, y2, y3, y4⟩ := c5of HA17.out
    obtain ⟨z0, z1, z2, z3, z4⟩ := c5of HC17.out
    obtain ⟨v0, v1, v2, v3, v4⟩ := c5of HF17.out
    have JS0 := Lib.hid (show w17.drew.cell? ⟨w.heap.size, 0, none⟩ = some (d0) ∧ w17.drew.cell? ⟨w.heap.size, 1, none⟩ = some (d1) ∧ w17.drew.cell? ⟨w.heap.size, 2, none⟩ = some (d2) ∧ w17.drew.cell? ⟨w.heap.size, 3, none⟩ = some (d3) ∧ w17.drew.cell? ⟨w.heap.size, 4, none⟩ = some (d4) ∧ w17.drew.cell? ⟨w3.heap.size, 0, none⟩ = some (.int .i64 5) ∧ w17.drew.cell? ⟨w3.heap.size, 1, none⟩ = some (.int .i64 0) ∧ w17.drew.cell? ⟨w3.heap.size, 2, none⟩ = some (.string ⟨#[]⟩) ∧ w17.drew.cell? ⟨w3.heap.size, 3, none⟩ = some (.slice al 0 cl) ∧ w17.drew.cell? ⟨w3.heap.size, 4, none⟩ = some (.slice am L.length cp) ∧ w17.drew.cell? ⟨w14.heap.size, 0, none⟩ = some (.int .i64 5) ∧ w17.drew.cell? ⟨w14.heap.size, 1, none⟩ = some (.int .i64 0) ∧ w17.drew.cell? ⟨w14.heap.size, 2, none⟩ = some (.string ⟨#[]⟩) ∧ w17.drew.cell? ⟨w14.heap.size, 3, none⟩ = some (.slice al2 0 cl2) ∧ w17.drew.cell? ⟨w14.heap.size, 4, none⟩ = some (.slice am2 L2.length cp2) ∧ w17.drew.cell? ⟨w16.heap.size, 0, none⟩ = some (.int .i64 yk) ∧ w17.drew.cell? ⟨w16.heap.size, 1, none⟩ = some (.int .i64 yn) ∧ w17.drew.cell? ⟨w16.heap.size, 2, none⟩ = some (.string ysx) ∧ w17.drew.cell? ⟨w16.heap.size, 3, none⟩ = some (.slice ya yl yp) ∧ w17.drew.cell? ⟨w16.heap.size, 4, none⟩ = some (.slice yb ym yq) from ⟨x0, x1, x2, x3, x4, y0, y1, y2, y3, y4, z0, z1, z2, z3, z4, v0, v1, v2, v3, v4⟩)
    go_wp2_with fail
    rw [show wrap64 ((L.length : Int) + 1) = (L2.length : Int) by have := HLE.out; have := HMLs.out; unfold wrap64; omega]
    go_region_held3 (fun x => x.cell? ⟨w.heap.size, 0, none⟩ = some (d0) ∧ x.cell? ⟨w.heap.size, 1, none⟩ = some (d1) ∧ x.cell? ⟨w.heap.size, 2, none⟩ = some (d2) ∧ x.cell? ⟨w.heap.size, 3, none⟩ = some (d3) ∧ x.cell? ⟨w.heap.size, 4, none⟩ = some (d4) ∧ x.cell? ⟨w3.heap.size, 0, none⟩ = some (.int .i64 5) ∧ x.cell? ⟨w3.heap.size, 1, none⟩ = some (.int .i64 0) ∧ x.cell? ⟨w3.heap.size, 2, none⟩ = some (.string ⟨#[]⟩) ∧ x.cell? ⟨w3.heap.size, 3, none⟩ = some (.slice al 0 cl) ∧ x.cell? ⟨w3.heap.size, 4, none⟩ = some (.slice am L.length cp) ∧ x.cell? ⟨w14.heap.size, 0, none⟩ = some (.int .i64 5) ∧ x.cell? ⟨w14.heap.size, 1, none⟩ = some (.int .i64 0) ∧ x.cell? ⟨w14.heap.size, 2, none⟩ = some (.string ⟨#[]⟩) ∧ x.cell? ⟨w14.heap.size, 3, none⟩ = some (.slice al2 0 cl2) ∧ x.cell? ⟨w14.heap.size, 4, none⟩ = some (.slice am2 L2.length cp2) ∧ x.cell? ⟨w16.heap.size, 0, none⟩ = some (.int .i64 yk) ∧ x.cell? ⟨w16.heap.size, 1, none⟩ = some (.int .i64 yn) ∧ x.cell? ⟨w16.heap.size, 2, none⟩ = some (.string ysx) ∧ x.cell? ⟨w16.heap.size, 3, none⟩ = some (.slice ya yl yp) ∧ x.cell? ⟨w16.heap.size, 4, none⟩ = some (.slice yb ym yq))
      (first | with_reducible exact ⟨JS0.out.1, JS0.out.2.1, JS0.out.2.2.1, JS0.out.2.2.2.1, JS0.out.2.2.2.2.1, JS0.out.2.2.2.2.2.1, JS0.out.2.2.2.2.2.2.1, JS0.out.2.2.2.2.2.2.2.1, JS0.out.2.2.2.2.2.2.2.2.1, JS0.out.2.2.2.2.2.2.2.2.2.1, JS0.out.2.2.2.2.2.2.2.2.2.2.1, JS0.out.2.2.2.2.2.2.2.2.2.2.2.1, JS0.out.2.2.2.2.2.2.2.2.2.2.2.2.1, JS0.out.2.2.2.2.2.2.2.2.2.2.2.2.2.1, JS0.out.2.2.2.2.2.2.2.2.2.2.2.2.2.2.1, JS0.out.2.2.2.2.2.2.2.2.2.2.2.2.2.2.2.1, JS0.out.2.2.2.2.2.2.2.2.2.2.2.2.2.2.2.2.1, JS0.out.2.2.2.2.2.2.2.2.2.2.2.2.2.2.2.2.2.1, JS0.out.2.2.2.2.2.2.2.2.2.2.2.2.2.2.2.2.2.2.1, JS0.out.2.2.2.2.2.2.2.2.2.2.2.2.2.2.2.2.2.2.2⟩ | with_reducible exact ⟨by with_reducible assumption, by with_reducible assumption, by with_reducible assumption, by with_reducible assumption, by with_reducible assumption, by with_reducible assumption, by with_reducible assumption, by with_reducible assumption, by with_reducible assumption, by with_reducible assumption, by with_reducible assumption, by with_reducible assumption, by with_reducible assumption, by with_reducible assumption, by with_reducible assumption, by with_reducible assumption, by with_reducible assumption, by with_reducible assumption, by with_reducible assumption, by with_reducible assumption⟩ | go_keep)
      (first
        | (go_at_call 10; refine (vgood_any HWVc.out _ (JQ w17.drew JDr.out).out.1 (JQ w17.drew JDr.out).out.2 true (by simp [HGU.out])).mono ?_; rintro e g1 ⟨rfl, hq⟩; have jb0 : Below w17.heap.size w17 g1 := JDr.out.trans (hq.mono JDr.out.size); clear hq; obtain ⟨he00, he01, he02, he03, he04⟩ := c5of (JKE g1 jb0).out; obtain ⟨ha00, ha01, ha02, ha03, ha04⟩ := c5of (JKA g1 jb0).out; obtain ⟨hc00, hc01, hc02, hc03, hc04⟩ := c5of (JKC g1 jb0).out; obtain ⟨hf00, hf01, hf02, hf03, hf04⟩ := c5of (JKF g1 jb0).out)
        | (go_at_call_of 19 yk; refine (same_any HY.out HXY.out _ (JQ g1 jb0).out.1 (JQ g1 jb0).out.2 true (by simp)).mono ?_; rintro e g2 ⟨rfl, hq⟩; have jb1 : Below w17.heap.size w17 g2 := jb0.trans (hq.mono jb0.size); clear hq; obtain ⟨he10, he11, he12, he13, he14⟩ := c5of (JKE g2 jb1).out; obtain ⟨ha10, ha11, ha12, ha13, ha14⟩ := c5of (JKA g2 jb1).out; obtain ⟨hc10, hc11, hc12, hc13, hc14⟩ := c5of (JKC g2 jb1).out; obtain ⟨hf10, hf11, hf12, hf13, hf14⟩ := c5of (JKF g2 jb1).out)
        | (go_at_call 20; refine (drop_one HWVc.out HML2.out key g2 (JQ g2 jb1).out.1 (JQ g2 jb1).out.2).mono ?_; rintro e g3 ⟨yw, rfl, hyw, hq⟩; have jb2 : Below w17.heap.size w17 g3 := jb1.trans (hq.mono jb1.size); have HYW := Lib.hid hyw; clear hyw hq; obtain ⟨he20, he21, he22, he23, he24⟩ := c5of (JKE g3 jb2).out; obtain ⟨ha20, ha21, ha22, ha23, ha24⟩ := c5of (JKA g3 jb2).out; obtain ⟨hc20, hc21, hc22, hc23, hc24⟩ := c5of (JKC g3 jb2).out; obtain ⟨hf20, hf21, hf22, hf23, hf24⟩ := c5of (JKF g3 jb2).out)
        | (go_at_call_of 19 yw; refine (same_any HYW.out ((HV14.out.keep (JQ g3 jb2).out.1).mono (JQ g3 jb2).out.2) _ (Below.refl _ _) (Nat.le_refl _) true (by simp [keepV, VT.k, VT.m, HFN.out])).mono ?_; rintro e g4 ⟨rfl, hq⟩; have jb3 : Below w17.heap.size w17 g4 := jb2.trans (hq.mono jb2.size); clear hq; obtain ⟨he30, he31, he32, he33, he34⟩ := c5of (JKE g4 jb3).out; obtain ⟨ha30, ha31, ha32, ha33, ha34⟩ := c5of (JKA g4 jb3).out; obtain ⟨hc30, hc31, hc32, hc33, hc34⟩ := c5of (JKC g4 jb3).out; obtain ⟨hf30, hf31, hf32, hf33, hf34⟩ := c5of (JKF g4 jb3).out))
    clear x0 x1 x2 x3 x4 y0 y1 y2 y3 y4 z0 z1 z2 z3 z4 v0 v1 v2 v3 v4
    have HBz := Lib.hid (HB17.out.trans (jb3.mono HB17.out.size))
    have HOz := Lib.hid (HO17.out.trans (jb3.mono HO17.out.size))
    have HEz := Lib.hid (box_keep HE17.out jb3 (by omega))
    have HAz := Lib.hid (box_keep HA17.out jb3 (by omega))
    have HCz := Lib.hid (box_keep HC17.out jb3 (by omega))
    have hzE : w.heap.size < g4.heap.size := Nat.lt_of_lt_of_le le17 jb3.size
    have hzA : w3.heap.size < g4.heap.size := Nat.lt_of_lt_of_le la17 jb3.size
    have hzC : w14.heap.size < g4.heap.size := Nat.lt_of_lt_of_le lc17 jb3.size
    clear JKE JKA JKC JKF JQ JS0
    clear he00 he01 he02 he03 he04 ha00 ha01 ha02 ha03 ha04 hc00 hc01 hc02 hc03 hc04 hf00 hf01 hf02 hf03 hf04
    clear he10 he11 he12 he13 he14 ha10 ha11 ha12 ha13 ha14 hc10 hc11 hc12 hc13 hc14 hf10 hf11 hf12 hf13 hf14
    clear he20 he21 he22 he23 he24 ha20 ha21 ha22 ha23 ha24 hc20 hc21 hc22 hc23 hc24 hf20 hf21 hf22 hf23 hf24
    clear he30 he31 he32 he33 he34 ha30 ha31 ha32 ha33 ha34 hc30 hc31 hc32 hc33 hc34 hf30 hf31 hf32 hf33 hf34
    have HDr := Lib.hid (show Below g4.heap.size g4 g4.drew from (Below.refl _ g4).drew)
    have HQ : ∀ x : World, Below g4.heap.size g4 x → Hid (Below w14.heap.size w14 x ∧ w14.heap.size ≤ x.heap.size) := fun x h => Lib.hid ⟨HOz.out.trans (h.mono HOz.out.size), Nat.le_trans HOz.out.size h.size⟩
    have HKE : ∀ x : World, Below g4.heap.size g4 x → Hid (x.heap[w.heap.size]? = some (.cells #[d0, d1, d2, d3, d4] 26 (0, 0))) := fun x h => Lib.hid (box_keep HEz.out h (by omega))
    have HKA : ∀ x : World, Below g4.heap.size g4 x → Hid (x.heap[w3.heap.size]? = some (.cells #[.int .i64 5, .int .i64 0, .string ⟨#[]⟩, .slice al 0 cl, .slice am L.length cp] 26 (0, 0))) := fun x h => Lib.hid (box_keep HAz.out h (by omega))
    have HKC : ∀ x : World, Below g4.heap.size g4 x → Hid (x.heap[w14.heap.size]? = some (.cells #[.int .i64 5, .int .i64 0, .string ⟨#[]⟩, .slice al2 0 cl2, .slice am2 L2.length cp2] 26 (0, 0))) := fun x h => Lib.hid (box_keep HCz.out h (by omega))
    obtain ⟨x0, x1, x2, x3, x4⟩ := c5of HEz.out
    obtain ⟨y0, y1, y2, y3, y4⟩ := c5of HAz.out
    obtain ⟨z0, z1, z2, z3, z4⟩ := c5of HCz.out
    have HS0 := Lib.hid (show g4.drew.cell? ⟨w.heap.size, 0, none⟩ = some (d0) ∧ g4.drew.cell? ⟨w.heap.size, 1, none⟩ = some (d1) ∧ g4.drew.cell? ⟨w.heap.size, 2, none⟩ = some (d2) ∧ g4.drew.cell? ⟨w.heap.size, 3, none⟩ = some (d3) ∧ g4.drew.cell? ⟨w.heap.size, 4, none⟩ = some (d4) ∧ g4.drew.cell? ⟨w3.heap.size, 0, none⟩ = some (.int .i64 5) ∧ g4.drew.cell? ⟨w3.heap.size, 1, none⟩ = some (.int .i64 0) ∧ g4.drew.cell? ⟨w3.heap.size, 2, none⟩ = some (.string ⟨#[]⟩) ∧ g4.drew.cell? ⟨w3.heap.size, 3, none⟩ = some (.slice al 0 cl) ∧ g4.drew.cell? ⟨w3.heap.size, 4, none⟩ = some (.slice am L.length cp) ∧ g4.drew.cell? ⟨w14.heap.size, 0, none⟩ = some (.int .i64 5) ∧ g4.drew.cell? ⟨w14.heap.size, 1, none⟩ = some (.int .i64 0) ∧ g4.drew.cell? ⟨w14.heap.size, 2, none⟩ = some (.string ⟨#[]⟩) ∧ g4.drew.cell? ⟨w14.heap.size, 3, none⟩ = some (.slice al2 0 cl2) ∧ g4.drew.cell? ⟨w14.heap.size, 4, none⟩ = some (.slice am2 L2.length cp2) from ⟨x0, x1, x2, x3, x4, y0, y1, y2, y3, y4, z0, z1, z2, z3, z4⟩)
    have HFL := Lib.hid (set_filt HLM.out.1 HL2M.out)
    go_wp2_with fail
    have hfld := field_m
    go_region_held3 (fun x => x.cell? ⟨w.heap.size, 0, none⟩ = some (d0) ∧ x.cell? ⟨w.heap.size, 1, none⟩ = some (d1) ∧ x.cell? ⟨w.heap.size, 2, none⟩ = some (d2) ∧ x.cell? ⟨w.heap.size, 3, none⟩ = some (d3) ∧ x.cell? ⟨w.heap.size, 4, none⟩ = some (d4) ∧ x.cell? ⟨w3.heap.size, 0, none⟩ = some (.int .i64 5) ∧ x.cell? ⟨w3.heap.size, 1, none⟩ = some (.int .i64 0) ∧ x.cell? ⟨w3.heap.size, 2, none⟩ = some (.string ⟨#[]⟩) ∧ x.cell? ⟨w3.heap.size, 3, none⟩ = some (.slice al 0 cl) ∧ x.cell? ⟨w3.heap.size, 4, none⟩ = some (.slice am L.length cp) ∧ x.cell? ⟨w14.heap.size, 0, none⟩ = some (.int .i64 5) ∧ x.cell? ⟨w14.heap.size, 1, none⟩ = some (.int .i64 0) ∧ x.cell? ⟨w14.heap.size, 2, none⟩ = some (.string ⟨#[]⟩) ∧ x.cell? ⟨w14.heap.size, 3, none⟩ = some (.slice al2 0 cl2) ∧ x.cell? ⟨w14.heap.size, 4, none⟩ = some (.slice am2 L2.length cp2))
      (first | with_reducible exact ⟨HS0.out.1, HS0.out.2.1, HS0.out.2.2.1, HS0.out.2.2.2.1, HS0.out.2.2.2.2.1, HS0.out.2.2.2.2.2.1, HS0.out.2.2.2.2.2.2.1, HS0.out.2.2.2.2.2.2.2.1, HS0.out.2.2.2.2.2.2.2.2.1, HS0.out.2.2.2.2.2.2.2.2.2.1, HS0.out.2.2.2.2.2.2.2.2.2.2.1, HS0.out.2.2.2.2.2.2.2.2.2.2.2.1, HS0.out.2.2.2.2.2.2.2.2.2.2.2.2.1, HS0.out.2.2.2.2.2.2.2.2.2.2.2.2.2.1, HS0.out.2.2.2.2.2.2.2.2.2.2.2.2.2.2⟩ | with_reducible exact ⟨by with_reducible assumption, by with_reducible assumption, by with_reducible assumption, by with_reducible assumption, by with_reducible assumption, by with_reducible assumption, by with_reducible assumption, by with_reducible assumption, by with_reducible assumption, by with_reducible assumption, by with_reducible assumption, by with_reducible assumption, by with_reducible assumption, by with_reducible assumption, by with_reducible assumption⟩ | go_keep)
      (first
        | (go_at_call 22; refine (set_any HWV.out (fun _ => HL2M.out.1) HML2.out key HKS.out HXY.out _ (HQ g4.drew HDr.out).out.1 (HQ g4.drew HDr.out).out.2).mono ?_; rintro e k1 ⟨ya, ua, rfl, hua, hya, hq⟩; have hb0 : Below g4.heap.size g4 k1 := HDr.out.trans (hq.mono HDr.out.size); have HYA := Lib.hid (sets_again HL2M.out hua hya); clear hua hya hq; obtain ⟨ge00, ge01, ge02, ge03, ge04⟩ := c5of (HKE k1 hb0).out; obtain ⟨ga00, ga01, ga02, ga03, ga04⟩ := c5of (HKA k1 hb0).out; obtain ⟨gc00, gc01, gc02, gc03, gc04⟩ := c5of (HKC k1 hb0).out)
        | (go_at_call_of 19 ya; refine (same_any HYA.out ((HWV.out.keep (HQ k1 hb0).out.1).mono (HQ k1 hb0).out.2) _ (Below.refl _ _) (Nat.le_refl _) true (by simp)).mono ?_; rintro e k2 ⟨rfl, hq⟩; have hb1 : Below g4.heap.size g4 k2 := hb0.trans (hq.mono hb0.size); clear hq; obtain ⟨ge10, ge11, ge12, ge13, ge14⟩ := c5of (HKE k2 hb1).out; obtain ⟨ga10, ga11, ga12, ga13, ga14⟩ := c5of (HKA k2 hb1).out; obtain ⟨gc10, gc11, gc12, gc13, gc14⟩ := c5of (HKC k2 hb1).out)
        | (go_at_call_of 20 al2; refine (drop_one HWVc.out HML2.out key k2 (HQ k2 hb1).out.1 (HQ k2 hb1).out.2).mono ?_; rintro e k3 ⟨yb, rfl, hyb, hq⟩; have hb2 : Below g4.heap.size g4 k3 := hb1.trans (hq.mono hb1.size); have HYB := Lib.hid hyb; clear hyb hq; obtain ⟨ge20, ge21, ge22, ge23, ge24⟩ := c5of (HKE k3 hb2).out; obtain ⟨ga20, ga21, ga22, ga23, ga24⟩ := c5of (HKA k3 hb2).out; obtain ⟨gc20, gc21, gc22, gc23, gc24⟩ := c5of (HKC k3 hb2).out)
        | (go_at_call_of 20 al2; refine (drop_two HWVc.out HML2.out key k2 k2.heap.size (k2.heap.size + 1) (.inl ⟨rfl, rfl⟩) (HQ k2 hb1).out.1 (HQ k2 hb1).out.2).mono ?_; rintro e k3 ⟨yb, rfl, hyb, hq, hbk⟩; have hb2 : Below g4.heap.size g4 k3 := hb1.trans (hq.mono hb1.size); have HYB := Lib.hid hyb; have HBK := Lib.hid hbk; clear hyb hq hbk; obtain ⟨ge20, ge21, ge22, ge23, ge24⟩ := c5of (HKE k3 hb2).out; obtain ⟨ga20, ga21, ga22, ga23, ga24⟩ := c5of (HKA k3 hb2).out; obtain ⟨gc20, gc21, gc22, gc23, gc24⟩ := c5of (HKC k3 hb2).out)
        | (go_at_call_of 20 al2; refine (drop_two HWVc.out HML2.out key k2 (k2.heap.size + 1) k2.heap.size (.inr ⟨rfl, rfl⟩) (HQ k2 hb1).out.1 (HQ k2 hb1).out.2).mono ?_; rintro e k3 ⟨yb, rfl, hyb, hq, hbk⟩; have hb2 : Below g4.heap.size g4 k3 := hb1.trans (hq.mono hb1.size); have HYB := Lib.hid hyb; have HBK := Lib.hid hbk; clear hyb hq hbk; obtain ⟨ge20, ge21, ge22, ge23, ge24⟩ := c5of (HKE k3 hb2).out; obtain ⟨ga20, ga21, ga22, ga23, ga24⟩ := c5of (HKA k3 hb2).out; obtain ⟨gc20, gc21, gc22, gc23, gc24⟩ := c5of (HKC k3 hb2).out)
        | (go_at_call_of 20 al; refine (drop_one HV14.out HML.out key k3 (HQ k3 hb2).out.1 (HQ k3 hb2).out.2).mono ?_; rintro e k4 ⟨yc, rfl, hyc, hq⟩; have hb3 : Below g4.heap.size g4 k4 := hb2.trans (hq.mono hb2.size); have HYC := Lib.hid hyc; have HYB2 := Lib.hid ((HYB.out.keep hq).mono hq.size); clear hyc hq; obtain ⟨ge30, ge31, ge32, ge33, ge34⟩ := c5of (HKE k4 hb3).out; obtain ⟨ga30, ga31, ga32, ga33, ga34⟩ := c5of (HKA k4 hb3).out; obtain ⟨gc30, gc31, gc32, gc33, gc34⟩ := c5of (HKC k4 hb3).out)
        | (go_at_call_of 20 al; refine (drop_blk HV14.out HML.out key k3 _ HBK.out (HQ k3 hb2).out.1 (HQ k3 hb2).out.2).mono ?_; rintro e k4 ⟨yc, rfl, hyc, hq⟩; have hb3 : Below g4.heap.size g4 k4 := hb2.trans (hq.mono hb2.size); have HYC := Lib.hid hyc; have HYB2 := Lib.hid ((HYB.out.keep hq).mono hq.size); clear hyc hq; obtain ⟨ge30, ge31, ge32, ge33, ge34⟩ := c5of (HKE k4 hb3).out; obtain ⟨ga30, ga31, ga32, ga33, ga34⟩ := c5of (HKA k4 hb3).out; obtain ⟨gc30, gc31, gc32, gc33, gc34⟩ := c5of (HKC k4 hb3).out)
        | (go_at_call_of 19 yc; refine (same_any HYB2.out HYC.out _ (Below.refl _ _) (Nat.le_refl _) true (by simp [keepV, VT.k, VT.m, HFL.out.1])).mono ?_; rintro e k5 ⟨rfl, hq⟩; have hb4 : Below g4.heap.size g4 k5 := hb3.trans (hq.mono hb3.size); clear hq; obtain ⟨ge40, ge41, ge42, ge43, ge44⟩ := c5of (HKE k5 hb4).out; obtain ⟨ga40, ga41, ga42, ga43, ga44⟩ := c5of (HKA k5 hb4).out; obtain ⟨gc40, gc41, gc42, gc43, gc44⟩ := c5of (HKC k5 hb4).out)
        | (go_at_call 21; refine (keep_one HWV.out HML2.out key _ (HQ k5 hb4).out.1 (HQ k5 hb4).out.2).mono ?_; rintro e k6 ⟨yd, rfl, hyd, hq⟩; have hb5 : Below g4.heap.size g4 k6 := hb4.trans (hq.mono hb4.size); obtain ⟨zl, zc, zm, zp, hzd⟩ := keep_form HFL.out.2.1 hyd; subst hzd; clear hyd hq; obtain ⟨ge50, ge51, ge52, ge53, ge54⟩ := c5of (HKE k6 hb5).out; obtain ⟨ga50, ga51, ga52, ga53, ga54⟩ := c5of (HKA k6 hb5).out; obtain ⟨gc50, gc51, gc52, gc53, gc54⟩ := c5of (HKC k6 hb5).out))
    all_goals
      go_wp2
      go_ret
      exact ⟨rfl, HBz.out.trans (hb5.mono HBz.out.size)⟩
end Go.Proofs.Ythcphfpkinfjoaa

namespace Go.Proofs.Ythcphfpkinfjoaa
open Go.RowKit Go.Shelf
open Go.ChangeShapes Go.WideShapes Go.ChangeAt
open Go.ChangeMaps (open_string shut_string)

theorem setsw_true (m : List (ByteArray × VT)) (sv : Value) (cm : Nat → Nat → Value) (key : ByteArray) (tx : VT) (vx : Value) (w : World) (hm : MAt w.heap.size w m sv cm) (_ : key.size ≤ maxLen) (hx : VAt w.heap.size w tx vx) :
    Calls Try.prog 4 #[sv, .string key, vx] w fun e w' => e = .returned (.bool true) ∧ Below w.heap.size w w' := sets_true m sv cm key tx vx w hm hx
theorem setsw_own : ownKnob Try.prog.godebug = none := by kernel_rfl
theorem setsw_laid : laidOutB Try.prog = true := by kernel_rfl

set_option maxRecDepth 100000 in
theorem setsw_lifted (os : Os) (started : os.Started) (H : Type) (enc : TypeId × Value → H) :
    ReturnsInHanded {} Try.checked os 4 .any (Rows.valueSetsSpec.pre6 enc Try.prog Try.f4 Rows.valueSetsRow.domain false) (Rows.valueSetsSpec.post enc Try.prog Try.f4 false true false false) := by
  refine returnsInHanded_of_change_sized (C := Try.checked) setsw_own started (by kernel_rfl) Try.func4
    (ChangeSpec.witness6 (enc := enc) (C := Try.checked) false ⟨#[], #[.slice none 0 0, .string ByteArray.empty, .agg #[.int .i64 0, .int .i64 0, .string ⟨#[]⟩, .slice none 0 0, .slice none 0 0]], []⟩ 8 (by kernel_rfl) (by kernel_rfl) (by kernel_rfl) (by kernel_rfl)) ?_
  intro W base args ds gs before hval0 hW hcnd hsz0 _
  have hval : ∀ (j : Nat) t v, Try.f4.params[j]? = some t → args[j]? = some v → Value.okWide Try.prog W .any base t v := hval0
  have hW' := hW
  obtain ⟨p, q, hA0, hV, rfl, hfz, hnd⟩ := hW
  have hA : DataW.TrodAll enc Try.prog W 0 (fun _ => true) true Try.f4.params.toList args.toList ds p := hA0
  have hsz : (DataW.weightsEach Try.prog Try.f4.params.toList ds).all (· ≤ reachBytes) = true := by
    obtain ⟨rfl, rfl⟩ := trodVars_none hV
    rw [List.append_nil] at hsz0
    exact hsz0
  rw [Try.params4] at hA hval hsz
  obtain ⟨v0, vs0, d0, ds0, p0, q0, hargs, rfl, rfl, h0, r0⟩ := trodAll_cons hA
  obtain ⟨v1, vs1, d1, ds1, p1, q1, rfl, rfl, rfl, h1, r1⟩ := trodAll_cons r0
  obtain ⟨v2, vs2, d2, ds2, p2, q2, rfl, rfl, rfl, h2, r2⟩ := trodAll_cons r1
  obtain ⟨rfl, rfl, rfl⟩ := trodAll_nil r2
  obtain rfl : args = #[v0, v1, v2] := by cases args; simp_all
  obtain ⟨rfl, rfl⟩ := trodVars_none hV
  have hw0 : ∀ n ∈ d0.weights Try.prog 24, n ≤ reachBytes := fun n hn => by simpa using List.all_eq_true.1 hsz n (DataW.weights_mem_each (j := 0) rfl rfl n hn)
  have hlt0 : ∀ x ∈ p0, x.block < W.heap.size := fun x hx => hW'.lt x (by simp [hx])
  have hh0 := h0
  obtain ⟨m0, cm0, hv0⟩ : ∃ m cm, MAt W.heap.size W m v0 cm := by
    obtain ⟨fuel, hf⟩ := h0
    obtain ⟨aa, ll, cc, rfl⟩ := okWide_slice Try.underlying24 (hval 0 24 v0 rfl rfl)
    exact open_mems fuel _ (d0, p0) hf hw0
  have hsb1 : ∀ n ∈ d1.weights Try.prog 9, n ≤ reachBytes := fun n hn => by simpa using List.all_eq_true.1 hsz n (DataW.weights_mem_each (j := 1) rfl rfl n hn)
  obtain ⟨a1, rfl, rfl, rfl, w1⟩ := open_string Try.underlying9 (hval 1 9 v1 rfl rfl) h1
  have hw2 : ∀ n ∈ d2.weights Try.prog 26, n ≤ reachBytes := fun n hn => by simpa using List.all_eq_true.1 hsz n (DataW.weights_mem_each (j := 2) rfl rfl n hn)
  have hlt2 : ∀ x ∈ p2, x.block < W.heap.size := fun x hx => hW'.lt x (by simp [hx])
  have hh2 := h2
  obtain ⟨t2, hv2⟩ : ∃ t, VAt W.heap.size W t v2 := by
    obtain ⟨cs, rfl, hcs⟩ := okWide_struct Try.underlying26 (hval 2 26 v2 rfl rfl)
    obtain ⟨fuel, hf⟩ := h2
    obtain ⟨t, c0, c1, c2, c3, c4, hc, hv⟩ := open_val _ fuel _ (d2, p2) (Nat.lt_succ_self _) hf hw2
    refine ⟨t, ?_⟩
    have e : cs = #[c0, c1, c2, c3, c4] := by apply Array.toList_inj.1; simpa [Value.cells] using hc
    rw [e]; exact hv
  clear hA0 hval0 hsz0
  simp only [List.append_nil] at hW'
  refine (setsw_true m0 v0 cm0 a1 t2 v2 W hv0 w1 hv2).mono fun e W' ⟨he, bel⟩ => ?_
  subst he
  exact ⟨_, rfl, _, _, _, [], _, [], hW', trodAll_mk1 (shut_bool Try.underlying4 _), (trodAll_cons_mk (Below.trod setsw_laid (by kernel_rfl) (of_decide_eq_true (by kernel_rfl)) hh0 bel hlt0) (trodAll_cons_mk (shut_string Try.underlying9 w1) (trodAll_cons_mk (Below.trod setsw_laid (by kernel_rfl) (of_decide_eq_true (by kernel_rfl)) hh2 bel hlt2) trodAll_mk0))), rfl, bel.frame _, fun h => by cases h⟩

theorem setsw_holds : Rows.ValueSetsSaid :=
  OpenClaim.holds_of_wide 4 Try.f4 rfl rfl rfl rfl rfl rfl rfl ⟨rfl, rfl, rfl, rfl, rfl⟩ rfl rfl rfl rfl rfl (by kernel_rfl) Try.func4 (by kernel_rfl)
    (of_decide_eq_true (by kernel_rfl)) (by unfold Func.isWrapper; first | (rw [if_pos (by decide +kernel)]; kernel_rfl) | (rw [if_neg (by decide +kernel)]; exact ⟨rfl, rfl⟩))
    (fun os started H enc _ => setsw_lifted os started H enc)
#print axioms setsw_holds

end Go.Proofs.Ythcphfpkinfjoaa
