/-
  The statement ValueParts holds.
  The statement ValueParts holds: the row out of the walk.
  Conditions: none.
-/
import Derived.Test.YthncckdagmjjnaaRows
import Derived.Test.YthncckdagmjjnaaValOpen
import Derived.Test.YthncckdagmjjnaaValRk
import Derived.Test.YthncckdagmjjnaaValRg
import Derived.Test.YthncckdagmjjnaaValAw
import Derived.Test.YthncckdagmjjnaaValLi
import Derived.Test.YthncckdagmjjnaaValQ
import Derived.Deep.RegionHeld3
import Derived.ProofKit
import Derived.OpenShut
import Derived.ShutString
namespace Go.Proofs.Ythncckdagmjjnaa
open Go.RowKit Go.Shelf

section
open Go.ChangeShapes Go.WideShapes Go.Deep
variable {H : Type} {enc : TypeId × Value → H} {w : World}
theorem bytes_str : 1 ≤ Try.prog.bytesOf 9 := by decide +kernel
theorem oneL {l : List Value} (h : l.length = 1) : ∃ a, l = [a] := by
  match l, h with
  | [a], _ => exact ⟨a, rfl⟩
/-- Strings that came in. -/
theorem open_strs (fuel : Nat) (c : Value) (y : DataW H × List MemPlace) (h : DataW.trod enc Try.prog w 0 (fun _ => true) true fuel 48 [c] = some y) (hw : ∀ n ∈ y.1.weights Try.prog 48, n ≤ reachBytes) :
    ∃ ks : List ByteArray, StrAt w.heap.size w ks c := by
  obtain ⟨lm, nm, cfm, Dm, Pm, hrm, hem⟩ := open_row Try.underlying48 cells9 (by decide) bytes_str h hw
  have hM : ∀ i, i < lm → ∃ x : ByteArray, (cfm i).getD 0 undef = .string x := by
    intro i hi
    obtain ⟨h1, h2, h3, h4⟩ := hem i hi
    obtain ⟨d0, hcs⟩ := oneL h1
    rw [hcs] at h2
    obtain ⟨key, q0, -, -⟩ := DataW.trod_string Try.underlying9 h2
    cases q0
    exact ⟨key, by rw [hcs]; rfl⟩
  obtain ⟨tm, htm⟩ := @choose_lt ByteArray ⟨⟨#[]⟩⟩ _ _ hM
  refine ⟨(List.range lm).map tm, ?_⟩
  have hl : ((List.range lm).map tm).length = lm := by simp
  unfold StrAt
  rw [hl]
  rcases hrm with h0 | ⟨b, off, cap, h1, h2, h3, h4, h5, h6⟩
  · exact .inl h0
  · refine .inr ⟨b, off, cap, h1, h2, h3, h4, h5, fun i j hi hj => ?_⟩
    obtain rfl : j = 0 := by omega
    rw [h6 i 0 hi (by decide)]
    show some ((cfm i).getD 0 undef) = _
    rw [htm i hi]
    simp [hi]
end

theorem vAt_form {n₀ : Nat} {w : World} {t : VT} {y : Value} (h : VAt n₀ w t y) : ∃ (k n : Int) (s : ByteArray) (a1 : Option Addr) (l1 p1 : Nat) (a2 : Option Addr) (l2 p2 : Nat), y = .agg #[.int .i64 k, .int .i64 n, .string s, .slice a1 l1 p1, .slice a2 l2 p2] := MadeV.form (base := 0) (.inl h)
theorem good_asc {t : VT} (h : GoodV t) : t.k = 5 → Asc t.m := by
  intro h5
  obtain ⟨k, n, s, l, m⟩ := t
  obtain rfl : k = 5 := h5
  have h1 := ((goodV_iff _).1 h).2
  rw [May] at h1
  have h2 := h1.1
  unfold NodeOK at h2
  rcases h2 with h | h | h | h | h | h
  · omega
  · omega
  · omega
  · omega
  · omega
  · exact h.2.2.2.2.asc

set_option maxRecDepth 100000 in
set_option maxHeartbeats 8000000 in
theorem parts_true (t : VT) (v : Value) (key : ByteArray) (tx : VT) (vx : Value) (ks : List ByteArray) (sv : Value) (w : World) (hv : VAt w.heap.size w t v) (hx : VAt w.heap.size w tx vx) (hk : StrAt w.heap.size w ks sv) :
    Calls Try.prog 5 #[v, .string key, vx, sv] w fun e w' => e = .returned (.bool true) ∧ Below w.heap.size w w' := by
  obtain ⟨c0, c1, c2, c3, c4, rfl⟩ := vAt_agg hv
  obtain ⟨d0, d1, d2, d3, d4, rfl⟩ := vAt_agg hx
  obtain ⟨ao, kc, rfl, -⟩ := RowAt.form hk
  have HV := Lib.hid hv
  have HX := Lib.hid hx
  have HK := Lib.hid hk
  clear hv hx hk
  go_enter Try.func5, Try.ntmps5
  go_wp2_with fail
  generalize hW0 : (w.alloc _).alloc _ = W0
  have hb0 : Below w.heap.size w W0 := by subst hW0; exact ((Below.refl _ w).alloc (Nat.le_refl _) _).alloc (by simp) _
  have hv1 : W0.heap[w.heap.size]? = some (.cells #[c0, c1, c2, c3, c4] 26 (0, 0)) := by subst hW0; rw [Below.heap_alloc _ _ _ (by simp)]; exact World.alloc_heap_new w _
  have hv2 : W0.heap[w.heap.size + 1]? = some (.cells #[d0, d1, d2, d3, d4] 26 (0, 0)) := by
    subst hW0
    have := World.alloc_heap_new (w.alloc (.cells #[c0, c1, c2, c3, c4] 26)) (.cells #[d0, d1, d2, d3, d4] 26)
    rwa [World.size_alloc] at this
  have hz0 : w.heap.size + 1 < W0.heap.size := by subst hW0; simp
  have HA0 := Lib.hid hv1
  have HE0 := Lib.hid hv2
  have HB0 := Lib.hid hb0
  clear hW0 hb0 hv1 hv2
  refine (awake_true _).mono ?_
  rintro e w1 ⟨rfl, hq⟩
  have HA1 := Lib.hid (box_keep HA0.out hq (by omega))
  have HE1 := Lib.hid (box_keep HE0.out hq (by omega))
  have HB1 := Lib.hid (HB0.out.trans (hq.mono HB0.out.size))
  have hz1 : w.heap.size + 1 < w1.heap.size := Nat.lt_of_lt_of_le hz0 hq.size
  clear hq
  obtain ⟨x0, x1, x2, x3, x4⟩ := c5of HA1.out
  obtain ⟨y0, y1, y2, y3, y4⟩ := c5of HE1.out
  go_wp2_with fail
  obtain ⟨r, hr⟩ : ∃ r : Bool, r = true ↔ wt 800 71 t ≤ 800 := by classical exact ⟨decide (wt 800 71 t ≤ 800), by rw [decide_eq_true_iff]⟩
  refine (light_any HV.out w1 HB1.out HB1.out.size r hr).mono ?_
  rintro e w2 ⟨rfl, hq⟩
  have HA2 := Lib.hid (box_keep HA1.out hq (by omega))
  have HE2 := Lib.hid (box_keep HE1.out hq (by omega))
  have HB2 := Lib.hid (HB1.out.trans (hq.mono HB1.out.size))
  have hz2 : w.heap.size + 1 < w2.heap.size := Nat.lt_of_lt_of_le hz1 hq.size
  clear hq
  clear x0 x1 x2 x3 x4 y0 y1 y2 y3 y4
  cases r with
  | false =>
    clear hr
    go_wp2
    go_ret
    exact ⟨rfl, HB2.out⟩
  | true =>
  have HL1 := Lib.hid (hr.1 rfl)
  clear hr
  obtain ⟨x0, x1, x2, x3, x4⟩ := c5of HA2.out
  obtain ⟨y0, y1, y2, y3, y4⟩ := c5of HE2.out
  go_wp2_with fail
  obtain ⟨r, hr⟩ : ∃ r : Bool, r = true ↔ wt 800 71 tx ≤ 800 := by classical exact ⟨decide (wt 800 71 tx ≤ 800), by rw [decide_eq_true_iff]⟩
  refine (light_any HX.out w2 HB2.out HB2.out.size r hr).mono ?_
  rintro e w3 ⟨rfl, hq⟩
  have HA3 := Lib.hid (box_keep HA2.out hq (by omega))
  have HE3 := Lib.hid (box_keep HE2.out hq (by omega))
  have HB3 := Lib.hid (HB2.out.trans (hq.mono HB2.out.size))
  have hz3 : w.heap.size + 1 < w3.heap.size := Nat.lt_of_lt_of_le hz2 hq.size
  clear hq
  clear x0 x1 x2 x3 x4 y0 y1 y2 y3 y4
  cases r with
  | false =>
    clear hr
    go_wp2
    go_ret
    exact ⟨rfl, HB3.out⟩
  | true =>
  have HL2 := Lib.hid (hr.1 rfl)
  clear hr
  obtain ⟨x0, x1, x2, x3, x4⟩ := c5of HA3.out
  obtain ⟨y0, y1, y2, y3, y4⟩ := c5of HE3.out
  by_cases hk20 : 20 < (ks.length : Int)
  · go_wp2
    go_ret
    exact ⟨rfl, HB3.out⟩
  by_cases hk100 : 100 < (key.size : Int)
  · go_wp2
    go_ret
    exact ⟨rfl, HB3.out⟩
  clear x0 x1 x2 x3 x4 y0 y1 y2 y3 y4
  obtain ⟨x0, x1, x2, x3, x4⟩ := c5of HA3.out
  obtain ⟨y0, y1, y2, y3, y4⟩ := c5of HE3.out
  go_wp2_with fail
  obtain ⟨r, hr⟩ : ∃ r : Bool, r = true ↔ GoodV t := by classical exact ⟨decide (GoodV t), by rw [decide_eq_true_iff]⟩
  refine (vgood_any HV.out w3 HB3.out HB3.out.size r hr).mono ?_
  rintro e w4 ⟨rfl, hq⟩
  have HA4 := Lib.hid (box_keep HA3.out hq (by omega))
  have HE4 := Lib.hid (box_keep HE3.out hq (by omega))
  have HB4 := Lib.hid (HB3.out.trans (hq.mono HB3.out.size))
  have hz4 : w.heap.size + 1 < w4.heap.size := Nat.lt_of_lt_of_le hz3 hq.size
  clear hq
  clear x0 x1 x2 x3 x4 y0 y1 y2 y3 y4
  cases r with
  | false =>
    clear hr
    go_wp2
    go_ret
    exact ⟨rfl, HB4.out⟩
  | true =>
  have HG1 := Lib.hid (hr.1 rfl)
  clear hr
  obtain ⟨x0, x1, x2, x3, x4⟩ := c5of HA4.out
  obtain ⟨y0, y1, y2, y3, y4⟩ := c5of HE4.out
  go_wp2_with fail
  obtain ⟨r, hr⟩ : ∃ r : Bool, r = true ↔ GoodV tx := by classical exact ⟨decide (GoodV tx), by rw [decide_eq_true_iff]⟩
  refine (vgood_any HX.out w4 HB4.out HB4.out.size r hr).mono ?_
  rintro e w5 ⟨rfl, hq⟩
  have HA5 := Lib.hid (box_keep HA4.out hq (by omega))
  have HE5 := Lib.hid (box_keep HE4.out hq (by omega))
  have HB5 := Lib.hid (HB4.out.trans (hq.mono HB4.out.size))
  have hz5 : w.heap.size + 1 < w5.heap.size := Nat.lt_of_lt_of_le hz4 hq.size
  clear hq
  clear x0 x1 x2 x3 x4 y0 y1 y2 y3 y4
  cases r with
  | false =>
    clear hr
    go_wp2
    go_ret
    exact ⟨rfl, HB5.out⟩
  | true =>
  have HG2 := Lib.hid (hr.1 rfl)
  clear hr
  have HAS := Lib.hid (good_asc HG1.out)
  have HML := Lib.hid (show t.m.length ≤ 800000 by have := (light_len _ HL1.out).1; omega)
  have HKS := Lib.hid (show key.size ≤ sMax by have : sMax = 140737488355328 := rfl; omega)
  obtain ⟨x0, x1, x2, x3, x4⟩ := c5of HA5.out
  obtain ⟨y0, y1, y2, y3, y4⟩ := c5of HE5.out
  go_wp2_with fail
  refine (get_any HV.out HAS.out key w5 HB5.out HB5.out.size).mono ?_
  rintro e w6 ⟨⟨xa, rfl, hxa⟩, hq⟩
  obtain ⟨ak, an, asx, aa, al, ap, ab, am, aq, rfl⟩ := vAt_form hxa
  have HA6 := Lib.hid (box_keep HA5.out hq (by omega))
  have HE6 := Lib.hid (box_keep HE5.out hq (by omega))
  have HB6 := Lib.hid (HB5.out.trans (hq.mono HB5.out.size))
  have hz6 : w.heap.size + 1 < w6.heap.size := Nat.lt_of_lt_of_le hz5 hq.size
  have HXA := Lib.hid hxa
  clear hq hxa
  clear x0 x1 x2 x3 x4 y0 y1 y2 y3 y4
  obtain ⟨x0, x1, x2, x3, x4⟩ := c5of HA6.out
  obtain ⟨y0, y1, y2, y3, y4⟩ := c5of HE6.out
  have lz6 : w.heap.size < w6.heap.size := by omega
  go_wp2_with fail
  generalize hW7 : w6.alloc _ = w7
  have hq : Below w6.heap.size w6 w7 := by subst hW7; exact (Below.refl _ w6).alloc (Nat.le_refl _) _
  have HC7 := Lib.hid (show w7.heap[w6.heap.size]? = some (.cells #[.int .i64 ak, .int .i64 an, .string asx, .slice aa al ap, .slice ab am aq] 26 (0, 0)) by subst hW7; exact World.alloc_heap_new w6 _)
  have hz7 : w6.heap.size < w7.heap.size := by subst hW7; simp
  have HA7 := Lib.hid (box_keep HA6.out hq (by omega))
  have HE7 := Lib.hid (box_keep HE6.out hq (by omega))
  have HB7 := Lib.hid (HB6.out.trans (hq.mono HB6.out.size))
  clear hW7 hq
  clear x0 x1 x2 x3 x4 y0 y1 y2 y3 y4
  refine (rget_any HV.out key w7 HB7.out HB7.out.size).mono ?_
  rintro e w8 ⟨⟨xb, rfl, hxb⟩, hq⟩
  obtain ⟨bk, bn, bsx, ba, bl, bp, bb, bm, bq, rfl⟩ := vAt_form hxb
  have HA8 := Lib.hid (box_keep HA7.out hq (by omega))
  have HE8 := Lib.hid (box_keep HE7.out hq (by omega))
  have HC8 := Lib.hid (box_keep HC7.out hq (by omega))
  have HB8 := Lib.hid (HB7.out.trans (hq.mono HB7.out.size))
  have hz8 : w6.heap.size < w8.heap.size := Nat.lt_of_lt_of_le hz7 hq.size
  have HXB := Lib.hid hxb
  clear hq hxb
  obtain ⟨x0, x1, x2, x3, x4⟩ := c5of HA8.out
  obtain ⟨y0, y1, y2, y3, y4⟩ := c5of HE8.out
  obtain ⟨z0, z1, z2, z3, z4⟩ := c5of HC8.out
  have lz8 : w.heap.size < w8.heap.size := by omega
  have my8 : w.heap.size + 1 < w8.heap.size := by omega
  go_wp2_with fail
  generalize hW9 : w8.alloc _ = w9
  have hq : Below w8.heap.size w8 w9 := by subst hW9; exact (Below.refl _ w8).alloc (Nat.le_refl _) _
  have HD9 := Lib.hid (show w9.heap[w8.heap.size]? = some (.cells #[.int .i64 bk, .int .i64 bn, .string bsx, .slice ba bl bp, .slice bb bm bq] 26 (0, 0)) by subst hW9; exact World.alloc_heap_new w8 _)
  have hz9 : w8.heap.size < w9.heap.size := by subst hW9; simp
  have HA9 := Lib.hid (box_keep HA8.out hq (by omega))
  have HE9 := Lib.hid (box_keep HE8.out hq (by omega))
  have HC9 := Lib.hid (box_keep HC8.out hq (by omega))
  have HB9 := Lib.hid (HB8.out.trans (hq.mono HB8.out.size))
  clear hW9 hq
  clear x0 x1 x2 x3 x4 y0 y1 y2 y3 y4 z0 z1 z2 z3 z4
  obtain ⟨st, bt, het⟩ : ∃ st bt, textAtV t key = (st, bt) := ⟨_, _, rfl⟩
  obtain ⟨nt, bi, hen⟩ : ∃ nt bi, intAtV t key = (nt, bi) := ⟨_, _, rfl⟩
  have HET := Lib.hid het
  have HEN := Lib.hid hen
  clear het hen
  have hc := textAt_any HV.out HAS.out key w9 HB9.out HB9.out.size
  rw [HET.out] at hc
  refine hc.mono ?_
  clear hc
  rintro e w10 ⟨rfl, hq⟩
  have HA10 := Lib.hid (box_keep HA9.out hq (by omega))
  have HE10 := Lib.hid (box_keep HE9.out hq (by omega))
  have HC10 := Lib.hid (box_keep HC9.out hq (by omega))
  have HD10 := Lib.hid (box_keep HD9.out hq (by omega))
  have HB10 := Lib.hid (HB9.out.trans (hq.mono HB9.out.size))
  have hz10 : w8.heap.size < w10.heap.size := Nat.lt_of_lt_of_le hz9 hq.size
  clear hq
  obtain ⟨x0, x1, x2, x3, x4⟩ := c5of HA10.out
  obtain ⟨y0, y1, y2, y3, y4⟩ := c5of HE10.out
  obtain ⟨z0, z1, z2, z3, z4⟩ := c5of HC10.out
  obtain ⟨u0, u1, u2, u3, u4⟩ := c5of HD10.out
  go_wp2_with fail
  clear x0 x1 x2 x3 x4 y0 y1 y2 y3 y4 z0 z1 z2 z3 z4 u0 u1 u2 u3 u4
  have hc := rtextAt_any HV.out key w10 HB10.out HB10.out.size
  rw [HET.out] at hc
  refine hc.mono ?_
  clear hc
  rintro e w11 ⟨rfl, hq⟩
  have HA11 := Lib.hid (box_keep HA10.out hq (by omega))
  have HE11 := Lib.hid (box_keep HE10.out hq (by omega))
  have HC11 := Lib.hid (box_keep HC10.out hq (by omega))
  have HD11 := Lib.hid (box_keep HD10.out hq (by omega))
  have HB11 := Lib.hid (HB10.out.trans (hq.mono HB10.out.size))
  have hz11 : w8.heap.size < w11.heap.size := Nat.lt_of_lt_of_le hz10 hq.size
  clear hq
  obtain ⟨x0, x1, x2, x3, x4⟩ := c5of HA11.out
  obtain ⟨y0, y1, y2, y3, y4⟩ := c5of HE11.out
  obtain ⟨z0, z1, z2, z3, z4⟩ := c5of HC11.out
  obtain ⟨u0, u1, u2, u3, u4⟩ := c5of HD11.out
  go_wp2_with fail
  clear x0 x1 x2 x3 x4 y0 y1 y2 y3 y4 z0 z1 z2 z3 z4 u0 u1 u2 u3 u4
  have hc := intAt_any HV.out HAS.out key w11 HB11.out HB11.out.size
  rw [HEN.out] at hc
  refine hc.mono ?_
  clear hc
  rintro e w12 ⟨rfl, hq⟩
  have HA12 := Lib.hid (box_keep HA11.out hq (by omega))
  have HE12 := Lib.hid (box_keep HE11.out hq (by omega))
  have HC12 := Lib.hid (box_keep HC11.out hq (by omega))
  have HD12 := Lib.hid (box_keep HD11.out hq (by omega))
  have HB12 := Lib.hid (HB11.out.trans (hq.mono HB11.out.size))
  have hz12 : w8.heap.size < w12.heap.size := Nat.lt_of_lt_of_le hz11 hq.size
  clear hq
  obtain ⟨x0, x1, x2, x3, x4⟩ := c5of HA12.out
  obtain ⟨y0, y1, y2, y3, y4⟩ := c5of HE12.out
  obtain ⟨z0, z1, z2, z3, z4⟩ := c5of HC12.out
  obtain ⟨u0, u1, u2, u3, u4⟩ := c5of HD12.out
  go_wp2_with fail
  clear x0 x1 x2 x3 x4 y0 y1 y2 y3 y4 z0 z1 z2 z3 z4 u0 u1 u2 u3 u4
  have hc := rintAt_any HV.out key w12 HB12.out HB12.out.size
  rw [HEN.out] at hc
  refine hc.mono ?_
  clear hc
  rintro e w13 ⟨rfl, hq⟩
  have HA13 := Lib.hid (box_keep HA12.out hq (by omega))
  have HE13 := Lib.hid (box_keep HE12.out hq (by omega))
  have HC13 := Lib.hid (box_keep HC12.out hq (by omega))
  have HD13 := Lib.hid (box_keep HD12.out hq (by omega))
  have HB13 := Lib.hid (HB12.out.trans (hq.mono HB12.out.size))
  have hz13 : w8.heap.size < w13.heap.size := Nat.lt_of_lt_of_le hz12 hq.size
  clear hq
  obtain ⟨x0, x1, x2, x3, x4⟩ := c5of HA13.out
  obtain ⟨y0, y1, y2, y3, y4⟩ := c5of HE13.out
  obtain ⟨z0, z1, z2, z3, z4⟩ := c5of HC13.out
  obtain ⟨u0, u1, u2, u3, u4⟩ := c5of HD13.out
  have HD13' := Lib.hid (show Below w13.heap.size w13 w13.drew from (Below.refl _ w13).drew)
  have HQ : ∀ x : World, Below w13.heap.size w13 x → Hid (Below w.heap.size w x ∧ w.heap.size ≤ x.heap.size) := fun x h => Lib.hid ⟨HB13.out.trans (h.mono (by omega)), Nat.le_trans (by omega) h.size⟩
  have HKA : ∀ x : World, Below w13.heap.size w13 x → Hid (x.heap[w.heap.size]? = some (.cells #[c0, c1, c2, c3, c4] 26 (0, 0))) := fun x h => Lib.hid (box_keep HA13.out h (by omega))
  have HKE : ∀ x : World, Below w13.heap.size w13 x → Hid (x.heap[w.heap.size + 1]? = some (.cells #[d0, d1, d2, d3, d4] 26 (0, 0))) := fun x h => Lib.hid (box_keep HE13.out h (by omega))
  have HKC : ∀ x : World, Below w13.heap.size w13 x → Hid (x.heap[w6.heap.size]? = some (.cells #[.int .i64 ak, .int .i64 an, .string asx, .slice aa al ap, .slice ab am aq] 26 (0, 0))) := fun x h => Lib.hid (box_keep HC13.out h (by omega))
  have HKD : ∀ x : World, Below w13.heap.size w13 x → Hid (x.heap[w8.heap.size]? = some (.cells #[.int .i64 bk, .int .i64 bn, .string bsx, .slice ba bl bp, .slice bb bm bq] 26 (0, 0))) := fun x h => Lib.hid (box_keep HD13.out h (by omega))
  have hkl : ks.length ≤ 1000000 := by omega
  generalize (getV t key).isSome = bg
  have HS0 := Lib.hid (show w13.drew.cell? ⟨w.heap.size, 0, none⟩ = some (c0) ∧ w13.drew.cell? ⟨w.heap.size, 1, none⟩ = some (c1) ∧ w13.drew.cell? ⟨w.heap.size, 2, none⟩ = some (c2) ∧ w13.drew.cell? ⟨w.heap.size, 3, none⟩ = some (c3) ∧ w13.drew.cell? ⟨w.heap.size, 4, none⟩ = some (c4) ∧ w13.drew.cell? ⟨w.heap.size + 1, 0, none⟩ = some (d0) ∧ w13.drew.cell? ⟨w.heap.size + 1, 1, none⟩ = some (d1) ∧ w13.drew.cell? ⟨w.heap.size + 1, 2, none⟩ = some (d2) ∧ w13.drew.cell? ⟨w.heap.size + 1, 3, none⟩ = some (d3) ∧ w13.drew.cell? ⟨w.heap.size + 1, 4, none⟩ = some (d4) ∧ w13.drew.cell? ⟨w6.heap.size, 0, none⟩ = some (.int .i64 ak) ∧ w13.drew.cell? ⟨w6.heap.size, 1, none⟩ = some (.int .i64 an) ∧ w13.drew.cell? ⟨w6.heap.size, 2, none⟩ = some (.string asx) ∧ w13.drew.cell? ⟨w6.heap.size, 3, none⟩ = some (.slice aa al ap) ∧ w13.drew.cell? ⟨w6.heap.size, 4, none⟩ = some (.slice ab am aq) ∧ w13.drew.cell? ⟨w8.heap.size, 0, none⟩ = some (.int .i64 bk) ∧ w13.drew.cell? ⟨w8.heap.size, 1, none⟩ = some (.int .i64 bn) ∧ w13.drew.cell? ⟨w8.heap.size, 2, none⟩ = some (.string bsx) ∧ w13.drew.cell? ⟨w8.heap.size, 3, none⟩ = some (.slice ba bl bp) ∧ w13.drew.cell? ⟨w8.heap.size, 4, none⟩ = some (.slice bb bm bq) from ⟨x0, x1, x2, x3, x4, y0, y1, y2, y3, y4, z0, z1, z2, z3, z4, u0, u1, u2, u3, u4⟩)
  obtain ⟨rs, hrs⟩ : ∃ r : Bool, r = true ↔ t = tx := by classical exact ⟨decide (t = tx), by rw [decide_eq_true_iff]⟩
  have HRS := Lib.hid hrs
  clear hrs
  go_wp2_with fail
  simp only [List.append]
  go_region_held3 (fun x => x.cell? ⟨w.heap.size, 0, none⟩ = some (c0) ∧ x.cell? ⟨w.heap.size, 1, none⟩ = some (c1) ∧ x.cell? ⟨w.heap.size, 2, none⟩ = some (c2) ∧ x.cell? ⟨w.heap.size, 3, none⟩ = some (c3) ∧ x.cell? ⟨w.heap.size, 4, none⟩ = some (c4) ∧ x.cell? ⟨w.heap.size + 1, 0, none⟩ = some (d0) ∧ x.cell? ⟨w.heap.size + 1, 1, none⟩ = some (d1) ∧ x.cell? ⟨w.heap.size + 1, 2, none⟩ = some (d2) ∧ x.cell? ⟨w.heap.size + 1, 3, none⟩ = some (d3) ∧ x.cell? ⟨w.heap.size + 1, 4, none⟩ = some (d4) ∧ x.cell? ⟨w6.heap.size, 0, none⟩ = some (.int .i64 ak) ∧ x.cell? ⟨w6.heap.size, 1, none⟩ = some (.int .i64 an) ∧ x.cell? ⟨w6.heap.size, 2, none⟩ = some (.string asx) ∧ x.cell? ⟨w6.heap.size, 3, none⟩ = some (.slice aa al ap) ∧ x.cell? ⟨w6.heap.size, 4, none⟩ = some (.slice ab am aq) ∧ x.cell? ⟨w8.heap.size, 0, none⟩ = some (.int .i64 bk) ∧ x.cell? ⟨w8.heap.size, 1, none⟩ = some (.int .i64 bn) ∧ x.cell? ⟨w8.heap.size, 2, none⟩ = some (.string bsx) ∧ x.cell? ⟨w8.heap.size, 3, none⟩ = some (.slice ba bl bp) ∧ x.cell? ⟨w8.heap.size, 4, none⟩ = some (.slice bb bm bq))
    (first | with_reducible exact ⟨HS0.out.1, HS0.out.2.1, HS0.out.2.2.1, HS0.out.2.2.2.1, HS0.out.2.2.2.2.1, HS0.out.2.2.2.2.2.1, HS0.out.2.2.2.2.2.2.1, HS0.out.2.2.2.2.2.2.2.1, HS0.out.2.2.2.2.2.2.2.2.1, HS0.out.2.2.2.2.2.2.2.2.2.1, HS0.out.2.2.2.2.2.2.2.2.2.2.1, HS0.out.2.2.2.2.2.2.2.2.2.2.2.1, HS0.out.2.2.2.2.2.2.2.2.2.2.2.2.1, HS0.out.2.2.2.2.2.2.2.2.2.2.2.2.2.1, HS0.out.2.2.2.2.2.2.2.2.2.2.2.2.2.2.1, HS0.out.2.2.2.2.2.2.2.2.2.2.2.2.2.2.2.1, HS0.out.2.2.2.2.2.2.2.2.2.2.2.2.2.2.2.2.1, HS0.out.2.2.2.2.2.2.2.2.2.2.2.2.2.2.2.2.2.1, HS0.out.2.2.2.2.2.2.2.2.2.2.2.2.2.2.2.2.2.2.1, HS0.out.2.2.2.2.2.2.2.2.2.2.2.2.2.2.2.2.2.2.2⟩ | with_reducible exact ⟨by with_reducible assumption, by with_reducible assumption, by with_reducible assumption, by with_reducible assumption, by with_reducible assumption, by with_reducible assumption, by with_reducible assumption, by with_reducible assumption, by with_reducible assumption, by with_reducible assumption, by with_reducible assumption, by with_reducible assumption, by with_reducible assumption, by with_reducible assumption, by with_reducible assumption, by with_reducible assumption, by with_reducible assumption, by with_reducible assumption, by with_reducible assumption, by with_reducible assumption⟩ | go_keep)
    (first
      | (go_at_call_of 32 ak; refine (rsame_any HXA.out HXB.out _ (HQ w13.drew HD13'.out).out.1 (HQ w13.drew HD13'.out).out.2 true (by simp)).mono ?_; rintro e w14 ⟨rfl, hq⟩; have hb14 : Below w13.heap.size w13 w14 := (HD13'.out).trans (hq.mono (HD13'.out).size);  clear hq; obtain ⟨ga14_0, ga14_1, ga14_2, ga14_3, ga14_4⟩ := c5of (HKA w14 hb14).out; obtain ⟨ge14_0, ge14_1, ge14_2, ge14_3, ge14_4⟩ := c5of (HKE w14 hb14).out; obtain ⟨gc14_0, gc14_1, gc14_2, gc14_3, gc14_4⟩ := c5of (HKC w14 hb14).out; obtain ⟨gd14_0, gd14_1, gd14_2, gd14_3, gd14_4⟩ := c5of (HKD w14 hb14).out)
      | (go_at_call 27; refine (set_any HV.out HAS.out HML.out key HKS.out HX.out _ (HQ w14 hb14).out.1 (HQ w14 hb14).out.2).mono ?_; rintro e w15 ⟨ya, ua, rfl, hua, hya, hq⟩; have hb15 : Below w13.heap.size w13 w15 := (hb14).trans (hq.mono (hb14).size); have HUA := Lib.hid hua; have HYA := Lib.hid hya; clear hua hya; clear hq; obtain ⟨ga15_0, ga15_1, ga15_2, ga15_3, ga15_4⟩ := c5of (HKA w15 hb15).out; obtain ⟨ge15_0, ge15_1, ge15_2, ge15_3, ge15_4⟩ := c5of (HKE w15 hb15).out; obtain ⟨gc15_0, gc15_1, gc15_2, gc15_3, gc15_4⟩ := c5of (HKC w15 hb15).out; obtain ⟨gd15_0, gd15_1, gd15_2, gd15_3, gd15_4⟩ := c5of (HKD w15 hb15).out)
      | (go_at_call 37; refine (rset_any HV.out HML.out key HKS.out HX.out _ (HQ w15 hb15).out.1 (HQ w15 hb15).out.2).mono ?_; rintro e w16 ⟨yb, ub, rfl, hub, hyb, hq⟩; have hb16 : Below w13.heap.size w13 w16 := (hb15).trans (hq.mono (hb15).size); have HUB := Lib.hid (HUA.out.unique hub); have HYB := Lib.hid hyb; have HYA2 := Lib.hid ((HYA.out.keep hq).mono hq.size); clear hub hyb; clear hq; obtain ⟨ga16_0, ga16_1, ga16_2, ga16_3, ga16_4⟩ := c5of (HKA w16 hb16).out; obtain ⟨ge16_0, ge16_1, ge16_2, ge16_3, ge16_4⟩ := c5of (HKE w16 hb16).out; obtain ⟨gc16_0, gc16_1, gc16_2, gc16_3, gc16_4⟩ := c5of (HKC w16 hb16).out; obtain ⟨gd16_0, gd16_1, gd16_2, gd16_3, gd16_4⟩ := c5of (HKD w16 hb16).out)
      | (go_at_call_of 32 yb; refine (rsame_any HYA2.out HYB.out _ (Below.refl _ _) (Nat.le_refl _) true (by simp [HUB.out])).mono ?_; rintro e w17 ⟨rfl, hq⟩; have hb17 : Below w13.heap.size w13 w17 := (hb16).trans (hq.mono (hb16).size);  clear hq; obtain ⟨ga17_0, ga17_1, ga17_2, ga17_3, ga17_4⟩ := c5of (HKA w17 hb17).out; obtain ⟨ge17_0, ge17_1, ge17_2, ge17_3, ge17_4⟩ := c5of (HKE w17 hb17).out; obtain ⟨gc17_0, gc17_1, gc17_2, gc17_3, gc17_4⟩ := c5of (HKC w17 hb17).out; obtain ⟨gd17_0, gd17_1, gd17_2, gd17_3, gd17_4⟩ := c5of (HKD w17 hb17).out)
      | (go_at_call 26; refine (keep_any HV.out HML.out HK.out hkl _ (HQ w17 hb17).out.1 (HQ w17 hb17).out.2).mono ?_; rintro e w18 ⟨yc, rfl, hyc, hq⟩; have hb18 : Below w13.heap.size w13 w18 := (hb17).trans (hq.mono (hb17).size); have HYC := Lib.hid (hyc.at (Nat.le_trans (HQ w17 hb17).out.2 hq.size)); clear hyc; clear hq; obtain ⟨ga18_0, ga18_1, ga18_2, ga18_3, ga18_4⟩ := c5of (HKA w18 hb18).out; obtain ⟨ge18_0, ge18_1, ge18_2, ge18_3, ge18_4⟩ := c5of (HKE w18 hb18).out; obtain ⟨gc18_0, gc18_1, gc18_2, gc18_3, gc18_4⟩ := c5of (HKC w18 hb18).out; obtain ⟨gd18_0, gd18_1, gd18_2, gd18_3, gd18_4⟩ := c5of (HKD w18 hb18).out)
      | (go_at_call_of 38 (Value.bool true); refine (rkeep_any HV.out HML.out HK.out true _ (HQ w18 hb18).out.1 (HQ w18 hb18).out.2).mono ?_; rintro e w19 ⟨yd, rfl, hyd, hq⟩; have hb19 : Below w13.heap.size w13 w19 := (hb18).trans (hq.mono (hb18).size); have HYD := Lib.hid (hyd.at (Nat.le_trans (HQ w18 hb18).out.2 hq.size)); have HYC2 := Lib.hid ((HYC.out.keep hq).mono hq.size); clear hyd; clear hq; obtain ⟨ga19_0, ga19_1, ga19_2, ga19_3, ga19_4⟩ := c5of (HKA w19 hb19).out; obtain ⟨ge19_0, ge19_1, ge19_2, ge19_3, ge19_4⟩ := c5of (HKE w19 hb19).out; obtain ⟨gc19_0, gc19_1, gc19_2, gc19_3, gc19_4⟩ := c5of (HKC w19 hb19).out; obtain ⟨gd19_0, gd19_1, gd19_2, gd19_3, gd19_4⟩ := c5of (HKD w19 hb19).out)
      | (go_at_call_of 32 yd; refine (rsame_any HYC2.out HYD.out _ (Below.refl _ _) (Nat.le_refl _) true (by simp)).mono ?_; rintro e w20 ⟨rfl, hq⟩; have hb20 : Below w13.heap.size w13 w20 := (hb19).trans (hq.mono (hb19).size);  clear hq; obtain ⟨ga20_0, ga20_1, ga20_2, ga20_3, ga20_4⟩ := c5of (HKA w20 hb20).out; obtain ⟨ge20_0, ge20_1, ge20_2, ge20_3, ge20_4⟩ := c5of (HKE w20 hb20).out; obtain ⟨gc20_0, gc20_1, gc20_2, gc20_3, gc20_4⟩ := c5of (HKC w20 hb20).out; obtain ⟨gd20_0, gd20_1, gd20_2, gd20_3, gd20_4⟩ := c5of (HKD w20 hb20).out)
      | (go_at_call 25; refine (drop_any HV.out HML.out HK.out hkl _ (HQ w20 hb20).out.1 (HQ w20 hb20).out.2).mono ?_; rintro e w21 ⟨ye, rfl, hye, hq⟩; have hb21 : Below w13.heap.size w13 w21 := (hb20).trans (hq.mono (hb20).size); have HYE := Lib.hid (hye.at (Nat.le_trans (HQ w20 hb20).out.2 hq.size)); clear hye; clear hq; obtain ⟨ga21_0, ga21_1, ga21_2, ga21_3, ga21_4⟩ := c5of (HKA w21 hb21).out; obtain ⟨ge21_0, ge21_1, ge21_2, ge21_3, ge21_4⟩ := c5of (HKE w21 hb21).out; obtain ⟨gc21_0, gc21_1, gc21_2, gc21_3, gc21_4⟩ := c5of (HKC w21 hb21).out; obtain ⟨gd21_0, gd21_1, gd21_2, gd21_3, gd21_4⟩ := c5of (HKD w21 hb21).out)
      | (go_at_call_of 38 (Value.bool false); refine (rkeep_any HV.out HML.out HK.out false _ (HQ w21 hb21).out.1 (HQ w21 hb21).out.2).mono ?_; rintro e w22 ⟨yf, rfl, hyf, hq⟩; have hb22 : Below w13.heap.size w13 w22 := (hb21).trans (hq.mono (hb21).size); have HYF := Lib.hid (hyf.at (Nat.le_trans (HQ w21 hb21).out.2 hq.size)); have HYE2 := Lib.hid ((HYE.out.keep hq).mono hq.size); clear hyf; clear hq; obtain ⟨ga22_0, ga22_1, ga22_2, ga22_3, ga22_4⟩ := c5of (HKA w22 hb22).out; obtain ⟨ge22_0, ge22_1, ge22_2, ge22_3, ge22_4⟩ := c5of (HKE w22 hb22).out; obtain ⟨gc22_0, gc22_1, gc22_2, gc22_3, gc22_4⟩ := c5of (HKC w22 hb22).out; obtain ⟨gd22_0, gd22_1, gd22_2, gd22_3, gd22_4⟩ := c5of (HKD w22 hb22).out)
      | (go_at_call_of 32 yf; refine (rsame_any HYE2.out HYF.out _ (Below.refl _ _) (Nat.le_refl _) true (by simp)).mono ?_; rintro e w23 ⟨rfl, hq⟩; have hb23 : Below w13.heap.size w13 w23 := (hb22).trans (hq.mono (hb22).size);  clear hq; obtain ⟨ga23_0, ga23_1, ga23_2, ga23_3, ga23_4⟩ := c5of (HKA w23 hb23).out; obtain ⟨ge23_0, ge23_1, ge23_2, ge23_3, ge23_4⟩ := c5of (HKE w23 hb23).out; obtain ⟨gc23_0, gc23_1, gc23_2, gc23_3, gc23_4⟩ := c5of (HKC w23 hb23).out; obtain ⟨gd23_0, gd23_1, gd23_2, gd23_3, gd23_4⟩ := c5of (HKD w23 hb23).out)
      | (go_at_call_of 24 d0; refine (same_any HV.out HX.out _ (HQ w23 hb23).out.1 (HQ w23 hb23).out.2 rs HRS.out).mono ?_; rintro e w24 ⟨rfl, hq⟩; have hb24 : Below w13.heap.size w13 w24 := (hb23).trans (hq.mono (hb23).size);  clear hq; obtain ⟨ga24_0, ga24_1, ga24_2, ga24_3, ga24_4⟩ := c5of (HKA w24 hb24).out; obtain ⟨ge24_0, ge24_1, ge24_2, ge24_3, ge24_4⟩ := c5of (HKE w24 hb24).out; obtain ⟨gc24_0, gc24_1, gc24_2, gc24_3, gc24_4⟩ := c5of (HKC w24 hb24).out; obtain ⟨gd24_0, gd24_1, gd24_2, gd24_3, gd24_4⟩ := c5of (HKD w24 hb24).out)
      | (go_at_call_of 32 d0; refine (rsame_any HV.out HX.out _ (HQ w24 hb24).out.1 (HQ w24 hb24).out.2 rs HRS.out).mono ?_; rintro e w25 ⟨rfl, hq⟩; have hb25 : Below w13.heap.size w13 w25 := (hb24).trans (hq.mono (hb24).size);  clear hq; obtain ⟨ga25_0, ga25_1, ga25_2, ga25_3, ga25_4⟩ := c5of (HKA w25 hb25).out; obtain ⟨ge25_0, ge25_1, ge25_2, ge25_3, ge25_4⟩ := c5of (HKE w25 hb25).out; obtain ⟨gc25_0, gc25_1, gc25_2, gc25_3, gc25_4⟩ := c5of (HKC w25 hb25).out; obtain ⟨gd25_0, gd25_1, gd25_2, gd25_3, gd25_4⟩ := c5of (HKD w25 hb25).out)
      | (go_at_call 24; refine (same_any HV.out HV.out _ (HQ w25 hb25).out.1 (HQ w25 hb25).out.2 true (by simp)).mono ?_; rintro e w26 ⟨rfl, hq⟩; have hb26 : Below w13.heap.size w13 w26 := (hb25).trans (hq.mono (hb25).size);  clear hq; obtain ⟨ga26_0, ga26_1, ga26_2, ga26_3, ga26_4⟩ := c5of (HKA w26 hb26).out; obtain ⟨ge26_0, ge26_1, ge26_2, ge26_3, ge26_4⟩ := c5of (HKE w26 hb26).out; obtain ⟨gc26_0, gc26_1, gc26_2, gc26_3, gc26_4⟩ := c5of (HKC w26 hb26).out; obtain ⟨gd26_0, gd26_1, gd26_2, gd26_3, gd26_4⟩ := c5of (HKD w26 hb26).out))
  go_wp2
  go_ret
  exact ⟨rfl, (HQ w26 hb26).out.1⟩
end Go.Proofs.Ythncckdagmjjnaa

namespace Go.Proofs.Ythncckdagmjjnaa
open Go.RowKit Go.Shelf
theorem partsw_true (t : VT) (v : Value) (key : ByteArray) (tx : VT) (vx : Value) (ks : List ByteArray) (sv : Value) (w : World) (hv : VAt w.heap.size w t v) (_ : key.size ≤ maxLen) (hx : VAt w.heap.size w tx vx) (hk : StrAt w.heap.size w ks sv) :
    Calls Try.prog 5 #[v, .string key, vx, sv] w fun e w' => e = .returned (.bool true) ∧ Below w.heap.size w w' := parts_true t v key tx vx ks sv w hv hx hk
section
open Go.ChangeShapes Go.WideShapes Go.ChangeAt Go.Deep
open Go.ChangeMaps (open_string shut_string)
theorem partsw_own : ownKnob Try.prog.godebug = none := by kernel_rfl
theorem partsw_laid : laidOutB Try.prog = true := by kernel_rfl

set_option maxRecDepth 100000 in
theorem partsw_lifted (os : Os) (started : os.Started) (H : Type) (enc : TypeId × Value → H) :
    ReturnsInHanded {} Try.checked os 5 .any (Rows.valuePartsSpec.pre6 enc Try.prog Try.f5 Rows.valuePartsRow.domain false) (Rows.valuePartsSpec.post enc Try.prog Try.f5 false true false false) := by
  refine returnsInHanded_of_change_sized (C := Try.checked) partsw_own started (by kernel_rfl) Try.func5
    (ChangeSpec.witness6 (enc := enc) (C := Try.checked) false ⟨#[], #[.agg #[.int .i64 0, .int .i64 0, .string ⟨#[]⟩, .slice none 0 0, .slice none 0 0], .string ByteArray.empty, .agg #[.int .i64 0, .int .i64 0, .string ⟨#[]⟩, .slice none 0 0, .slice none 0 0], .slice none 0 0], []⟩ 8 (by kernel_rfl) (by kernel_rfl) (by kernel_rfl) (by kernel_rfl)) ?_
  intro W base args ds gs before hval0 hW hcnd hsz0 _
  have hval : ∀ (j : Nat) t v, Try.f5.params[j]? = some t → args[j]? = some v → Value.okWide Try.prog W .any base t v := hval0
  have hW' := hW
  obtain ⟨p, q, hA0, hV, rfl, hfz, hnd⟩ := hW
  have hA : DataW.TrodAll enc Try.prog W 0 (fun _ => true) true Try.f5.params.toList args.toList ds p := hA0
  have hsz : (DataW.weightsEach Try.prog Try.f5.params.toList ds).all (· ≤ reachBytes) = true := by
    obtain ⟨rfl, rfl⟩ := trodVars_none hV
    rw [List.append_nil] at hsz0
    exact hsz0
  rw [Try.params5] at hA hval hsz
  obtain ⟨v0, vs0, d0, ds0, p0, q0, hargs, rfl, rfl, h0, r0⟩ := trodAll_cons hA
  obtain ⟨v1, vs1, d1, ds1, p1, q1, rfl, rfl, rfl, h1, r1⟩ := trodAll_cons r0
  obtain ⟨v2, vs2, d2, ds2, p2, q2, rfl, rfl, rfl, h2, r2⟩ := trodAll_cons r1
  obtain ⟨v3, vs3, d3, ds3, p3, q3, rfl, rfl, rfl, h3, r3⟩ := trodAll_cons r2
  obtain ⟨rfl, rfl, rfl⟩ := trodAll_nil r3
  obtain rfl : args = #[v0, v1, v2, v3] := by cases args; simp_all
  obtain ⟨rfl, rfl⟩ := trodVars_none hV
  have hw0 : ∀ n ∈ d0.weights Try.prog 26, n ≤ reachBytes := fun n hn => by simpa using List.all_eq_true.1 hsz n (DataW.weights_mem_each (j := 0) rfl rfl n hn)
  have hlt0 : ∀ x ∈ p0, x.block < W.heap.size := fun x hx => hW'.lt x (by simp [hx])
  have hh0 := h0
  obtain ⟨t0, hv0⟩ : ∃ t, VAt W.heap.size W t v0 := by
    obtain ⟨cs, rfl, hcs⟩ := okWide_struct Try.underlying26 (hval 0 26 v0 rfl rfl)
    obtain ⟨fuel, hf⟩ := h0
    obtain ⟨t, c0, c1, c2, c3, c4, hc, hv⟩ := open_val _ fuel _ (d0, p0) (Nat.lt_succ_self _) hf hw0
    refine ⟨t, ?_⟩
    have e : cs = #[c0, c1, c2, c3, c4] := by apply Array.toList_inj.1; simpa [Value.cells] using hc
    rw [e]; exact hv
  have hsb1 : ∀ n ∈ d1.weights Try.prog 9, n ≤ reachBytes := fun n hn => by simpa using List.all_eq_true.1 hsz n (DataW.weights_mem_each (j := 1) rfl rfl n hn)
  obtain ⟨a1, rfl, rfl, rfl, w1⟩ := open_string Try.underlying9 (hval 1 9 v1 rfl rfl) h1
  have hw2 : ∀ n ∈ d2.weights Try.prog 26, n ≤ reachBytes := fun n hn => by simpa using List.all_eq_true.1 hsz n (DataW.weights_mem_each (j := 2) rfl rfl n hn)
  have hlt2 : ∀ x ∈ p2, x.block < W.heap.size := fun x hx => hW'.lt x (by simp [hx])
  have hh2 := h2
  obtain ⟨t2, hv2⟩ : ∃ t, VAt W.heap.size W t v2 := by
    obtain ⟨cs, rfl, hcs⟩ := okWide_struct Try.underlying26 (hval 2 26 v2 rfl rfl)
    obtain ⟨fuel, hf⟩ := h2
    obtain ⟨t, c0, c1, c2, c3, c4, hc, hv⟩ := open_val _ fuel _ (d2, p2) (Nat.lt_succ_self _) hf hw2
    refine ⟨t, ?_⟩
    have e : cs = #[c0, c1, c2, c3, c4] := by apply Array.toList_inj.1; simpa [Value.cells] using hc
    rw [e]; exact hv
  have hw3 : ∀ n ∈ d3.weights Try.prog 48, n ≤ reachBytes := fun n hn => by simpa using List.all_eq_true.1 hsz n (DataW.weights_mem_each (j := 3) rfl rfl n hn)
  have hlt3 : ∀ x ∈ p3, x.block < W.heap.size := fun x hx => hW'.lt x (by simp [hx])
  have hh3 := h3
  obtain ⟨ks3, hv3⟩ : ∃ ks, StrAt W.heap.size W ks v3 := by
    obtain ⟨fuel, hf⟩ := h3
    obtain ⟨aa, ll, cc, rfl⟩ := okWide_slice Try.underlying48 (hval 3 48 v3 rfl rfl)
    exact open_strs fuel _ (d3, p3) hf hw3
  clear hA0 hval0 hsz0
  simp only [List.append_nil] at hW'
  refine (partsw_true t0 v0 a1 t2 v2 ks3 v3 W hv0 w1 hv2 hv3).mono fun e W' ⟨he, bel⟩ => ?_
  subst he
  exact ⟨_, rfl, _, _, _, [], _, [], hW', trodAll_mk1 (shut_bool Try.underlying4 _), (trodAll_cons_mk (Below.trod partsw_laid (by kernel_rfl) (of_decide_eq_true (by kernel_rfl)) hh0 bel hlt0) (trodAll_cons_mk (shut_string Try.underlying9 w1) (trodAll_cons_mk (Below.trod partsw_laid (by kernel_rfl) (of_decide_eq_true (by kernel_rfl)) hh2 bel hlt2) (trodAll_cons_mk (Below.trod partsw_laid (by kernel_rfl) (of_decide_eq_true (by kernel_rfl)) hh3 bel hlt3) trodAll_mk0)))), rfl, bel.frame _, fun h => by cases h⟩

theorem parts_holds : Rows.ValuePartsSaid :=
  OpenClaim.holds_of_wide 5 Try.f5 rfl rfl rfl rfl rfl rfl rfl ⟨rfl, rfl, rfl, rfl, rfl⟩ rfl rfl rfl rfl rfl (by kernel_rfl) Try.func5 (by kernel_rfl)
    (of_decide_eq_true (by kernel_rfl)) (by unfold Func.isWrapper; first | (rw [if_pos (by decide +kernel)]; kernel_rfl) | (rw [if_neg (by decide +kernel)]; exact ⟨rfl, rfl⟩))
    (fun os started H enc _ => partsw_lifted os started H enc)
#print axioms parts_holds

end
end Go.Proofs.Ythncckdagmjjnaa
