/-
  The document's own answer Has: is a text in a list?
  The document's own answers Keep and Set.
  Conditions: none.
-/
import Derived.Test.YthncckdagmjjnaaValGet
import Derived.Test.YthncckdagmjjnaaValCho
import Derived.Test.YthncckdagmjjnaaValSet
import Derived.Test.YthncckdagmjjnaaValRn
namespace Go.Proofs.Ythncckdagmjjnaa
open Go.RowKit

set_option maxRecDepth 100000 in
set_option maxHeartbeats 1000000 in
theorem has_any {n₀ : Nat} {w0 : World} (ks : List ByteArray) (ao : Option Addr) (cap : Nat) (c : Nat → Nat → Value) (hr1 : RowAt n₀ w0 1 (.slice ao ks.length cap) ks.length c) (hK : ∀ i (h : i < ks.length), c i 0 = .string ks[i]) (key : ByteArray) (w : World) (hw : Below n₀ w0 w) (r : Bool) (hr : r = true ↔ key ∈ ks) :
    Calls Try.prog 63 #[.slice ao ks.length cap, .string key] w fun e w' => e = .returned (.bool r) ∧ w' = w := by
  have hll : ks.length ≤ 1000000000000000 := by have := hr1.len; have := sMax_lt; omega
  have HR1 := Lib.hid (hr1.below hw)
  have HK := Lib.hid hK
  have HR := Lib.hid hr
  clear hr1 hK hw hr
  go_enter Try.func63, Try.ntmps63
  go_wp2_with fail
  go_loopw [5] (fun iv wr => ∃ j : Nat, j ≤ ks.length ∧ iv = .int .i64 j ∧ wr = w ∧ (∀ i (h : i < ks.length), i < j → ks[i] ≠ key)) (fun i _ => ks.length - (intOf i).toNat)
  case atStart => exact ⟨0, by omega, rfl, rfl, fun _ _ h => absurd h (Nat.not_lt_zero _)⟩
  case round =>
    obtain ⟨j, hj, rfl, rfl, hal⟩ := hrel
    have HAL := Lib.hid hal
    clear hal
    by_cases hj1 : j < ks.length
    · obtain ⟨b, off, rfl, hbn, hc⟩ := HR1.out.at hj1
      have c0 := hc 0 (by decide)
      simp only [Nat.mul_one, Nat.add_zero] at c0
      rw [HK.out j hj1] at c0
      clear hc
      generalize hky : ks[j] = kj at c0
      have HKY := Lib.hid hky
      clear hky
      by_cases hk : kj.toList = key.toList
      · have hkb : (kj.toList == key.toList) = true := by simpa using hk
        have hrt : r = true := HR.out.2 (by
          have e : kj = key := by rw [ByteArray.toList_eq, ByteArray.toList_eq] at hk; exact Go.WideShapes.bytes_inj hk
          rw [← e, ← HKY.out]; exact List.getElem_mem hj1)
        subst hrt
        go_wp2
        go_ret
        exact ⟨rfl, rfl⟩
      · have hkb : (kj.toList == key.toList) = false := by simpa using hk
        have HKN := Lib.hid hk
        clear hk
        go_wp2
        go_roundw
        case measure => simp [intOf]; omega
        case rel =>
          refine ⟨j + 1, by omega, by go_num, by first | rfl | trivial, fun i hi hij => ?_⟩
          by_cases hlt : i < j
          · exact HAL.out i hi hlt
          · obtain rfl : i = j := by omega
            rw [HKY.out]; intro e; exact HKN.out (by rw [e])
    · have hrf : r = false := by
        rw [← Bool.not_eq_true, HR.out]
        intro hm
        obtain ⟨i, hi, e⟩ := List.getElem_of_mem hm
        exact HAL.out i hi (by omega) e
      subst hrf
      go_wp2
      go_ret
      exact ⟨rfl, rfl⟩
end Go.Proofs.Ythncckdagmjjnaa

namespace Go.Proofs.Ythncckdagmjjnaa
open Go.RowKit

set_option maxRecDepth 100000 in
set_option maxHeartbeats 4000000 in
theorem rkeep_map {n₀ : Nat} {w0 : World} {n : Int} {s : ByteArray} {l : List VT} {m : List (ByteArray × VT)} {v : Value} (h : VAt n₀ w0 (.mk 5 n s l m) v) (hm : m.length ≤ 800000) {ks : List ByteArray} {sv : Value} (hk : StrAt n₀ w0 ks sv) (b : Bool) (w : World) (hw : Below n₀ w0 w) (hz : n₀ ≤ w.heap.size) :
    Calls Try.prog 38 #[v, sv, .bool b] w fun e w' => ∃ y, e = .returned y ∧ MadeV n₀ (w.heap.size + 2) w' (.mk 5 0 ⟨#[]⟩ [] (m.filter (stays ks b))) y ∧ Below w.heap.size w w' := by
  obtain ⟨ao, kc, rfl, -⟩ := RowAt.form hk
  obtain ⟨al, cl, am, cap, cm, rfl, hM⟩ := h.mems
  have HM := Lib.hid hM
  have HK := Lib.hid hk
  have HW := Lib.hid hw
  have HZ := Lib.hid hz
  clear h hM hk hw hz
  go_enter Try.func38, Try.ntmps38
  go_wp2_with fail
  generalize hW2 : (w.alloc _).alloc _ = W2
  have hb2 : Below w.heap.size w W2 := by subst hW2; exact ((Below.refl _ w).alloc (Nat.le_refl _) _).alloc (by simp) _
  have hv1 : W2.heap[w.heap.size]? = some (.cells #[.int .i64 5, .int .i64 n, .string s, .slice al l.length cl, .slice am m.length cap] 26 (0, 0)) := by
    subst hW2; rw [Below.heap_alloc _ _ _ (by simp)]; exact World.alloc_heap_new w _
  have hv2 : W2.heap[w.heap.size + 1]? = some (.cells #[.int .i64 0, .int .i64 0, .string ⟨#[]⟩, .slice none 0 0, .slice none 0 0] 26 (0, 0)) := by
    subst hW2
    have := World.alloc_heap_new (w.alloc (.cells #[.int .i64 5, .int .i64 n, .string s, .slice al l.length cl, .slice am m.length cap] 26)) (.cells #[.int .i64 0, .int .i64 0, .string ⟨#[]⟩, .slice none 0 0, .slice none 0 0] 26)
    rwa [World.size_alloc] at this
  have hz2 : W2.heap.size = w.heap.size + 2 := by subst hW2; simp
  clear hW2
  have HB4 := Lib.hid hb2
  have HV1' := Lib.hid hv1
  have HV2' := Lib.hid hv2
  have hz4 : w.heap.size + 1 < W2.heap.size := by omega
  clear hb2 hv1 hv2 hz2
  go_loopw [7, 8] (fun ov iv wr => ∃ j : Nat, j ≤ m.length ∧ iv = .int .i64 j ∧ wr.ownsRow W2.heap.size 28 6 ov (stayD m ks b j).length (flat6 cm (stayD m ks b j)) ∧ Below W2.heap.size W2 wr) (fun _ i _ => m.length - (intOf i).toNat)
  case atStart => exact ⟨0, Nat.zero_le _, rfl, World.ownsRow_nil _ _ _ _, Below.refl _ _⟩
  case round =>
    obtain ⟨j, hj, rfl, hown, hbr⟩ := hrel
    rename World => Wr
    obtain ⟨oa, oc, rfl, -⟩ := ownsRow_slice hown
    have HOWN := Lib.hid hown
    have HBR := Lib.hid hbr
    have hsl := stayD_len m ks b j
    have hrz : W2.heap.size ≤ Wr.heap.size := hbr.size
    clear hown hbr
    have HNR := Lib.hid (show Below n₀ w0 Wr from HW.out.trans ((HB4.out.trans (HBR.out.mono HB4.out.size)).mono HZ.out))
    obtain ⟨y0, y1, y2, y3, y4⟩ := c5of (box_keep HV1'.out HBR.out (by omega))
    by_cases hjm : j < m.length
    · obtain ⟨bb, off, hao, hbn, c0, c1, c2, c3, c4, c5⟩ := (HM.out.keep HNR.out).1.at6 hjm
      obtain ⟨ek, en, es, ea, el, ep, eb, em, eq, e1, e2, e3, e4, e5⟩ := (HM.out.2.2 j hjm).form6
      simp only [Nat.reduceAdd] at e1 e2 e3 e4 e5
      have e0 := (HM.out.2.1 j hjm).1
      obtain ⟨ky, hky⟩ : ∃ ky, ky = m[j].1 := ⟨_, rfl⟩
      rw [← hky] at e0
      rw [e0] at c0; rw [e1] at c1; rw [e2] at c2; rw [e3] at c3; rw [e4] at c4; rw [e5] at c5
      have HFL := Lib.hid (show ∀ D, flat6 cm (D ++ [j]) = flat6 cm D ++ [.string ky, .int .i64 ek, .int .i64 en, .string es, .slice ea el ep, .slice eb em eq] by
        intro D; rw [flat6_append]; simp [flat6, e0, e1, e2, e3, e4, e5])
      subst hao
      obtain ⟨f, hf⟩ : ∃ f : Bool, f = isIn ks ky := ⟨_, rfl⟩
      have HFK := Lib.hid (show f = true ↔ ky ∈ ks by rw [hf, isIn_iff])
      have HST2 := Lib.hid (show stays ks b (memD m j) = (f == b) by unfold stays; rw [memD_at m j hjm, ← hky, hf])
      clear e0 e1 e2 e3 e4 e5 hky hf
      have j5 : (j : Int) < (m.length : Int) := by omega
      go_wp2_with fail
      refine (has_any ks ao kc _ HK.out (fun i h => by simp [h]) ky Wr HNR.out f HFK.out).mono ?_
      rintro e w5 ⟨rfl, rfl⟩
      rename World => w5
      have HB5 := HBR
      have HO5 := HOWN
      have hz5 := hrz
      cases hfb : (f == b) with
      | false =>
        have HD := Lib.hid (stayD_no (m := m) (ks := ks) (b := b) (j := j) (HST2.out.trans hfb))
        go_wp2
        go_roundw
        case rel => exact ⟨j + 1, by omega, by go_num, by rw [HD.out]; exact HO5.out, HB5.out⟩
        case measure => simp [intOf]; omega
      | true =>
        have HD := Lib.hid (stayD_yes (m := m) (ks := ks) (b := b) (j := j) (HST2.out.trans hfb))
        go_wp2_with (at_builtin; refine wpList_append_src rfl _ _ rfl W2.heap.size _ _ _ rfl (HO5.out.alloc _) 1 (.slice (some ⟨w5.heap.size, 0, none⟩) 1 1) [.string ky, .int .i64 ek, .int .i64 en, .string es, .slice ea el ep, .slice eb em eq] rfl (src_one (World.alloc_heap_new w5 _) (by simp [Value.oneCell'])) (by omega) (by simp; omega) ?_)
        intro v6 w6 hown6 hgr6
        have HO6 := Lib.hid hown6
        have HB6 := Lib.hid (show Below W2.heap.size W2 w6 from (HB5.out.alloc hz5 _).grown hgr6 (by simp; omega) (fun k hk => ownBlock_lt HO5.out k hk))
        clear hown6 hgr6
        go_wp2
        go_roundw
        case rel => exact ⟨j + 1, by omega, by go_num, by rw [HD.out, HFL.out]; simpa using HO6.out, HB6.out⟩
        case measure => simp [intOf]; omega
    · obtain rfl : j = m.length := by omega
      have HB5 := Lib.hid (show Below W2.heap.size W2 Wr from HBR.out)
      have HBW := Lib.hid (HB4.out.trans (HB5.out.mono HB4.out.size))
      have HO5 := Lib.hid HOWN.out
      have hv5 := box_keep HV2'.out HB5.out (by omega)
      have HV5 := Lib.hid hv5
      obtain ⟨r0, r1, r2, r3, r4⟩ := c5of hv5
      have f0 : Wr.frozen? ⟨w.heap.size + 1, 0, none⟩ = false := by simp [World.frozen?, hv5]
      have f1 : Wr.frozen? ⟨w.heap.size + 1, 1, none⟩ = false := by simp [World.frozen?, hv5]
      have f2 : Wr.frozen? ⟨w.heap.size + 1, 2, none⟩ = false := by simp [World.frozen?, hv5]
      have f3 : Wr.frozen? ⟨w.heap.size + 1, 3, none⟩ = false := by simp [World.frozen?, hv5]
      have f4 : Wr.frozen? ⟨w.heap.size + 1, 4, none⟩ = false := by simp [World.frozen?, hv5]
      have HPK := Lib.hid ((HM.out.keep (HW.out.trans (HBW.out.mono HZ.out))).pick (stayD m ks b m.length) stayD_lt)
      generalize hN : (stayD m ks b m.length).length = N at *
      have HN := Lib.hid hN
      clear hv5 hN
      go_wp2
      have hp5 := put5 (.int .i64 5) (.int .i64 0) (.string ⟨#[]⟩) (.slice none 0 0) (.slice oa N oc) HV5.out
      have hpb := put5_below (.int .i64 5) (.int .i64 0) (.string ⟨#[]⟩) (.slice none 0 0) (.slice oa N oc) HBW.out (b := w.heap.size + 1) (by omega)
      have HC9 := Lib.hid (HPK.out.keep (put5_below (.int .i64 5) (.int .i64 0) (.string ⟨#[]⟩) (.slice none 0 0) (.slice oa N oc) (Below.refl n₀ Wr) (b := w.heap.size + 1) (by have := HZ.out; omega)))
      have HO9 := Lib.hid (ownsRow_set (b := w.heap.size + 1) (i := 4) (u := .slice oa N oc) (ownsRow_set (b := w.heap.size + 1) (i := 3) (u := .slice none 0 0) (ownsRow_set (b := w.heap.size + 1) (i := 2) (u := .string ⟨#[]⟩) (ownsRow_set (b := w.heap.size + 1) (i := 1) (u := .int .i64 0) (ownsRow_set (b := w.heap.size + 1) (i := 0) (u := .int .i64 5) HO5.out (by omega)) (by omega)) (by omega)) (by omega)) (by omega))
      generalize ((((Wr.setCell _ _).setCell _ _).setCell _ _).setCell _ _).setCell _ _ = W9 at hp5 hpb HC9 HO9 ⊢
      obtain ⟨q0, q1, q2, q3, q4⟩ := c5of hp5
      refine bodyPost_ret (v := .agg #[.int .i64 5, .int .i64 0, .string ⟨#[]⟩, .slice none 0 0, .slice oa N oc]) (by simp [results, Try.results38, go_sem, q0, q1, q2, q3, q4]) rfl ?_
      refine ⟨_, rfl, ?_, hpb⟩
      rw [← stayD_all]
      refine .inr ⟨_, _, _, rfl, rfl, ownsRow_base (base := W2.heap.size) ?_ (by omega), HC9.out, by simp; have := HN.out; omega⟩
      rw [List.length_map, HN.out]
      exact HO9.out

set_option maxRecDepth 100000 in
set_option maxHeartbeats 1000000 in
theorem rkeep_other {n₀ : Nat} {w0 : World} {t : VT} {v : Value} (h : VAt n₀ w0 t v) (h5 : t.k ≠ 5) (ao : Option Addr) (kn kc : Nat) (b : Bool) (w : World) :
    Calls Try.prog 38 #[v, .slice ao kn kc, .bool b] w fun e w' => e = .returned v ∧ Below w.heap.size w w' := by
  cases h with
  | @mk k n s l m sl sm cl cm hk hn hs hl hm hL hK hM =>
    obtain ⟨al, pl, rfl, -⟩ := hl.form
    obtain ⟨am, pm, rfl, -⟩ := hm.form
    have hkb : (k != 5) = true := by simpa [VT.k] using h5
    clear hk hn hs hl hm hL hK hM h5
    go_enter Try.func38, Try.ntmps38
    go_wp2
    refine bodyPost_ret (v := .agg #[.int .i64 k, .int .i64 n, .string s, .slice al l.length pl, .slice am m.length pm]) (by simp [results, Try.results38, go_sem]) rfl ?_
    exact ⟨rfl, ((Below.refl _ w).alloc (Nat.le_refl _) _).alloc (by simp) _⟩

theorem rkeep_any {n₀ : Nat} {w0 : World} {t : VT} {v : Value} (h : VAt n₀ w0 t v) (hm : t.m.length ≤ 800000) {ks : List ByteArray} {sv : Value} (hk : StrAt n₀ w0 ks sv) (b : Bool) (w : World) (hw : Below n₀ w0 w) (hz : n₀ ≤ w.heap.size) :
    Calls Try.prog 38 #[v, sv, .bool b] w fun e w' => ∃ y, e = .returned y ∧ MadeV n₀ w.heap.size w' (keepV t ks b) y ∧ Below w.heap.size w w' := by
  by_cases h5 : t.k = 5
  · obtain ⟨k, n, s, l, m⟩ := t
    obtain rfl : k = 5 := h5
    have e : keepV (.mk 5 n s l m) ks b = .mk 5 0 ⟨#[]⟩ [] (m.filter (stays ks b)) := by simp [keepV, VT.k, VT.m]
    rw [e]
    exact (rkeep_map h hm hk b w hw hz).mono fun e w' ⟨y, he, hy, hb⟩ => ⟨y, he, hy.base (by omega), hb⟩
  · obtain ⟨ao, kc, rfl, -⟩ := RowAt.form hk
    refine (rkeep_other h h5 ao _ kc b w).mono ?_
    rintro e w' ⟨he, hb⟩
    have e2 : keepV t ks b = t := by unfold keepV; rw [if_neg h5]
    rw [e2]
    exact ⟨v, he, .inl ((h.keep hw).keep (hb.mono hz)), hb⟩

set_option maxRecDepth 100000 in
set_option maxHeartbeats 1000000 in
theorem rset_other {n₀ : Nat} {w0 : World} {t : VT} {v : Value} (h : VAt n₀ w0 t v) (h5 : t.k ≠ 5) (key : ByteArray) {tx : VT} {vx : Value} (hx : VAt n₀ w0 tx vx) (w : World) :
    Calls Try.prog 37 #[v, .string key, vx] w fun e w' => e = .returned v ∧ Below w.heap.size w w' := by
  obtain ⟨x0, x1, x2, x3, x4, rfl⟩ := vAt_agg hx
  cases h with
  | @mk k n s l m sl sm cl cm hk hn hs hl hm hL hK hM =>
    obtain ⟨al, pl, rfl, -⟩ := hl.form
    obtain ⟨am, pm, rfl, -⟩ := hm.form
    have hkb : (k != 5) = true := by simpa [VT.k] using h5
    clear hk hn hs hl hm hL hK hM hx h5
    go_enter Try.func37, Try.ntmps37
    go_wp2
    refine bodyPost_ret (v := .agg #[.int .i64 k, .int .i64 n, .string s, .slice al l.length pl, .slice am m.length pm]) (by simp [results, Try.results37, go_sem]) rfl ?_
    refine ⟨rfl, ?_⟩
    exact (((Below.refl _ w).alloc (Nat.le_refl _) _).alloc (by simp) _).alloc (by simp; omega) _

/-- A row of nothing, and a member's row, made ahead of or behind each other. -/
theorem own_empty (w : World) : (w.alloc (.cells #[] 28)).ownsRow w.heap.size 28 6 (.slice (some ⟨w.heap.size, 0, none⟩) 0 0) 0 [] :=
  ⟨rfl, .inr ⟨w.heap.size, 0, #[], rfl, Nat.le_refl _, World.alloc_heap_new w _, Nat.le_refl _, by decide, rfl, rfl⟩⟩
theorem own_second (w : World) (o : Obj) : ((w.alloc o).alloc (.cells #[] 28)).ownsRow (w.heap.size + 1) 28 6 (.slice (some ⟨w.heap.size + 1, 0, none⟩) 0 0) 0 [] := by
  have := own_empty (w.alloc o)
  rwa [World.size_alloc] at this
theorem one_second (w : World) (o : Obj) (cs : Array Value) : ((w.alloc o).alloc (.cells cs 28)).heap[w.heap.size + 1]? = some (.cells cs 28 (0, 0)) := by
  have := World.alloc_heap_new (w.alloc o) (.cells cs 28)
  rwa [World.size_alloc] at this
theorem one_first (w : World) (cs : Array Value) (o : Obj) : ((w.alloc (.cells cs 28)).alloc o).heap[w.heap.size]? = some (.cells cs 28 (0, 0)) :=
  (Below.heap_alloc _ _ _ (by simp)).trans (World.alloc_heap_new w _)

set_option maxRecDepth 100000 in
set_option maxHeartbeats 4000000 in
theorem rset_map {n₀ : Nat} {w0 : World} {n : Int} {s : ByteArray} {l : List VT} {m : List (ByteArray × VT)} {v : Value} (h : VAt n₀ w0 (.mk 5 n s l m) v) (hm : m.length ≤ 800000) (key : ByteArray) (hk : key.size ≤ sMax) {tx : VT} {vx : Value} (hx : VAt n₀ w0 tx vx) (w : World) (hw : Below n₀ w0 w) (hz : n₀ ≤ w.heap.size) :
    Calls Try.prog 37 #[v, .string key, vx] w fun e w' => ∃ y L, e = .returned y ∧ IsMap (m ++ [(key, tx)]) L ∧ VAt w'.heap.size w' (.mk 5 0 ⟨#[]⟩ [] L) y ∧ Below w.heap.size w w' := by
  obtain ⟨x0, x1, x2, x3, x4, rfl⟩ := vAt_agg hx
  obtain ⟨al, cl, am, cap, cm, rfl, hM⟩ := h.mems
  have HM := Lib.hid hM
  have HX := Lib.hid hx
  have HW := Lib.hid hw
  have HZ := Lib.hid hz
  have HK := Lib.hid hk
  have HPX := Lib.hid (MCells.one hk hx).plain
  clear h hM hw hz hx hk
  go_enter Try.func37, Try.ntmps37
  go_wp2_with fail
  generalize hW2 : ((w.alloc _).alloc _).alloc _ = W2
  have hb2 : Below w.heap.size w W2 := by subst hW2; exact (((Below.refl _ w).alloc (Nat.le_refl _) _).alloc (by simp) _).alloc (by simp; omega) _
  have hv1 : W2.heap[w.heap.size]? = some (.cells #[.int .i64 5, .int .i64 n, .string s, .slice al l.length cl, .slice am m.length cap] 26 (0, 0)) := by
    subst hW2; rw [Below.heap_alloc _ _ _ (by simp; omega), Below.heap_alloc _ _ _ (by simp)]; exact World.alloc_heap_new w _
  have hv2 : W2.heap[w.heap.size + 1]? = some (.cells #[x0, x1, x2, x3, x4] 26 (0, 0)) := by
    subst hW2; rw [Below.heap_alloc _ _ _ (by simp)]
    have := World.alloc_heap_new (w.alloc (.cells #[.int .i64 5, .int .i64 n, .string s, .slice al l.length cl, .slice am m.length cap] 26)) (.cells #[x0, x1, x2, x3, x4] 26)
    rwa [World.size_alloc] at this
  have hv3 : W2.heap[w.heap.size + 1 + 1]? = some (.cells #[.int .i64 0, .int .i64 0, .string ⟨#[]⟩, .slice none 0 0, .slice none 0 0] 26 (0, 0)) := by
    subst hW2
    have := World.alloc_heap_new ((w.alloc (.cells #[.int .i64 5, .int .i64 n, .string s, .slice al l.length cl, .slice am m.length cap] 26)).alloc (.cells #[x0, x1, x2, x3, x4] 26)) (.cells #[.int .i64 0, .int .i64 0, .string ⟨#[]⟩, .slice none 0 0, .slice none 0 0] 26)
    rwa [World.size_alloc, World.size_alloc] at this
  have hz2 : W2.heap.size = w.heap.size + 3 := by subst hW2; simp
  clear hW2
  have hz3 : w.heap.size + 3 ≤ W2.heap.size := by omega
  have HV1 := Lib.hid hv1
  have HV2 := Lib.hid hv2
  have HV3 := Lib.hid hv3
  have HB3 := Lib.hid hb2
  clear hb2 hv1 hv2 hv3 hz2
  rename World => w3
  obtain ⟨-, -, -, -, y4⟩ := c5of HV1.out
  obtain ⟨z0, z1, z2, z3, z4⟩ := c5of HV2.out
  have HB0 := Lib.hid (show Below n₀ w0 w3 from HW.out.trans (HB3.out.mono HZ.out))
  have HYD := Lib.hid (show w3.drew.cell? ⟨w.heap.size, 4, none⟩ = some (.slice am m.length cap) ∧ w3.drew.cell? ⟨w.heap.size + 1, 0, none⟩ = some x0 ∧ w3.drew.cell? ⟨w.heap.size + 1, 1, none⟩ = some x1 ∧ w3.drew.cell? ⟨w.heap.size + 1, 2, none⟩ = some x2 ∧ w3.drew.cell? ⟨w.heap.size + 1, 3, none⟩ = some x3 ∧ w3.drew.cell? ⟨w.heap.size + 1, 4, none⟩ = some x4 from ⟨y4, z0, z1, z2, z3, z4⟩)
  have hne1 : w.heap.size < w.heap.size + 1 + 1 := by omega
  have hne2 : w.heap.size + 1 < w.heap.size + 1 + 1 := by omega
  have hnz : n₀ ≤ w3.heap.size := Nat.le_trans HZ.out (by omega)
  go_region_held3 (fun x => x.cell? ⟨w.heap.size, 4, none⟩ = some (.slice am m.length cap) ∧ x.cell? ⟨w.heap.size + 1, 0, none⟩ = some x0 ∧ x.cell? ⟨w.heap.size + 1, 1, none⟩ = some x1 ∧ x.cell? ⟨w.heap.size + 1, 2, none⟩ = some x2 ∧ x.cell? ⟨w.heap.size + 1, 3, none⟩ = some x3 ∧ x.cell? ⟨w.heap.size + 1, 4, none⟩ = some x4)
    (first | with_reducible exact ⟨HYD.out.1, HYD.out.2.1, HYD.out.2.2.1, HYD.out.2.2.2.1, HYD.out.2.2.2.2.1, HYD.out.2.2.2.2.2⟩ | with_reducible exact ⟨y4, z0, z1, z2, z3, z4⟩ | with_reducible exact ⟨by with_reducible assumption, by with_reducible assumption, by with_reducible assumption, by with_reducible assumption, by with_reducible assumption, by with_reducible assumption⟩ | with_reducible exact ⟨Lib.cell?_alloc_some _ (by with_reducible assumption), Lib.cell?_alloc_some _ (by with_reducible assumption), Lib.cell?_alloc_some _ (by with_reducible assumption), Lib.cell?_alloc_some _ (by with_reducible assumption), Lib.cell?_alloc_some _ (by with_reducible assumption), Lib.cell?_alloc_some _ (by with_reducible assumption)⟩ | with_reducible exact ⟨Lib.cell?_alloc_some _ (Lib.cell?_alloc_some _ (by with_reducible assumption)), Lib.cell?_alloc_some _ (Lib.cell?_alloc_some _ (by with_reducible assumption)), Lib.cell?_alloc_some _ (Lib.cell?_alloc_some _ (by with_reducible assumption)), Lib.cell?_alloc_some _ (Lib.cell?_alloc_some _ (by with_reducible assumption)), Lib.cell?_alloc_some _ (Lib.cell?_alloc_some _ (by with_reducible assumption)), Lib.cell?_alloc_some _ (Lib.cell?_alloc_some _ (by with_reducible assumption))⟩ | with_reducible exact ⟨put5_cell hne1 (by with_reducible assumption), put5_cell hne2 (by with_reducible assumption), put5_cell hne2 (by with_reducible assumption), put5_cell hne2 (by with_reducible assumption), put5_cell hne2 (by with_reducible assumption), put5_cell hne2 (by with_reducible assumption)⟩ | go_keep)
    (first
      | (go_at_call 33; refine (rmap_made HJO.out _ (Below.refl _ _) (Nat.le_refl _) (by simp; omega) HJV.out (Nat.le_trans hnz hb11.size)).mono ?_; rintro e w5 ⟨u5, L5, rfl, hL5, hx5, hq⟩; have hb5 : Below w3.heap.size w3 w5 := hb11.trans (hq.mono hb11.size); clear hq; have HL5 := Lib.hid hL5; have hz11 : w3.heap.size ≤ w11.heap.size := hb11.size; have HX5 := Lib.hid hx5; obtain ⟨yk, yn, ys, ya, yl, yp, yb, ym, yq, rfl⟩ := hx5.form; clear hL5 hx5; have hv5 := box_keep HV3.out hb5 (by omega); have HV5 := Lib.hid hv5; obtain ⟨r0, r1, r2, r3, r4⟩ := c5of hv5; have f0 : w5.frozen? ⟨w.heap.size + 1 + 1, 0, none⟩ = false := (by simp [World.frozen?, hv5]); have f1 : w5.frozen? ⟨w.heap.size + 1 + 1, 1, none⟩ = false := (by simp [World.frozen?, hv5]); have f2 : w5.frozen? ⟨w.heap.size + 1 + 1, 2, none⟩ = false := (by simp [World.frozen?, hv5]); have f3 : w5.frozen? ⟨w.heap.size + 1 + 1, 3, none⟩ = false := (by simp [World.frozen?, hv5]); have f4 : w5.frozen? ⟨w.heap.size + 1 + 1, 4, none⟩ = false := (by simp [World.frozen?, hv5]); clear hv5; obtain ⟨-, -, -, -, l0⟩ := c5of (box_keep HV1.out hb5 (by omega)); obtain ⟨l1, l2, l3, l4, l5⟩ := c5of (box_keep HV2.out hb5 (by omega)))
      | (refine step_append_src (by rfl) _ _ (by rfl) w3.heap.size 0 _ [] (by rfl) (own_empty w3).drew m.length (.slice am m.length cap) _ (by rfl) (HM.out.src _ (HB0.out.alloc hnz _).drew) (by omega) (by simp) ?_; intro v10 w10 ho10 hg10; rw [Nat.zero_add, List.nil_append] at ho10; have hb10 : Below w3.heap.size w3 w10 := ((Below.refl _ w3).alloc (Nat.le_refl _) _).drew.grown hg10 (by simp) (fun k hk => by simp [Value.ownBlock] at hk; omega); obtain ⟨ja, jc, rfl, -⟩ := ownsRow_slice ho10; have HO10 := Lib.hid ho10; have hA10 : True := trivial; have hz10 : w3.heap.size + 1 ≤ w10.heap.size := (by have := hg10.size; simp at this; omega); clear ho10 hg10; obtain ⟨-, -, -, -, k0⟩ := c5of (box_keep HV1.out hb10 (by omega)); obtain ⟨k1, k2, k3, k4, k5⟩ := c5of (box_keep HV2.out hb10 (by omega)))
      | (refine step_append_src (by rfl) _ _ (by rfl) w3.heap.size 0 _ [] (by rfl) ((own_empty w3).alloc _).drew m.length (.slice am m.length cap) _ (by rfl) (HM.out.src _ ((HB0.out.alloc hnz _).alloc (by simp; omega) _).drew) (by omega) (by simp; omega) ?_; intro v10 w10 ho10 hg10; rw [Nat.zero_add, List.nil_append] at ho10; have hb10 : Below w3.heap.size w3 w10 := (((Below.refl _ w3).alloc (Nat.le_refl _) _).alloc (by simp) _).drew.grown hg10 (by simp; omega) (fun k hk => by simp [Value.ownBlock] at hk; omega); obtain ⟨ja, jc, rfl, -⟩ := ownsRow_slice ho10; have HO10 := Lib.hid ho10; have HS10 := Lib.hid (src_one (w := w10) (b := w3.heap.size + 1) (ty := 28) ((hg10.block _ (by simp) (by simp [Value.ownBlock])).trans (one_second w3 _ _)) HPX.out); have hz10 : w3.heap.size + 1 ≤ w10.heap.size := (by have := hg10.size; simp at this; omega); clear ho10 hg10; obtain ⟨-, -, -, -, k0⟩ := c5of (box_keep HV1.out hb10 (by omega)); obtain ⟨k1, k2, k3, k4, k5⟩ := c5of (box_keep HV2.out hb10 (by omega)))
      | (refine step_append_src (by rfl) _ _ (by rfl) (w3.heap.size + 1) 0 _ [] (by rfl) (own_second w3 _).drew m.length (.slice am m.length cap) _ (by rfl) (HM.out.src _ ((HB0.out.alloc hnz _).alloc (by simp; omega) _).drew) (by omega) (by simp) ?_; intro v10 w10 ho10 hg10; rw [Nat.zero_add, List.nil_append] at ho10; have hb10 : Below w3.heap.size w3 w10 := (((Below.refl _ w3).alloc (Nat.le_refl _) _).alloc (by simp) _).drew.grown hg10 (by simp; omega) (fun k hk => by simp [Value.ownBlock] at hk; omega); obtain ⟨ja, jc, rfl, -⟩ := ownsRow_slice ho10; have HO10 := Lib.hid ho10; have HS10 := Lib.hid (src_one (w := w10) (b := w3.heap.size) (ty := 28) ((hg10.block _ (by simp; omega) (by simp [Value.ownBlock])).trans (one_first w3 _ _)) HPX.out); have hz10 : w3.heap.size + 1 ≤ w10.heap.size := (by have := hg10.size; simp at this; omega); clear ho10 hg10; obtain ⟨-, -, -, -, k0⟩ := c5of (box_keep HV1.out hb10 (by omega)); obtain ⟨k1, k2, k3, k4, k5⟩ := c5of (box_keep HV2.out hb10 (by omega)))
      | (refine step_append_src (by rfl) _ _ (by rfl) _ m.length _ _ (by rfl) (HO10.out.alloc _) 1 _ [.string key, x0, x1, x2, x3, x4] (by rfl) (src_one (World.alloc_heap_new w10 _) HPX.out) (by omega) (by first | omega | (simp; omega)) ?_; intro v11 w11 ho11 hg11; have hb11 : Below w3.heap.size w3 w11 := (hb10.alloc hb10.size _).grown hg11 (by have := hb10.size; simp; omega) (fun k hk => by have := ownBlock_lt HO10.out k hk; omega); obtain ⟨ka, kc, rfl, -⟩ := ownsRow_slice ho11; obtain ⟨cj, hcj, hcv⟩ := ((HM.out.cells.keep (HB0.out.trans (hb11.mono hnz))).append (MCells.one HK.out (HX.out.keep (HB0.out.trans (hb11.mono hnz))))).owned6 ho11 (Nat.le_trans hnz hb11.size) (by simp; omega); have HJO := Lib.hid hcj; have HJV := Lib.hid hcv; clear ho11 hg11 hcj hcv; obtain ⟨-, -, -, -, k10⟩ := c5of (box_keep HV1.out hb11 (by omega)); obtain ⟨k11, k12, k13, k14, k15⟩ := c5of (box_keep HV2.out hb11 (by omega)))
      | (refine step_append_src (by rfl) _ _ (by rfl) _ m.length _ _ (by rfl) HO10.out 1 _ [.string key, x0, x1, x2, x3, x4] (by rfl) HS10.out (by omega) (by first | omega | (simp; omega)) ?_; intro v11 w11 ho11 hg11; have hb11 : Below w3.heap.size w3 w11 := hb10.grown hg11 hb10.size (fun k hk => by have := ownBlock_lt HO10.out k hk; omega); obtain ⟨ka, kc, rfl, -⟩ := ownsRow_slice ho11; obtain ⟨cj, hcj, hcv⟩ := ((HM.out.cells.keep (HB0.out.trans (hb11.mono hnz))).append (MCells.one HK.out (HX.out.keep (HB0.out.trans (hb11.mono hnz))))).owned6 ho11 (Nat.le_trans hnz hb11.size) (by simp; omega); have HJO := Lib.hid hcj; have HJV := Lib.hid hcv; clear ho11 hg11 hcj hcv; obtain ⟨-, -, -, -, k10⟩ := c5of (box_keep HV1.out hb11 (by omega)); obtain ⟨k11, k12, k13, k14, k15⟩ := c5of (box_keep HV2.out hb11 (by omega))))
  all_goals
    go_wp2
    have hp5 := put5 (.int .i64 yk) (.int .i64 yn) (.string ys) (.slice ya yl yp) (.slice yb ym yq) HV5.out
    have hpb := put5_below (.int .i64 yk) (.int .i64 yn) (.string ys) (.slice ya yl yp) (.slice yb ym yq) (HB3.out.trans (hb5.mono HB3.out.size)) (b := w.heap.size + 1 + 1) (by omega)
    have HY9 := Lib.hid (((((HX5.out.set (b := w.heap.size + 1 + 1) (i := 0) (u := .int .i64 yk) (by have := HZ.out; omega) (by omega)).set (b := w.heap.size + 1 + 1) (i := 1) (u := .int .i64 yn) (by have := HZ.out; omega) (by omega)).set (b := w.heap.size + 1 + 1) (i := 2) (u := .string ys) (by have := HZ.out; omega) (by omega)).set (b := w.heap.size + 1 + 1) (i := 3) (u := .slice ya yl yp) (by have := HZ.out; omega) (by omega)).set (b := w.heap.size + 1 + 1) (i := 4) (u := .slice yb ym yq) (by have := HZ.out; omega) (by omega))
    generalize ((((w5.setCell _ _).setCell _ _).setCell _ _).setCell _ _).setCell _ _ = W9 at hp5 hpb HY9 ⊢
    obtain ⟨q0, q1, q2, q3, q4⟩ := c5of hp5
    refine bodyPost_ret (v := .agg #[.int .i64 yk, .int .i64 yn, .string ys, .slice ya yl yp, .slice yb ym yq]) (by simp [results, Try.results37, go_sem, q0, q1, q2, q3, q4]) rfl ?_
    exact ⟨_, _, rfl, HL5.out, HY9.out.at (Nat.le_trans HZ.out hpb.size), hpb⟩
theorem rset_any {n₀ : Nat} {w0 : World} {t : VT} {v : Value} (h : VAt n₀ w0 t v) (hm : t.m.length ≤ 800000) (key : ByteArray) (hk : key.size ≤ sMax) {tx : VT} {vx : Value} (hx : VAt n₀ w0 tx vx) (w : World) (hw : Below n₀ w0 w) (hz : n₀ ≤ w.heap.size) :
    Calls Try.prog 37 #[v, .string key, vx] w fun e w' => ∃ y u, e = .returned y ∧ SetV t key tx u ∧ VAt w'.heap.size w' u y ∧ Below w.heap.size w w' := by
  by_cases h5 : t.k = 5
  · obtain ⟨k, n, s, l, m⟩ := t
    obtain rfl : k = 5 := h5
    refine (rset_map h hm key hk hx w hw hz).mono ?_
    rintro e w' ⟨y, L, he, hL, hy, hb⟩
    exact ⟨y, _, he, .inl ⟨rfl, L, hL, rfl⟩, hy, hb⟩
  · refine (rset_other h h5 key hx w).mono ?_
    rintro e w' ⟨he, hb⟩
    exact ⟨v, t, he, .inr ⟨h5, rfl⟩, ((h.keep hw).mono hz |>.keep hb).mono hb.size, hb⟩
end Go.Proofs.Ythncckdagmjjnaa
