/-
  Package value's TextAt and IntAt.
  Conditions: none.
-/
import Derived.Test.YthcphfpkinfjoaaValGet
namespace Go.Proofs.Ythcphfpkinfjoaa
open Go.RowKit

def intAtV (t : VT) (key : ByteArray) : Int × Bool := match getV t key with | some u => if u.k = 2 then (u.n, true) else (0, false) | none => (0, false)
def textAtV (t : VT) (key : ByteArray) : ByteArray × Bool := match getV t key with | some u => if u.k = 3 then (u.s, true) else (⟨#[]⟩, false) | none => (⟨#[]⟩, false)

set_option maxRecDepth 100000 in
set_option maxHeartbeats 1000000 in
theorem intAt_any {n₀ : Nat} {w0 : World} {t : VT} {v : Value} (h : VAt n₀ w0 t v) (hA : t.k = 5 → Asc t.m) (key : ByteArray) (w : World) (hw : Below n₀ w0 w) (hz : n₀ ≤ w.heap.size) :
    Calls Try.prog 16 #[v, .string key] w fun e w' => e = .returned (.tuple #[.int .i64 (intAtV t key).1, .bool (intAtV t key).2]) ∧ Below w.heap.size w w' := by
  have HG := Lib.hid (fun w hw hz => get_any h hA key w hw hz)
  obtain ⟨c0, c1, c2, c3, c4, rfl⟩ : ∃ c0 c1 c2 c3 c4, v = .agg #[c0, c1, c2, c3, c4] := by cases h; exact ⟨_, _, _, _, _, rfl⟩
  have HW := Lib.hid hw
  have HZ := Lib.hid hz
  clear h hA hw hz
  go_enter Try.func16, Try.ntmps16
  go_wp2_with fail
  refine (HG.out _ (HW.out.trans (((Below.refl _ w).alloc (Nat.le_refl _) _).mono HZ.out)) (by have := HZ.out; simp; omega)).mono ?_
  rintro e w1 ⟨⟨x, rfl, hx⟩, hb1⟩
  have HB1 := Lib.hid (show Below w.heap.size w w1 from ((Below.refl _ w).alloc (Nat.le_refl _) _).trans (hb1.mono (by simp)))
  have HGV := Lib.hid (show intAtV t key = match getV t key with | some u => if u.k = 2 then (u.n, true) else (0, false) | none => (0, false) from rfl)
  generalize hgv : getV t key = g at hx HGV
  clear hb1 hgv
  obtain ⟨k, n, s, a1, l1, p1, a2, l2, p2, rfl, hkk⟩ : ∃ k n s a1 l1 p1 a2 l2 p2, x = .agg #[.int .i64 k, .int .i64 n, .string s, .slice a1 l1 p1, .slice a2 l2 p2] ∧ (g.getD VT0).k = k ∧ (g.getD VT0).n = n ∧ (g.getD VT0).s = s := by
    generalize g.getD VT0 = u at hx
    cases hx with
    | mk hk hn hs hl hm hL hK hM =>
      obtain ⟨a1, p1, rfl, -⟩ := hl.form
      obtain ⟨a2, p2, rfl, -⟩ := hm.form
      exact ⟨_, _, _, _, _, _, _, _, _, rfl, rfl, rfl, rfl⟩
  cases g with
  | none =>
    have HKK := Lib.hid hkk
    clear hx hkk
    go_wp2
    go_ret2
    exact ⟨by rw [HGV.out]; rfl, HB1.out.alloc HB1.out.size _⟩
  | some u =>
    have HKK := Lib.hid hkk
    clear hx
    by_cases h2 : k = 2
    · have h2' : (k != 2) = false := by simpa using h2
      have HRES := Lib.hid (show intAtV t key = (n, true) by rw [HGV.out]; simp only [Option.getD_some] at hkk; simp only [hkk.1, h2, if_true]; rw [← hkk.2.1])
      clear hkk h2
      go_wp2
      go_ret2
      exact ⟨by rw [HRES.out]; rfl, HB1.out.alloc HB1.out.size _⟩
    · have h2' : (k != 2) = true := by simpa using h2
      have HRES := Lib.hid (show intAtV t key = (0, false) by rw [HGV.out]; simp only [Option.getD_some] at hkk; simp only [hkk.1, h2, if_false])
      clear hkk h2
      go_wp2
      go_ret2
      exact ⟨by rw [HRES.out]; rfl, HB1.out.alloc HB1.out.size _⟩

set_option maxRecDepth 100000 in
set_option maxHeartbeats 1000000 in
theorem textAt_any {n₀ : Nat} {w0 : World} {t : VT} {v : Value} (h : VAt n₀ w0 t v) (hA : t.k = 5 → Asc t.m) (key : ByteArray) (w : World) (hw : Below n₀ w0 w) (hz : n₀ ≤ w.heap.size) :
    Calls Try.prog 17 #[v, .string key] w fun e w' => e = .returned (.tuple #[.string (textAtV t key).1, .bool (textAtV t key).2]) ∧ Below w.heap.size w w' := by
  have HG := Lib.hid (fun w hw hz => get_any h hA key w hw hz)
  obtain ⟨c0, c1, c2, c3, c4, rfl⟩ : ∃ c0 c1 c2 c3 c4, v = .agg #[c0, c1, c2, c3, c4] := by cases h; exact ⟨_, _, _, _, _, rfl⟩
  have HW := Lib.hid hw
  have HZ := Lib.hid hz
  clear h hA hw hz
  go_enter Try.func17, Try.ntmps17
  go_wp2_with fail
  refine (HG.out _ (HW.out.trans (((Below.refl _ w).alloc (Nat.le_refl _) _).mono HZ.out)) (by have := HZ.out; simp; omega)).mono ?_
  rintro e w1 ⟨⟨x, rfl, hx⟩, hb1⟩
  have HB1 := Lib.hid (show Below w.heap.size w w1 from ((Below.refl _ w).alloc (Nat.le_refl _) _).trans (hb1.mono (by simp)))
  have HGV := Lib.hid (show textAtV t key = match getV t key with | some u => if u.k = 3 then (u.s, true) else (⟨#[]⟩, false) | none => (⟨#[]⟩, false) from rfl)
  generalize hgv : getV t key = g at hx HGV
  clear hb1 hgv
  obtain ⟨k, n, s, a1, l1, p1, a2, l2, p2, rfl, hkk⟩ : ∃ k n s a1 l1 p1 a2 l2 p2, x = .agg #[.int .i64 k, .int .i64 n, .string s, .slice a1 l1 p1, .slice a2 l2 p2] ∧ (g.getD VT0).k = k ∧ (g.getD VT0).n = n ∧ (g.getD VT0).s = s := by
    generalize g.getD VT0 = u at hx
    cases hx with
    | mk hk hn hs hl hm hL hK hM =>
      obtain ⟨a1, p1, rfl, -⟩ := hl.form
      obtain ⟨a2, p2, rfl, -⟩ := hm.form
      exact ⟨_, _, _, _, _, _, _, _, _, rfl, rfl, rfl, rfl⟩
  cases g with
  | none =>
    have HKK := Lib.hid hkk
    clear hx hkk
    go_wp2
    go_ret2
    exact ⟨by rw [HGV.out]; rfl, HB1.out.alloc HB1.out.size _⟩
  | some u =>
    have HKK := Lib.hid hkk
    clear hx
    by_cases h2 : k = 3
    · have h2' : (k != 3) = false := by simpa using h2
      have HRES := Lib.hid (show textAtV t key = (s, true) by rw [HGV.out]; simp only [Option.getD_some] at hkk; simp only [hkk.1, h2, if_true]; rw [← hkk.2.2])
      clear hkk h2
      go_wp2
      go_ret2
      exact ⟨by rw [HRES.out]; rfl, HB1.out.alloc HB1.out.size _⟩
    · have h2' : (k != 3) = true := by simpa using h2
      have HRES := Lib.hid (show textAtV t key = (⟨#[]⟩, false) by rw [HGV.out]; simp only [Option.getD_some] at hkk; simp only [hkk.1, h2, if_false])
      clear hkk h2
      go_wp2
      go_ret2
      exact ⟨by rw [HRES.out]; rfl, HB1.out.alloc HB1.out.size _⟩

end Go.Proofs.Ythcphfpkinfjoaa
