/-
  One round of SHA-256, as package sha has it.
  Conditions: none.
-/
import Derived.Test.YtfjkinmmidmjaaaDoorShP256
namespace Go.Proofs.YtfjkinmmidmjaaaDoor
open Go.RowKit

theorem xlt256 {a b : Nat} (ha : a < 4294967296) (hb : b < 4294967296) : a ^^^ b < 4294967296 := Nat.xor_lt_two_pow (n := 32) ha hb
theorem alt256 {a b : Nat} (ha : a < 4294967296) : a &&& b < 4294967296 := Nat.lt_of_le_of_lt Nat.and_le_left ha
theorem max256 : IntKind.u32.max = ((4294967295 : Nat) : Int) := by decide
theorem bits_ch256 (e f g : Nat) (he : e < 4294967296) (hf : f < 4294967296) (hg : g < 4294967296) : bits .xor .u32 (bits .and .u32 (e : Int) (f : Int)) (bits .and .u32 (bits .xor .u32 IntKind.u32.max (e : Int)) (g : Int)) = ((ch256 e f g : Nat) : Int) := by
  rw [max256, u32_and_nat _ _ he hf, u32_xor_nat _ _ (by decide) he, u32_and_nat _ _ (xlt256 (by decide) he) hg, u32_xor_nat _ _ (alt256 he) (alt256 (xlt256 (by decide) he))]
  rfl
theorem bits_mj256 (a b c : Nat) (ha : a < 4294967296) (hb : b < 4294967296) (hc : c < 4294967296) : bits .xor .u32 (bits .xor .u32 (bits .and .u32 (a : Int) (b : Int)) (bits .and .u32 (a : Int) (c : Int))) (bits .and .u32 (b : Int) (c : Int)) = ((mj256 a b c : Nat) : Int) := by
  rw [u32_and_nat _ _ ha hb, u32_and_nat _ _ ha hc, u32_and_nat _ _ hb hc, u32_xor_nat _ _ (alt256 ha) (alt256 ha), u32_xor_nat _ _ (xlt256 (alt256 ha) (alt256 ha)) (alt256 hb)]
  rfl
theorem bits_x3256 (x y z : Nat) (hx : x < 4294967296) (hy : y < 4294967296) (hz : z < 4294967296) : bits .xor .u32 (bits .xor .u32 (x : Int) (y : Int)) (z : Int) = ((x ^^^ y ^^^ z : Nat) : Int) := by
  rw [u32_xor_nat _ _ hx hy, u32_xor_nat _ _ (xlt256 hx hy) hz]
theorem bits_bs1256 (e : Nat) (he : e < 4294967296) : bits .xor .u32 (bits .xor .u32 ((rl32 e 26 : Nat) : Int) ((rl32 e 21 : Nat) : Int)) ((rl32 e 7 : Nat) : Int) = ((bs1256 e : Nat) : Int) := bits_x3256 _ _ _ (rl32_lt _ _ he) (rl32_lt _ _ he) (rl32_lt _ _ he)
theorem bits_bs0256 (e : Nat) (he : e < 4294967296) : bits .xor .u32 (bits .xor .u32 ((rl32 e 30 : Nat) : Int) ((rl32 e 19 : Nat) : Int)) ((rl32 e 10 : Nat) : Int) = ((bs0256 e : Nat) : Int) := bits_x3256 _ _ _ (rl32_lt _ _ he) (rl32_lt _ _ he) (rl32_lt _ _ he)
theorem lt_bs1256 (e : Nat) (he : e < 4294967296) : bs1256 e < 4294967296 := xlt256 (xlt256 (rl32_lt _ _ he) (rl32_lt _ _ he)) (rl32_lt _ _ he)
theorem lt_bs0256 (e : Nat) (he : e < 4294967296) : bs0256 e < 4294967296 := xlt256 (xlt256 (rl32_lt _ _ he) (rl32_lt _ _ he)) (rl32_lt _ _ he)
theorem lt_ch256 (e f g : Nat) (he : e < 4294967296) : ch256 e f g < 4294967296 := xlt256 (alt256 he) (alt256 (xlt256 (by decide) he))
theorem lt_mj256 (a b c : Nat) (ha : a < 4294967296) (hb : b < 4294967296) : mj256 a b c < 4294967296 := xlt256 (xlt256 (alt256 ha) (alt256 ha)) (alt256 hb)
/-- The words that a round leaves, in a world whose block was written cell by cell. -/
theorem put8_256 {w : World} {b : Nat} {t : TypeId} {l : List Nat} (h : RW w b .u32 t l) (hl : l.length = 8) (x0 x1 x2 x3 x4 x5 x6 x7 : Nat) :
    RW ((((((((w.setCell ⟨b, 0, none⟩ (.int .u32 x0)).setCell ⟨b, 1, none⟩ (.int .u32 x1)).setCell ⟨b, 2, none⟩ (.int .u32 x2)).setCell ⟨b, 3, none⟩ (.int .u32 x3)).setCell ⟨b, 4, none⟩ (.int .u32 x4)).setCell ⟨b, 5, none⟩ (.int .u32 x5)).setCell ⟨b, 6, none⟩ (.int .u32 x6)).setCell ⟨b, 7, none⟩ (.int .u32 x7)) b .u32 t [x0, x1, x2, x3, x4, x5, x6, x7] ∧
    BelowX w.heap.size b w ((((((((w.setCell ⟨b, 0, none⟩ (.int .u32 x0)).setCell ⟨b, 1, none⟩ (.int .u32 x1)).setCell ⟨b, 2, none⟩ (.int .u32 x2)).setCell ⟨b, 3, none⟩ (.int .u32 x3)).setCell ⟨b, 4, none⟩ (.int .u32 x4)).setCell ⟨b, 5, none⟩ (.int .u32 x5)).setCell ⟨b, 6, none⟩ (.int .u32 x6)).setCell ⟨b, 7, none⟩ (.int .u32 x7)) := by
  match l, hl with
  | [_, _, _, _, _, _, _, _], _ =>
    refine ⟨(((((((h.set x0).set x1).set x2).set x3).set x4).set x5).set x6).set x7, ?_⟩
    refine BelowX.set8 ?_ _ _ _ _ _ _ _ _
    exact h.lt
set_option maxRecDepth 100000 in
set_option maxHeartbeats 2000000 in
theorem round256_any (b : Nat) (v : W8) (x : Nat) (w : World) (hv : v.lt 4294967296) (h : RW w b .u32 37 v.l) :
    Calls Tryd.prog 28 #[.pointer (some ⟨b, 0, none⟩), .int .u32 (x : Int)] w fun e w' => e = .returned (.tuple #[]) ∧ RW w' b .u32 37 (rnd256 v x).l ∧ BelowX w.heap.size b w w' := by
  obtain ⟨a, b', c, d, e, f, g, hh⟩ := v
  obtain ⟨ha, hb, hc, hd, he, hf, hg, hhh⟩ := hv
  simp only at ha hb hc hd he hf hg hhh
  have c0 : w.cell? ⟨b, 0, none⟩ = some (.int .u32 (a : Int)) := h.cell (i := 0) (by show 0 < 8; decide)
  have c1 : w.cell? ⟨b, 1, none⟩ = some (.int .u32 (b' : Int)) := h.cell (i := 1) (by show 1 < 8; decide)
  have c2 : w.cell? ⟨b, 2, none⟩ = some (.int .u32 (c : Int)) := h.cell (i := 2) (by show 2 < 8; decide)
  have c3 : w.cell? ⟨b, 3, none⟩ = some (.int .u32 (d : Int)) := h.cell (i := 3) (by show 3 < 8; decide)
  have c4 : w.cell? ⟨b, 4, none⟩ = some (.int .u32 (e : Int)) := h.cell (i := 4) (by show 4 < 8; decide)
  have c5 : w.cell? ⟨b, 5, none⟩ = some (.int .u32 (f : Int)) := h.cell (i := 5) (by show 5 < 8; decide)
  have c6 : w.cell? ⟨b, 6, none⟩ = some (.int .u32 (g : Int)) := h.cell (i := 6) (by show 6 < 8; decide)
  have c7 : w.cell? ⟨b, 7, none⟩ = some (.int .u32 (hh : Int)) := h.cell (i := 7) (by show 7 < 8; decide)
  have f0 := h.frozen 0
  have f1 := h.frozen 1
  have f2 := h.frozen 2
  have f3 := h.frozen 3
  have f4 := h.frozen 4
  have f5 := h.frozen 5
  have f6 := h.frozen 6
  have f7 := h.frozen 7
  have H := Lib.hid h
  clear h
  go_enter Tryd.func28, Tryd.ntmps28
  have R1 := Lib.hid (fun w => right32_any e 26 6 w he (by decide) (by decide))
  have R2 := Lib.hid (fun w => right32_any e 21 11 w he (by decide) (by decide))
  have R3 := Lib.hid (fun w => right32_any e 7 25 w he (by decide) (by decide))
  have R4 := Lib.hid (fun w => right32_any a 30 2 w ha (by decide) (by decide))
  have R5 := Lib.hid (fun w => right32_any a 19 13 w ha (by decide) (by decide))
  have R6 := Lib.hid (fun w => right32_any a 10 22 w ha (by decide) (by decide))
  have e1 := bits_ch256 e f g he hf hg
  have e2 := bits_mj256 a b' c ha hb hc
  have e3 := bits_bs1256 e he
  have e4 := bits_bs0256 a ha
  have l1 := lt_ch256 e f g he
  have l2 := lt_mj256 a b' c ha hb
  have l3 := lt_bs1256 e he
  have l4 := lt_bs0256 a ha
  have HN := Lib.hid (show rnd256 ⟨a, b', c, d, e, f, g, hh⟩ x = ⟨((hh + bs1256 e + ch256 e f g + x) % 4294967296 + (bs0256 a + mj256 a b' c)) % 4294967296, a, b', c, (d + (hh + bs1256 e + ch256 e f g + x) % 4294967296) % 4294967296, e, f, g⟩ from rfl)
  generalize ch256 e f g = CH at e1 l1 HN
  generalize mj256 a b' c = MJ at e2 l2 HN
  generalize bs1256 e = S1 at e3 l3 HN
  generalize bs0256 a = S0 at e4 l4 HN
  obtain ⟨Tt, hT⟩ : ∃ z, (hh + S1 + CH + x) % 4294967296 = z := ⟨_, rfl⟩
  obtain ⟨Uu, hU⟩ : ∃ z, (S0 + MJ) % 4294967296 = z := ⟨_, rfl⟩
  obtain ⟨X0, hX0⟩ : ∃ z, (Tt + Uu) % 4294967296 = z := ⟨_, rfl⟩
  obtain ⟨X4, hX4⟩ : ∃ z, (d + Tt) % 4294967296 = z := ⟨_, rfl⟩
  have t1 : ((hh : Int) + S1 + CH + x) % 4294967296 = (Tt : Int) := by omega
  have t2 : ((S0 : Int) + MJ) % 4294967296 = (Uu : Int) := by omega
  have t3 : ((Tt : Int) + Uu) % 4294967296 = (X0 : Int) := by omega
  have t4 : ((d : Int) + Tt) % 4294967296 = (X4 : Int) := by omega
  have HN2 := Lib.hid (show rnd256 ⟨a, b', c, d, e, f, g, hh⟩ x = ⟨X0, a, b', c, X4, e, f, g⟩ by
    rw [HN.out, hT]
    congr 1
    omega)
  rw [HN2.out]
  have E1 := Lib.hid e1
  have E2 := Lib.hid e2
  have E3 := Lib.hid e3
  have E4 := Lib.hid e4
  have T1 := Lib.hid t1
  have T2 := Lib.hid t2
  have T3 := Lib.hid t3
  have T4 := Lib.hid t4
  clear HN hT hU hX0 hX4 l1 l2 l3 l4 e1 e2 e3 e4 t1 t2 t3 t4
  clear ha hb hc hd he hf hg hhh
  go_wp2_with fail
  go_quiet (fail)
  go_wp2_with fail
  go_quiet (first | (go_at_call 31; with_reducible refine Calls.quiet_eq2 (R1.out _)) | (go_at_call 31; with_reducible refine Calls.quiet_eq2 (R2.out _)) | (go_at_call 31; with_reducible refine Calls.quiet_eq2 (R3.out _)))
  go_wp2_with fail
  refine (R4.out _).mono ?_
  rintro _ _ ⟨rfl, rfl⟩
  go_wp2_with fail
  refine (R5.out _).mono ?_
  rintro _ _ ⟨rfl, rfl⟩
  go_wp2_with fail
  refine (R6.out _).mono ?_
  rintro _ _ ⟨rfl, rfl⟩
  have e1 := E1.out
  have e2 := E2.out
  have e3 := E3.out
  have e4 := E4.out
  have t1 := T1.out
  have t2 := T2.out
  have t3 := T3.out
  have t4 := T4.out
  go_wp2
  go_end0
  refine ⟨rfl, ?_⟩
  generalize hWX : World.drewN _ _ = wx
  have h2 : RW wx b .u32 37 [a, b', c, d, e, f, g, hh] := by subst hWX; exact H.out
  have h3 := put8_256 h2 rfl X0 a b' c X4 e f g
  have h4 : wx.heap.size = w.heap.size := by subst hWX; rfl
  rw [h4] at h3
  refine ⟨h3.1, ?_⟩
  have h5 : BelowX w.heap.size b w wx := by subst hWX; exact ⟨rfl, rfl, rfl, Nat.le_refl _, fun _ _ _ => rfl⟩
  exact h5.trans h3.2
end Go.Proofs.YtfjkinmmidmjaaaDoor
