/-
  One round of SHA-512, as package sha has it.
  Conditions: none.
-/
import Derived.Test.YtfjkinmmidmjaaaDoorShP512
namespace Go.Proofs.YtfjkinmmidmjaaaDoor
open Go.RowKit

theorem xlt512 {a b : Nat} (ha : a < 18446744073709551616) (hb : b < 18446744073709551616) : a ^^^ b < 18446744073709551616 := Nat.xor_lt_two_pow (n := 64) ha hb
theorem alt512 {a b : Nat} (ha : a < 18446744073709551616) : a &&& b < 18446744073709551616 := Nat.lt_of_le_of_lt Nat.and_le_left ha
theorem max512 : IntKind.u64.max = ((18446744073709551615 : Nat) : Int) := by decide
theorem bits_ch512 (e f g : Nat) (he : e < 18446744073709551616) (hf : f < 18446744073709551616) (hg : g < 18446744073709551616) : bits .xor .u64 (bits .and .u64 (e : Int) (f : Int)) (bits .and .u64 (bits .xor .u64 IntKind.u64.max (e : Int)) (g : Int)) = ((ch512 e f g : Nat) : Int) := by
  rw [max512, u64_and_nat _ _ he hf, u64_xor_nat _ _ (by decide) he, u64_and_nat _ _ (xlt512 (by decide) he) hg, u64_xor_nat _ _ (alt512 he) (alt512 (xlt512 (by decide) he))]
  rfl
theorem bits_mj512 (a b c : Nat) (ha : a < 18446744073709551616) (hb : b < 18446744073709551616) (hc : c < 18446744073709551616) : bits .xor .u64 (bits .xor .u64 (bits .and .u64 (a : Int) (b : Int)) (bits .and .u64 (a : Int) (c : Int))) (bits .and .u64 (b : Int) (c : Int)) = ((mj512 a b c : Nat) : Int) := by
  rw [u64_and_nat _ _ ha hb, u64_and_nat _ _ ha hc, u64_and_nat _ _ hb hc, u64_xor_nat _ _ (alt512 ha) (alt512 ha), u64_xor_nat _ _ (xlt512 (alt512 ha) (alt512 ha)) (alt512 hb)]
  rfl
theorem bits_x3512 (x y z : Nat) (hx : x < 18446744073709551616) (hy : y < 18446744073709551616) (hz : z < 18446744073709551616) : bits .xor .u64 (bits .xor .u64 (x : Int) (y : Int)) (z : Int) = ((x ^^^ y ^^^ z : Nat) : Int) := by
  rw [u64_xor_nat _ _ hx hy, u64_xor_nat _ _ (xlt512 hx hy) hz]
theorem bits_bs1512 (e : Nat) (he : e < 18446744073709551616) : bits .xor .u64 (bits .xor .u64 ((rl64 e 50 : Nat) : Int) ((rl64 e 46 : Nat) : Int)) ((rl64 e 23 : Nat) : Int) = ((bs1512 e : Nat) : Int) := bits_x3512 _ _ _ (rl64_lt _ _ he) (rl64_lt _ _ he) (rl64_lt _ _ he)
theorem bits_bs0512 (e : Nat) (he : e < 18446744073709551616) : bits .xor .u64 (bits .xor .u64 ((rl64 e 36 : Nat) : Int) ((rl64 e 30 : Nat) : Int)) ((rl64 e 25 : Nat) : Int) = ((bs0512 e : Nat) : Int) := bits_x3512 _ _ _ (rl64_lt _ _ he) (rl64_lt _ _ he) (rl64_lt _ _ he)
theorem lt_bs1512 (e : Nat) (he : e < 18446744073709551616) : bs1512 e < 18446744073709551616 := xlt512 (xlt512 (rl64_lt _ _ he) (rl64_lt _ _ he)) (rl64_lt _ _ he)
theorem lt_bs0512 (e : Nat) (he : e < 18446744073709551616) : bs0512 e < 18446744073709551616 := xlt512 (xlt512 (rl64_lt _ _ he) (rl64_lt _ _ he)) (rl64_lt _ _ he)
theorem lt_ch512 (e f g : Nat) (he : e < 18446744073709551616) : ch512 e f g < 18446744073709551616 := xlt512 (alt512 he) (alt512 (xlt512 (by decide) he))
theorem lt_mj512 (a b c : Nat) (ha : a < 18446744073709551616) (hb : b < 18446744073709551616) : mj512 a b c < 18446744073709551616 := xlt512 (xlt512 (alt512 ha) (alt512 ha)) (alt512 hb)
/-- The words that a round leaves, in a world whose block was written cell by cell. -/
theorem put8_512 {w : World} {b : Nat} {t : TypeId} {l : List Nat} (h : RW w b .u64 t l) (hl : l.length = 8) (x0 x1 x2 x3 x4 x5 x6 x7 : Nat) :
    RW ((((((((w.setCell ⟨b, 0, none⟩ (.int .u64 x0)).setCell ⟨b, 1, none⟩ (.int .u64 x1)).setCell ⟨b, 2, none⟩ (.int .u64 x2)).setCell ⟨b, 3, none⟩ (.int .u64 x3)).setCell ⟨b, 4, none⟩ (.int .u64 x4)).setCell ⟨b, 5, none⟩ (.int .u64 x5)).setCell ⟨b, 6, none⟩ (.int .u64 x6)).setCell ⟨b, 7, none⟩ (.int .u64 x7)) b .u64 t [x0, x1, x2, x3, x4, x5, x6, x7] ∧
    BelowX w.heap.size b w ((((((((w.setCell ⟨b, 0, none⟩ (.int .u64 x0)).setCell ⟨b, 1, none⟩ (.int .u64 x1)).setCell ⟨b, 2, none⟩ (.int .u64 x2)).setCell ⟨b, 3, none⟩ (.int .u64 x3)).setCell ⟨b, 4, none⟩ (.int .u64 x4)).setCell ⟨b, 5, none⟩ (.int .u64 x5)).setCell ⟨b, 6, none⟩ (.int .u64 x6)).setCell ⟨b, 7, none⟩ (.int .u64 x7)) := by
  match l, hl with
  | [_, _, _, _, _, _, _, _], _ =>
    refine ⟨(((((((h.set x0).set x1).set x2).set x3).set x4).set x5).set x6).set x7, ?_⟩
    refine BelowX.set8 ?_ _ _ _ _ _ _ _ _
    exact h.lt
set_option maxRecDepth 100000 in
set_option maxHeartbeats 2000000 in
theorem round512_any (b : Nat) (v : W8) (x : Nat) (w : World) (hv : v.lt 18446744073709551616) (h : RW w b .u64 46 v.l) :
    Calls Tryd.prog 30 #[.pointer (some ⟨b, 0, none⟩), .int .u64 (x : Int)] w fun e w' => e = .returned (.tuple #[]) ∧ RW w' b .u64 46 (rnd512 v x).l ∧ BelowX w.heap.size b w w' := by
  obtain ⟨a, b', c, d, e, f, g, hh⟩ := v
  obtain ⟨ha, hb, hc, hd, he, hf, hg, hhh⟩ := hv
  simp only at ha hb hc hd he hf hg hhh
  have c0 : w.cell? ⟨b, 0, none⟩ = some (.int .u64 (a : Int)) := h.cell (i := 0) (by show 0 < 8; decide)
  have c1 : w.cell? ⟨b, 1, none⟩ = some (.int .u64 (b' : Int)) := h.cell (i := 1) (by show 1 < 8; decide)
  have c2 : w.cell? ⟨b, 2, none⟩ = some (.int .u64 (c : Int)) := h.cell (i := 2) (by show 2 < 8; decide)
  have c3 : w.cell? ⟨b, 3, none⟩ = some (.int .u64 (d : Int)) := h.cell (i := 3) (by show 3 < 8; decide)
  have c4 : w.cell? ⟨b, 4, none⟩ = some (.int .u64 (e : Int)) := h.cell (i := 4) (by show 4 < 8; decide)
  have c5 : w.cell? ⟨b, 5, none⟩ = some (.int .u64 (f : Int)) := h.cell (i := 5) (by show 5 < 8; decide)
  have c6 : w.cell? ⟨b, 6, none⟩ = some (.int .u64 (g : Int)) := h.cell (i := 6) (by show 6 < 8; decide)
  have c7 : w.cell? ⟨b, 7, none⟩ = some (.int .u64 (hh : Int)) := h.cell (i := 7) (by show 7 < 8; decide)
  have f0 := h.frozen 0
  have f1 := h.frozen 1
  have f2 := h.frozen 2
  have f3 := h.frozen 3
  have f4 := h.frozen 4
  have f5 := h.frozen 5
  have f6 := h.frozen 6
  have f7 := h.frozen 7
  have H := Lib.hid h
  clear h
  go_enter Tryd.func30, Tryd.ntmps30
  have R1 := Lib.hid (fun w => right64_any e 50 14 w he (by decide) (by decide))
  have R2 := Lib.hid (fun w => right64_any e 46 18 w he (by decide) (by decide))
  have R3 := Lib.hid (fun w => right64_any e 23 41 w he (by decide) (by decide))
  have R4 := Lib.hid (fun w => right64_any a 36 28 w ha (by decide) (by decide))
  have R5 := Lib.hid (fun w => right64_any a 30 34 w ha (by decide) (by decide))
  have R6 := Lib.hid (fun w => right64_any a 25 39 w ha (by decide) (by decide))
  have e1 := bits_ch512 e f g he hf hg
  have e2 := bits_mj512 a b' c ha hb hc
  have e3 := bits_bs1512 e he
  have e4 := bits_bs0512 a ha
  have l1 := lt_ch512 e f g he
  have l2 := lt_mj512 a b' c ha hb
  have l3 := lt_bs1512 e he
  have l4 := lt_bs0512 a ha
  have HN := Lib.hid (show rnd512 ⟨a, b', c, d, e, f, g, hh⟩ x = ⟨((hh + bs1512 e + ch512 e f g + x) % 18446744073709551616 + (bs0512 a + mj512 a b' c)) % 18446744073709551616, a, b', c, (d + (hh + bs1512 e + ch512 e f g + x) % 18446744073709551616) % 18446744073709551616, e, f, g⟩ from rfl)
  generalize ch512 e f g = CH at e1 l1 HN
  generalize mj512 a b' c = MJ at e2 l2 HN
  generalize bs1512 e = S1 at e3 l3 HN
  generalize bs0512 a = S0 at e4 l4 HN
  obtain ⟨Tt, hT⟩ : ∃ z, (hh + S1 + CH + x) % 18446744073709551616 = z := ⟨_, rfl⟩
  obtain ⟨Uu, hU⟩ : ∃ z, (S0 + MJ) % 18446744073709551616 = z := ⟨_, rfl⟩
  obtain ⟨X0, hX0⟩ : ∃ z, (Tt + Uu) % 18446744073709551616 = z := ⟨_, rfl⟩
  obtain ⟨X4, hX4⟩ : ∃ z, (d + Tt) % 18446744073709551616 = z := ⟨_, rfl⟩
  have t1 : IntKind.u64.wrap (IntKind.u64.wrap (IntKind.u64.wrap ((hh : Int) + S1) + CH) + x) = (Tt : Int) := by rw [IntKind.wrap_u64, IntKind.wrap_u64, IntKind.wrap_u64]; omega
  have t2 : IntKind.u64.wrap ((S0 : Int) + MJ) = (Uu : Int) := by rw [IntKind.wrap_u64]; omega
  have t3 : IntKind.u64.wrap ((Tt : Int) + Uu) = (X0 : Int) := by rw [IntKind.wrap_u64]; omega
  have t4 : IntKind.u64.wrap ((d : Int) + Tt) = (X4 : Int) := by rw [IntKind.wrap_u64]; omega
  have HN2 := Lib.hid (show rnd512 ⟨a, b', c, d, e, f, g, hh⟩ x = ⟨X0, a, b', c, X4, e, f, g⟩ by
    rw [HN.out, hT]
    congr 1
    omega)
  rw [HN2.out]
  have E1 := Lib.hid e1
  have E2 := Lib.hid e2
  have E3 := Lib.hid e3
  have E4 := Lib.hid e4
  have T1 := Lib.hid t1
  have T2 := Lib.hid t2
  have T3 := Lib.hid t3
  have T4 := Lib.hid t4
  clear HN hT hU hX0 hX4 l1 l2 l3 l4 e1 e2 e3 e4 t1 t2 t3 t4
  clear ha hb hc hd he hf hg hhh
  go_wp2_with fail
  go_quiet (fail)
  go_wp2_with fail
  go_quiet (first | (go_at_call 32; with_reducible refine Calls.quiet_eq2 (R1.out _)) | (go_at_call 32; with_reducible refine Calls.quiet_eq2 (R2.out _)) | (go_at_call 32; with_reducible refine Calls.quiet_eq2 (R3.out _)))
  go_wp2_with fail
  refine (R4.out _).mono ?_
  rintro _ _ ⟨rfl, rfl⟩
  go_wp2_with fail
  refine (R5.out _).mono ?_
  rintro _ _ ⟨rfl, rfl⟩
  go_wp2_with fail
  refine (R6.out _).mono ?_
  rintro _ _ ⟨rfl, rfl⟩
  have e1 := E1.out
  have e2 := E2.out
  have e3 := E3.out
  have e4 := E4.out
  have t1 := T1.out
  have t2 := T2.out
  have t3 := T3.out
  have t4 := T4.out
  go_wp2
  go_end0
  refine ⟨rfl, ?_⟩
  generalize hWX : World.drewN _ _ = wx
  have h2 : RW wx b .u64 46 [a, b', c, d, e, f, g, hh] := by subst hWX; exact H.out
  have h3 := put8_512 h2 rfl X0 a b' c X4 e f g
  have h4 : wx.heap.size = w.heap.size := by subst hWX; rfl
  rw [h4] at h3
  refine ⟨h3.1, ?_⟩
  have h5 : BelowX w.heap.size b w wx := by subst hWX; exact ⟨rfl, rfl, rfl, Nat.le_refl _, fun _ _ _ => rfl⟩
  exact h5.trans h3.2
end Go.Proofs.YtfjkinmmidmjaaaDoor
