/-
  The document's Sum256.
  Conditions: none.
-/
import Derived.Test.YtfjkinmmidmjaaaDoorShZ512
import Derived.Test.YtfjkinmmidmjaaaDoorShK256
import Derived.Test.YtfjkinmmidmjaaaDoorShM256
import Derived.Test.YtfjkinmmidmjaaaDoorShR256
import Derived.Test.YtfjkinmmidmjaaaDoorShE256
namespace Go.Proofs.YtfjkinmmidmjaaaDoor
open Go.RowKit

/-- What stays as it is while the document takes the blocks: its table, its result's cells, the padded bytes. -/
structure JEnv256 (w wr : World) (n0 nk : Nat) (g : Nat) (p : List UInt8) : Prop where
  table : RW wr nk .u64 52 cube
  out : BT wr n0 24 (zerB 32)
  bytes : ∀ i (h : i < p.length), wr.cell? ⟨g, i, none⟩ = some (.int .u8 (p[i].toNat : Int))
  below : Below n0 w wr
theorem JEnv256.keep {w wr wq : World} {n0 nk g M : Nat} {p : List UInt8} (h : JEnv256 w wr n0 nk g p) (hk : nk < M) (h0 : n0 < M) (hg : g < M) (hb : ∀ k, k < M → k = nk ∨ k = n0 ∨ k = g ∨ k < n0 → wq.heap[k]? = wr.heap[k]?) (ho : wq.os = wr.os) (ht : wq.tape = wr.tape) (hu : wq.output = wr.output) (hs : wr.heap.size ≤ wq.heap.size) : JEnv256 w wq n0 nk g p :=
  ⟨h.table.other (hb nk hk (.inl rfl)), h.out.other (hb n0 h0 (.inr (.inl rfl))), fun i hi => by rw [World.cell?_of_block (hb g hg (.inr (.inr (.inl rfl))))]; exact h.bytes i hi,
    ⟨ho.trans h.below.os, ht.trans h.below.tape, hu.trans h.below.output, Nat.le_trans h.below.size hs, fun k hk2 => (hb k (by omega) (.inr (.inr (.inr hk2)))).trans (h.below.block k hk2)⟩⟩
theorem pad256_len (n : Nat) : ∃ N, n + (pad256 n).length = 64 * (N + 1) := by
  refine ⟨(n + (pad256 n).length) / 64 - 1, ?_⟩
  rw [pad256_eq]
  simp only [List.length_append, List.length_cons, List.length_nil, List.length_replicate, List.length_map, List.length_range]
  omega
theorem wraps_u32Z (n : Int) (h₀ : 0 ≤ n) (h₁ : n < 2 ^ 32) : IntKind.u32.wrap n = n := by rw [IntKind.wrap_u32]; omega
theorem wds256_get : ∀ (n : Nat) (p : List UInt8), p.length = 4 * n → ∀ i, i < n → ∀ x0 x1 x2 x3 : UInt8, p[4 * i]? = some x0 → p[4 * i + 1]? = some x1 → p[4 * i + 2]? = some x2 → p[4 * i + 3]? = some x3 → (wds256 p).getD i 0 = ((x0.toNat * 256 + x1.toNat) * 256 + x2.toNat) * 256 + x3.toNat
  | 0, _, _, i, hi, _, _, _, _, _, _, _, _ => absurd hi (Nat.not_lt_zero _)
  | n + 1, p, hp, i, hi, x0, x1, x2, x3, h0, h1, h2, h3 => by
    match p, hp with
    | a :: b :: c :: d :: r, hp =>
      cases i with
      | zero =>
        simp at h0 h1 h2 h3
        subst h0 h1 h2 h3
        rfl
      | succ i =>
        simp only [wds256, List.getD_cons_succ]
        rw [show 4 * (i + 1) = 4 * i + 4 by omega] at h0 h1 h2 h3
        exact wds256_get n r (by simp only [List.length_cons] at hp; omega) i (by omega) x0 x1 x2 x3 (by simpa using h0) (by rw [show 4 * i + 4 + 1 = (4 * i + 1) + 4 by omega] at h1; simpa using h1) (by rw [show 4 * i + 4 + 2 = (4 * i + 2) + 4 by omega] at h2; simpa using h2) (by rw [show 4 * i + 4 + 3 = (4 * i + 3) + 4 by omega] at h3; simpa using h3)
set_option maxRecDepth 100000 in
set_option maxHeartbeats 8000000 in
theorem rsum256R_any (v : Value) (b : List UInt8) (w : World) (hlen : b.length ≤ 100000) (hb : Bys w v b) :
    Calls Tryd.prog 8 #[v] w fun e w' => e = .returned (.agg (byteVals (sum256 b)).toArray) ∧ Below w.heap.size w w' := by
  have HBY := Lib.hid hb
  have z26 := zd256
  have z55 := zv512
  have z64w := zv256
  have z36 : ∀ w, (zeroValue 36).run Tryd.prog w = .ok (.agg (nums .u32 (zer 8))) w := fun w => (zero_of_info (P := Tryd.prog) (t := 36) (v := .agg (nums .u32 (zer 8))) (n := 8) (by kernel_rfl)).1 w
  have z48 : ∀ w, (zeroValue 45).run Tryd.prog w = .ok (.agg (nums .u64 (zer 8))) w := fun w => (zero_of_info (P := Tryd.prog) (t := 45) (v := .agg (nums .u64 (zer 8))) (n := 8) (by kernel_rfl)).1 w
  have HSC := Lib.hid (show (Tryd.prog.info? 52).map (·.size) = some (nums .u64 cube).size by kernel_rfl)
  have HSQ := Lib.hid (show (Tryd.prog.info? 45).map (·.size) = some (nums .u64 square).size by kernel_rfl)
  clear hb
  go_enter Tryd.func8, Tryd.ntmps8
  go_wp2_with fail
  generalize hW1 : World.alloc _ _ = W1
  obtain ⟨n0, hn0⟩ : ∃ n, w.heap.size = n := ⟨_, rfl⟩
  have HN0 := Lib.hid hn0
  have HR1 := Lib.hid (show BT W1 n0 24 (zerB 32) by subst hW1; rw [← hn0]; exact Go.heap_alloc_new _ _)
  have HB1 := Lib.hid (show Below n0 w W1 by subst hW1; rw [← hn0]; exact (Below.refl _ w).alloc (Nat.le_refl _) _)
  have HZ1 := Lib.hid (show W1.heap.size = n0 + 1 by subst hW1; rw [← hn0]; simp)
  rw [hn0]
  clear hW1 hn0
  refine (rround_any W1).mono ?_
  rintro e w2 ⟨rfl, hb2⟩
  have HB2 := Lib.hid hb2
  clear hb2
  go_wp2_with fail
  refine (rfirst_any w2).mono ?_
  rintro e w3 ⟨rfl, hb3⟩
  have HB3 := Lib.hid (bchain HB2.out hb3)
  clear hb3 HB2
  go_wp2_with (first
    | (refine wpList_store_row rfl 52 _ _ rfl w3.heap.size (nums .u64 cube) rfl rfl 52 _ (alloc2_at w3 _ _).1 HSC.out ?hold1 (nums_one _ _) ?_)
    | (refine wpList_store_row rfl 45 _ _ rfl (w3.heap.size + 1) (nums .u64 square) rfl rfl 45 _ ((setRow_other _ _ _ _ (by omega)).trans (alloc2_at w3 _ _).2) HSQ.out ?hold2 (nums_one _ _) (Stop.out ?_)))
  case hold1 => rw [size_nums, size_nums, zer_len]; rfl
  case hold2 => rw [size_nums, size_nums, zer_len]; rfl
  generalize hW4 : World.setRow _ _ _ = W4
  obtain ⟨p1, p2, p3⟩ : RW W4 w3.heap.size .u64 52 cube ∧ RW W4 (w3.heap.size + 1) .u64 45 square ∧ Below w3.heap.size w3 W4 := by subst hW4; exact put2' w3 _ _ _ _ _ _
  have p4 : W4.heap.size = w3.heap.size + 1 + 1 := by subst hW4; rw [setRow_size, setRow_size]; simp
  obtain ⟨nk, hnk⟩ : ∃ n, w3.heap.size = n := ⟨_, rfl⟩
  have HTB := Lib.hid (hnk ▸ p1)
  have HFI := Lib.hid (hnk ▸ p2)
  have HSZ4 := Lib.hid (hnk ▸ p4)
  have HB4 := Lib.hid (bchain HB3.out p3)
  have hn0k : n0 < nk := by rw [← hnk]; have := HB3.out.size; have := HZ1.out; omega
  rw [hnk]
  clear hW4 p1 p2 p3 p4 hnk HB3
  refine ⟨?_⟩
  go_wp2_with fail
  generalize hWh : World.alloc _ _ = Wh
  have hn0h : n0 < nk + 2 := by omega
  have HRH := Lib.hid (show RW Wh (nk + 2) .u32 36 ((List.range 0).map sw0256 ++ List.replicate (8 - 0) 0) by subst hWh; have := Go.heap_alloc_new W4 (.cells (nums .u32 (zer 8)) 36); rw [HSZ4.out] at this; exact this)
  have HTBh := Lib.hid (show RW Wh nk .u64 52 cube by subst hWh; exact HTB.out.other (Go.heap_alloc_old _ _ HTB.out.lt))
  have HFIh := Lib.hid (show RW Wh (nk + 1) .u64 45 square by subst hWh; exact HFI.out.other (Go.heap_alloc_old _ _ HFI.out.lt))
  have HBh := Lib.hid (show Below W1.heap.size W1 Wh by subst hWh; exact HB4.out.alloc (by have := HB4.out.size; exact this) _)
  rw [HSZ4.out]
  clear hWh HTB HFI HB4 HSZ4
  go_loopw [6] (fun iv wr => ∃ (k : Nat), iv = .int .i64 k ∧ k ≤ 8 ∧ RW wr (nk + 2) .u32 36 ((List.range k).map sw0256 ++ List.replicate (8 - k) 0) ∧ RW wr nk .u64 52 cube ∧ RW wr (nk + 1) .u64 45 square ∧ Below W1.heap.size W1 wr) (fun i _ => 8 - (intOf i).toNat)
  case atStart => exact ⟨0, rfl, Nat.zero_le _, HRH.out, HTBh.out, HFIh.out, HBh.out⟩
  case round =>
    obtain ⟨k, rfl, hk, hrw, htb, hfi, hbel⟩ := hrel
    have HRW := Lib.hid hrw
    have HTB := Lib.hid htb
    have HFI := Lib.hid hfi
    have HB4 := Lib.hid hbel
    clear hrw htb hfi hbel HRH HTBh HFIh HBh
    by_cases hlt : k < 8
    · have hlt' : (k : Int) < 8 := by omega
      have hcc := HFI.out.cell (i := k) (show k < 8 from hlt)
      have hq := square_lt k
      have HSW := Lib.hid (show sw0256 k = square.getD k 0 / 4294967296 from rfl)
      generalize square.getD k 0 = C at hcc HSW hq
      have hce := HRW.out.cell (i := k) (by simp; omega)
      generalize ((List.range k).map sw0256 ++ List.replicate (8 - k) 0).getD k 0 = o at hce
      have hfr := HRW.out.frozen k
      generalize hz0 : sw0256 k = z at HSW
      have hc1 : (C : Int) / 4294967296 = (z : Int) := by have := HSW.out; omega
      have hc2 : (z : Int) % 4294967296 = (z : Int) := by have := HSW.out; omega
      have HS := Lib.hid (show RW (wr.setCell ⟨nk + 2, k, none⟩ (.int .u32 (z : Int))) (nk + 2) .u32 36 ((List.range (k + 1)).map sw0256 ++ List.replicate (8 - (k + 1)) 0) by
        have h1 := HRW.out.set (i := k) z
        have h2 := fill_set sw0256 0 k (8 - (k + 1))
        rw [show 8 - (k + 1) + 1 = 8 - k by omega, hz0] at h2
        rw [← h2]; exact h1)
      clear hz0
      go_wp2
      go_roundw
      case rel => exact ⟨k + 1, rfl, hlt, HS.out, HTB.out.other (setCell_other _ (by omega)), HFI.out.other (setCell_other _ (by omega)), HB4.out.setCell (p := ⟨nk + 2, k, none⟩) (by show W1.heap.size ≤ nk + 2; rw [HZ1.out]; omega) _⟩
      case measure => simp [intOf]; omega
    · have hlt' : ¬ (k : Int) < 8 := by omega
      have HHH := Lib.hid (show RW wr (nk + 2) .u32 36 st256.l by
        have hrw := HRW.out
        rw [show k = 8 by omega, show 8 - 8 = 0 from rfl, List.replicate_zero, List.append_nil, ← st256_l] at hrw
        exact hrw)
      have HNK := Lib.hid (show nk + 2 < wr.heap.size from HHH.out.lt)
      clear HRW HFI
      have HY4 := Lib.hid (HBY.out.below (HN0.out.symm ▸ (HB1.out.trans ((HB4.out.mono (by rw [HZ1.out]; omega)))) ))
      go_wp2_with fail
      refine (padded256_any v b wr hlen HY4.out).mono ?_
      rintro e w5 ⟨v', rfl, ho5, hb5⟩
      obtain ⟨N, hPN⟩ := pad256_len b.length
      obtain ⟨P, hP⟩ : ∃ P, b ++ pad256 b.length = P := ⟨_, rfl⟩
      rw [hP] at ho5
      have HPL := Lib.hid (show P.length = 64 * (N + 1) by rw [← hP, List.length_append]; exact hPN)
      have hPz : P.length ≤ 200000 := by
        rw [← hP, List.length_append, pad256_eq]
        simp only [List.length_append, List.length_cons, List.length_nil, List.length_replicate, List.length_map, List.length_range]
        omega
      obtain ⟨g, C, rfl, hg1, hg2, hgc⟩ := own_cells ho5 (by rw [HPL.out]; omega)
      have HPE := Lib.hid hP
      have hnkW : nk + 2 < wr.heap.size := HNK.out
      have hE : JEnv256 w w5 n0 nk g P := by
        refine ⟨HTB.out.other (hb5.block nk (by omega)), HR1.out.other ((hb5.block n0 (by omega)).trans (HB4.out.block n0 (by rw [HZ1.out]; omega))), hgc, ?_⟩
        have h4 : Below n0 w wr := HB1.out.trans (HB4.out.mono (by rw [HZ1.out]; omega))
        exact h4.trans (hb5.mono (by omega))
      have HE5 := Lib.hid hE
      have HH5 := Lib.hid (show RW w5 (nk + 2) .u32 36 st256.l from HHH.out.other (hb5.block (nk + 2) (by omega)))
      have hgk : nk + 2 < g := by omega
      clear ho5 hb5 hgc hP hPN HTB HHH HB4 HR1 HB1 HZ1 HNK HY4 HBY hE HSC HSQ z26 z36
      go_wp2_with fail
      go_loopw [8] (fun iv wr => ∃ (a j : Nat) (u : W8), iv = .int .i64 a ∧ a = 64 * j ∧ j ≤ N + 1 ∧ u.lt 4294967296 ∧ RW wr (nk + 2) .u32 36 u.l ∧ g < wr.heap.size ∧ JEnv256 w wr n0 nk g P ∧ blk256 (N + 1 - j) u (P.drop a) = blk256 (N + 1) st256 P) (fun i _ => P.length - (intOf i).toNat)
      case atStart => exact ⟨0, 0, st256, rfl, rfl, Nat.zero_le _, st256_lt, HH5.out, by omega, HE5.out, rfl⟩
      case round =>
        obtain ⟨a, j, u, rfl, haj, hj, hu, hru, hgw, henv, hgo⟩ := hrel
        have HAJ := Lib.hid haj
        have HU := Lib.hid hu
        have HRU := Lib.hid hru
        have HENV := Lib.hid henv
        have HGO := Lib.hid hgo
        have HGO0 := HGO
        have HPL2 := HPL.out
        clear haj hu hru henv hgo HH5 HE5
        by_cases hlt : j < N + 1
        · have hla : a + 64 ≤ P.length := by have := HAJ.out; omega
          have hla' : (a : Int) < (P.length : Int) := by omega
          obtain ⟨c, hc⟩ : ∃ c, (P.drop a).take 64 = c := ⟨_, rfl⟩
          have HCL := Lib.hid (show c.length = 64 by rw [← hc, List.length_take, List.length_drop]; omega)
          have HCB := Lib.hid (fun k (hk : k < 64) => show ∃ x, c[k]? = some x ∧ wr.cell? ⟨g, a + k, none⟩ = some (.int .u8 (x.toNat : Int)) by
            refine ⟨P[a + k], ?_, HENV.out.bytes (a + k) (by omega)⟩
            rw [← hc, List.getElem?_take, if_pos hk, List.getElem?_drop, List.getElem?_eq_getElem (by omega)])
          have HC := Lib.hid hc
          clear hc HPL2
          go_wp2_with fail
          generalize hW6 : World.alloc _ _ = W6
          obtain ⟨M, hM⟩ : ∃ n, wr.heap.size = n := ⟨_, rfl⟩
          have HRW := Lib.hid (show RW W6 M .u32 56 (List.replicate 64 0) by subst hW6; rw [← hM]; exact Go.heap_alloc_new _ _)
          obtain ⟨W0, HB6, HRU0, HENV0, HCB0⟩ : ∃ W0, Hid (Below M W0 W6) ∧ Hid (RW W0 (nk + 2) .u32 36 u.l) ∧ Hid (JEnv256 w W0 n0 nk g P ∧ W0.heap.size = M) ∧ Hid (∀ k, k < 64 → ∃ x, c[k]? = some x ∧ W0.cell? ⟨g, a + k, none⟩ = some (.int .u8 (x.toNat : Int))) :=
            ⟨wr, Lib.hid (by subst hW6; rw [← hM]; exact (Below.refl _ wr).alloc (Nat.le_refl _) _), HRU, Lib.hid ⟨HENV.out, hM⟩, HCB⟩
          rw [hM] at hgw ⊢
          clear hW6 hM HRU HENV HCB
          go_loopw [10] (fun iv wq => ∃ (k : Nat), iv = .int .i64 k ∧ k ≤ 16 ∧ RW wq M .u32 56 ((wds256 c).take k ++ List.replicate (64 - k) 0) ∧ Below M W0 wq) (fun i _ => 16 - (intOf i).toNat)
          case atStart => exact ⟨0, rfl, Nat.zero_le _, HRW.out, HB6.out⟩
          case round =>
            obtain ⟨k, rfl, hk, hrw, hbel⟩ := hrel
            have HRQ := Lib.hid hrw
            have HBQ := Lib.hid hbel
            have HWL := Lib.hid (wds256_len 16 c (by have := HCL.out; omega))
            clear hrw hbel HRW HB6
            by_cases hlt2 : k < 16
            · as_aux_lemma =>
                have hlt2' : (k : Int) < 16 := by omega
                obtain ⟨x0, hx0, hy0⟩ := HCB0.out (4 * k) (by omega)
                obtain ⟨x1, hx1, hy1⟩ := HCB0.out (4 * k + 1) (by omega)
                obtain ⟨x2, hx2, hy2⟩ := HCB0.out (4 * k + 2) (by omega)
                obtain ⟨x3, hx3, hy3⟩ := HCB0.out (4 * k + 3) (by omega)
                have HWD := Lib.hid (wds256_get 16 c (by have := HCL.out; omega) k hlt2 _ _ _ _ hx0 hx1 hx2 hx3)
                have hL := x0.toNat_lt
                have hL1 := x1.toNat_lt
                have hL2 := x2.toNat_lt
                have hL3 := x3.toNat_lt
                generalize x0.toNat = b0 at *
                generalize x1.toNat = b1 at *
                generalize x2.toNat = b2 at *
                generalize x3.toNat = b3 at *
                obtain ⟨e, he⟩ : ∃ e, 4 * k = e := ⟨_, rfl⟩
                rw [he] at hy0 hy1 hy2 hy3
                obtain ⟨s, hs⟩ : ∃ s, a + e = s := ⟨_, rfl⟩
                rw [hs] at hy0
                rw [← Nat.add_assoc, hs] at hy1 hy2 hy3
                have d0 : wr.cell? ⟨g, s, none⟩ = some (.int .u8 (b0 : Int)) := by rw [World.cell?_of_block (HBQ.out.block g hgw)]; exact hy0
                have d1 : wr.cell? ⟨g, s + 1, none⟩ = some (.int .u8 (b1 : Int)) := by rw [World.cell?_of_block (HBQ.out.block g hgw)]; exact hy1
                have d2 : wr.cell? ⟨g, s + 2, none⟩ = some (.int .u8 (b2 : Int)) := by rw [World.cell?_of_block (HBQ.out.block g hgw)]; exact hy2
                have d3 : wr.cell? ⟨g, s + 3, none⟩ = some (.int .u8 (b3 : Int)) := by rw [World.cell?_of_block (HBQ.out.block g hgw)]; exact hy3
                have m1 : (4 : Int) * (k : Int) = (e : Int) := by omega
                have m2 : IntKind.i64.wrap (e : Int) = (e : Int) := by rw [IntKind.wrap_i64]; omega
                have m3 : (a : Int) + (e : Int) = (s : Int) := by omega
                have m4 : IntKind.i64.wrap (s : Int) = (s : Int) := by rw [IntKind.wrap_i64]; omega
                have m5 : IntKind.i64.wrap ((s : Int) + 1) = (s : Int) + 1 := by rw [IntKind.wrap_i64]; omega
                have m6 : IntKind.i64.wrap ((s : Int) + 2) = (s : Int) + 2 := by rw [IntKind.wrap_i64]; omega
                have m7 : IntKind.i64.wrap ((s : Int) + 3) = (s : Int) + 3 := by rw [IntKind.wrap_i64]; omega
                have s0 : (0 : Int) ≤ (s : Int) := by omega
                have s1 : (0 : Int) ≤ (s : Int) + 1 := by omega
                have s2 : (0 : Int) ≤ (s : Int) + 2 := by omega
                have s3 : (0 : Int) ≤ (s : Int) + 3 := by omega
                have p0 : (s : Int) < (P.length : Int) := by omega
                have p1 : (s : Int) + 1 < (P.length : Int) := by omega
                have p2 : (s : Int) + 2 < (P.length : Int) := by omega
                have p3 : (s : Int) + 3 < (P.length : Int) := by omega
                have t1 : ((s : Int) + 1).toNat = s + 1 := by omega
                have t2 : ((s : Int) + 2).toNat = s + 2 := by omega
                have t3 : ((s : Int) + 3).toNat = s + 3 := by omega
                have q0 : (b0 : Int) % 4294967296 = (b0 : Int) := by omega
                have q1 : (b1 : Int) % 4294967296 = (b1 : Int) := by omega
                have q2 : (b2 : Int) % 4294967296 = (b2 : Int) := by omega
                have q3 : (b3 : Int) % 4294967296 = (b3 : Int) := by omega
                obtain ⟨z0, hz0⟩ : ∃ z, b0 * 16777216 = z := ⟨_, rfl⟩
                obtain ⟨z1, hz1⟩ : ∃ z, b1 * 65536 = z := ⟨_, rfl⟩
                obtain ⟨z2, hz2⟩ : ∃ z, b2 * 256 = z := ⟨_, rfl⟩
                have v0 : (b0 : Int) * 16777216 = (z0 : Int) := by omega
                have v1 : (b1 : Int) * 65536 = (z1 : Int) := by omega
                have v2 : (b2 : Int) * 256 = (z2 : Int) := by omega
                have v0' : (z0 : Int) % 4294967296 = (z0 : Int) := by omega
                have v1' : (z1 : Int) % 4294967296 = (z1 : Int) := by omega
                have v2' : (z2 : Int) % 4294967296 = (z2 : Int) := by omega
                obtain ⟨y1, hy1'⟩ : ∃ z, z0 + z1 = z := ⟨_, rfl⟩
                have o1 : bits .or .u32 (z0 : Int) (z1 : Int) = (y1 : Int) := by
                  rw [bits_join .u32 32 (by decide) wraps_u32Z 24 _ _ (by omega) (by omega) (by omega) (by omega) (by omega) (by omega)]; omega
                obtain ⟨y2, hy2'⟩ : ∃ z, y1 + z2 = z := ⟨_, rfl⟩
                have o2 : bits .or .u32 (y1 : Int) (z2 : Int) = (y2 : Int) := by
                  rw [bits_join .u32 32 (by decide) wraps_u32Z 16 _ _ (by omega) (by omega) (by omega) (by omega) (by omega) (by omega)]; omega
                obtain ⟨y3, hy3'⟩ : ∃ z, y2 + b3 = z := ⟨_, rfl⟩
                have o3 : bits .or .u32 (y2 : Int) (b3 : Int) = (y3 : Int) := by
                  rw [bits_join .u32 32 (by decide) wraps_u32Z 8 _ _ (by omega) (by omega) (by omega) (by omega) (by omega) (by omega)]; omega
                have HWV := Lib.hid (show (wds256 c).getD k 0 = y3 by have := HWD.out; omega)
                have HST := Lib.hid (show ((wds256 c).take k ++ List.replicate (64 - k) 0).set k y3 = (wds256 c).take (k + 1) ++ List.replicate (64 - (k + 1)) 0 by
                  have h := pad_set_256 ((wds256 c).take k) (64 - (k + 1)) y3
                  have hl : ((wds256 c).take k).length = k := by rw [List.length_take, HWL.out]; omega
                  rw [hl, show 64 - (k + 1) + 1 = 64 - k by omega] at h
                  rw [h, ← HWV.out, List.getD_eq_getElem?_getD, List.getElem?_eq_getElem (by rw [HWL.out]; exact hlt2), List.take_succ_eq_append_getElem (by rw [HWL.out]; exact hlt2)]
                  rfl)
                have hlk : k < ((wds256 c).take k ++ List.replicate (64 - k) 0).length := by simp; omega
                have hce := HRQ.out.cell (i := k) hlk
                have hfr := HRQ.out.frozen k
                generalize ((wds256 c).take k ++ List.replicate (64 - k) 0).getD k 0 = oo at hce
                have hk64 : (k : Int) < 64 := by omega
                have hk0 : (0 : Int) ≤ (k : Int) := by omega
                clear hx0 hx1 hx2 hx3 hy0 hy1 hy2 hy3 he hs hz0 hz1 hz2 hy1' hy2' hy3' hL hL1 hL2 hL3 hlk HWD HWV
                go_wp2_with fail
                go_still_tail 43, (by decide +kernel)
                change wpList _ _ _ _ _ wr.drew
                generalize hWY : wr.drew = wy
                have HRY := Lib.hid (show RW wy M .u32 56 ((wds256 c).take k ++ List.replicate (64 - k) 0) by subst hWY; exact HRQ.out)
                have HBY2 := Lib.hid (show Below M W0 wy by subst hWY; exact HBQ.out.drew)
                have hcy : wy.cell? ⟨M, k, none⟩ = some (.int .u32 (oo : Int)) := by subst hWY; exact hce
                have hfy := HRY.out.frozen k
                clear hWY hce d0 d1 d2 d3 HRQ HBQ
                go_wp2
                go_roundw
                case rel => exact ⟨k + 1, rfl, hlt2, by rw [← HST.out]; exact HRY.out.set y3, HBY2.out.setCell (p := ⟨M, k, none⟩) (Nat.le_refl _) _⟩
                case measure => simp [intOf]; omega
            · have hlt2' : ¬ (k : Int) < 16 := by omega
              have hrw2 := HRQ.out
              rw [show k = 16 by omega, List.take_of_length_le (by rw [HWL.out]; exact Nat.le_refl _)] at hrw2
              have HRW2 := Lib.hid hrw2
              clear HRQ hrw2
              go_wp2_with fail
              go_loopw [11] (fun iv wq => ∃ (jj : Nat) (l : List Nat), iv = .int .i64 jj ∧ 16 ≤ jj ∧ jj ≤ 64 ∧ l.length = jj ∧ RW wq M .u32 56 (l ++ List.replicate (64 - jj) 0) ∧ Below M W0 wq ∧ (∀ i, l.getD i 0 < 4294967296) ∧ sc256 (64 - jj) l = sc256 (64 - 16) (wds256 c)) (fun i _ => 64 - (intOf i).toNat)
              case atStart => exact ⟨16, _, rfl, Nat.le_refl _, by decide, HWL.out, HRW2.out, HBQ.out, wds256_lt 16 c (by have := HCL.out; omega), rfl⟩
              case round =>
                obtain ⟨jj, l, rfl, hj16, hj, hl, hrw, hbel, hall, hgo⟩ := hrel
                have HL := Lib.hid hl
                have HRW := Lib.hid hrw
                have HBEL2 := Lib.hid hbel
                have HALL := Lib.hid hall
                have HGO := Lib.hid hgo
                clear hl hrw hbel hall hgo HRW2 HBQ
                by_cases hlt2 : jj < 64
                · have hlt2' : (jj : Int) < 64 := by omega
                  have HLEN := Lib.hid (show (l ++ List.replicate (64 - jj) 0).length = 64 by rw [List.length_append, List.length_replicate, HL.out]; omega)
                  obtain ⟨j16, hj1⟩ : ∃ a, jj - 16 = a := ⟨_, rfl⟩
                  obtain ⟨j15, hj2⟩ : ∃ a, jj - 15 = a := ⟨_, rfl⟩
                  obtain ⟨j7, hj3⟩ : ∃ a, jj - 7 = a := ⟨_, rfl⟩
                  obtain ⟨j2, hj4⟩ : ∃ a, jj - 2 = a := ⟨_, rfl⟩
                  have i1 : (jj : Int) - 16 = (j16 : Int) := by omega
                  have i2 : (jj : Int) - 15 = (j15 : Int) := by omega
                  have i3 : (jj : Int) - 7 = (j7 : Int) := by omega
                  have i4 : (jj : Int) - 2 = (j2 : Int) := by omega
                  have wj1 : IntKind.i64.wrap (j16 : Int) = (j16 : Int) := by rw [IntKind.wrap_i64]; omega
                  have wj3 : IntKind.i64.wrap (j7 : Int) = (j7 : Int) := by rw [IntKind.wrap_i64]; omega
                  have b1 : (j16 : Int) < 64 := by omega
                  have b2 : (j15 : Int) < 64 := by omega
                  have b3 : (j7 : Int) < 64 := by omega
                  have b4 : (j2 : Int) < 64 := by omega
                  have c1 := HRW.out.cell (i := j16) (by rw [HLEN.out]; omega)
                  have c2 := HRW.out.cell (i := j15) (by rw [HLEN.out]; omega)
                  have c3 := HRW.out.cell (i := j7) (by rw [HLEN.out]; omega)
                  have c4 := HRW.out.cell (i := j2) (by rw [HLEN.out]; omega)
                  have fr := HRW.out.frozen jj
                  rw [pad_get_256 _ _ _ (by rw [HL.out]; omega)] at c1 c2 c3 c4
                  have m1 := HALL.out j16
                  have m2 := HALL.out j15
                  have m3 := HALL.out j7
                  have m4 := HALL.out j2
                  have HX := Lib.hid (show nx256 l = (l.getD j16 0 + l.getD j7 0 + ss0256 (l.getD j15 0) + ss1256 (l.getD j2 0)) % 4294967296 by unfold nx256; rw [HL.out, hj1, hj2, hj3, hj4])
                  generalize l.getD j16 0 = y1 at c1 m1 HX
                  generalize l.getD j15 0 = y2 at c2 m2 HX
                  generalize l.getD j7 0 = y3 at c3 m3 HX
                  generalize l.getD j2 0 = y4 at c4 m4 HX
                  have R1 := Lib.hid (fun w => rot32_any y2 25 25 w m2 (by decide) (by decide))
                  have R2 := Lib.hid (fun w => rot32_any y2 14 14 w m2 (by decide) (by decide))
                  have R3 := Lib.hid (fun w => rot32_any y4 15 15 w m4 (by decide) (by decide))
                  have R4 := Lib.hid (fun w => rot32_any y4 13 13 w m4 (by decide) (by decide))
                  have E1 := Lib.hid (bits_ss0256 y2 m2)
                  have E2 := Lib.hid (bits_ss1256 y4 m4)
                  generalize ss0256 y2 = z2 at E1 HX
                  generalize ss1256 y4 = z4 at E2 HX
                  generalize hnx : nx256 l = X at HX
                  have T1 := Lib.hid (show ((y1 : Int) + y3 + z2 + z4) % 4294967296 = (X : Int) by have := HX.out; omega)
                  have HSX := Lib.hid (show sc256 (64 - (jj + 1)) (l ++ [X]) = sc256 (64 - 16) (wds256 c) by
                    rw [← HGO.out, show 64 - jj = (64 - (jj + 1)) + 1 by omega, sc256, hnx])
                  have HXL := Lib.hid (show X < 4294967296 by rw [HX.out]; exact Nat.mod_lt _ (by decide))
                  clear m1 m2 m3 m4 hj1 hj2 hj3 hj4 hnx
                  go_wp2_with fail
                  go_quiet (fail)
                  go_wp2_with fail
                  generalize hWX : World.drewN _ _ = wx
                  have d1 : wx.cell? ⟨M, j16, none⟩ = some (.int .u32 (y1 : Int)) := by subst hWX; exact c1
                  have d3 : wx.cell? ⟨M, j7, none⟩ = some (.int .u32 (y3 : Int)) := by subst hWX; exact c3
                  have HRX := Lib.hid (show RW wx M .u32 56 (l ++ List.replicate (64 - jj) 0) by subst hWX; exact HRW.out)
                  have HBX := Lib.hid (show Below M W0 wx by subst hWX; exact ⟨HBEL2.out.os, HBEL2.out.tape, HBEL2.out.output, HBEL2.out.size, HBEL2.out.block⟩)
                  clear hWX c1 c2 c3 c4 fr HRW HBEL2
                  go_still_tail 29, (by decide +kernel)
                  still_call (R1.out _)
                  repeat still_step
                  still_call (R2.out _)
                  repeat still_step
                  still_call (R3.out _)
                  repeat still_step
                  still_call (R4.out _)
                  repeat still_step
                  refine wpStill_nil ?_
                  change wpList _ _ _ _ _ wx.drew
                  generalize hWY : wx.drew = wy
                  have HRY := Lib.hid (show RW wy M .u32 56 (l ++ List.replicate (64 - jj) 0) by subst hWY; exact HRX.out)
                  have HBY := Lib.hid (show Below M W0 wy by subst hWY; exact HBX.out.drew)
                  have fr := HRY.out.frozen jj
                  have cj := HRY.out.cell (i := jj) (by rw [HLEN.out]; omega)
                  generalize (l ++ List.replicate (64 - jj) 0).getD jj 0 = yj at cj
                  have e1 := E1.out
                  have e2 := E2.out
                  have t1 := T1.out
                  have HSET := Lib.hid (show (l ++ List.replicate (64 - jj) 0).set jj X = (l ++ [X]) ++ List.replicate (64 - (jj + 1)) 0 by
                    rw [show 64 - jj = (64 - (jj + 1)) + 1 by omega]
                    have := pad_set_256 l (64 - (jj + 1)) X
                    rw [HL.out] at this
                    exact this)
                  have HRS := Lib.hid (show RW (wy.setCell ⟨M, jj, none⟩ (.int .u32 (X : Int))) M .u32 56 ((l ++ [X]) ++ List.replicate (64 - (jj + 1)) 0) by
                    rw [← HSET.out]; exact HRY.out.set X)
                  clear hWY d1 d3 HRX HBX
                  go_wp2
                  go_roundw
                  case rel => exact ⟨jj + 1, l ++ [X], rfl, by omega, hlt2, by rw [List.length_append, HL.out]; rfl, HRS.out, HBY.out.setCell (p := ⟨M, jj, none⟩) (Nat.le_refl _) _, app256_lt l X HALL.out HXL.out, HSX.out⟩
                  case measure => simp [intOf]; omega
                · have hlt2' : ¬ (jj : Int) < 64 := by omega
                  have HE := Lib.hid (show l = sc256 48 (wds256 c) by rw [← HGO.out, show 64 - jj = 0 by omega]; rfl)
                  have hrwl := HRW.out
                  rw [show 64 - jj = 0 by omega, List.replicate_zero, List.append_nil] at hrwl
                  have HRL := Lib.hid hrwl
                  have HLL := Lib.hid (show l.length = 64 by rw [HL.out]; omega)
                  have HRU2 := Lib.hid (show RW wr (nk + 2) .u32 36 u.l from HRU0.out.other (HBEL2.out.block (nk + 2) (by omega)))
                  have HSU := Lib.hid (show (Tryd.prog.info? 36).map (·.size) = some (nums .u32 u.l).size by kernel_rfl)
                  clear hrwl HRW HGO HWL
                  go_wp2_with (first
                    | (refine wpList_load_row rfl 36 _ rfl (nk + 2) rfl 36 (nums .u32 u.l) (0, 0) _ HRU2.out Tryd.underlying36 rfl HSU.out ?_)
                    | (refine wpList_store_row rfl 36 _ _ rfl wr.heap.size (nums .u32 u.l) rfl rfl 36 _ (Go.heap_alloc_new _ _) HSU.out ?hold (nums_one _ _) (Stop.out ?_)))
                  case hold => first | rfl | (rw [size_nums, size_nums, zer_len]; rfl) | (rw [zer_len]; rfl)
                  generalize hW8 : World.setRow _ _ _ = W8'
                  obtain ⟨V, hV⟩ : ∃ n, wr.heap.size = n := ⟨_, rfl⟩
                  have hMV : M < V := by rw [← hV]; exact HRL.out.lt
                  have HRV := Lib.hid (show RW W8' V .u32 36 u.l by subst hW8; rw [← hV]; exact setRow_heap _ _ _ _ _ _ (Go.heap_alloc_new _ _))
                  have HRM := Lib.hid (show RW W8' M .u32 56 l by subst hW8; exact HRL.out.other ((setRow_other _ _ _ _ (by omega)).trans (Go.heap_alloc_old _ _ HRL.out.lt)))
                  have HB8 := Lib.hid (show Below M W0 W8' by subst hW8; exact Below.setRow (HBEL2.out.alloc (by have := HRL.out.lt; omega) _) (by have := HRL.out.lt; omega) _)
                  rw [hV]
                  clear hW8 hV HRL HRU2 HBEL2
                  refine ⟨?_⟩
                  go_wp2_with fail
                  go_loopw [15] (fun iv wq => ∃ (k : Nat) (vv : W8), iv = .int .i64 k ∧ k ≤ 64 ∧ vv.lt 4294967296 ∧ RW wq V .u32 36 vv.l ∧ RW wq M .u32 56 l ∧ Below M W0 wq ∧ rds256 (l.drop k) (kk256.drop k) vv = rds256 l kk256 u) (fun i _ => 64 - (intOf i).toNat)
                  case atStart => exact ⟨0, u, rfl, Nat.zero_le _, HU.out, HRV.out, HRM.out, HB8.out, by rw [List.drop_zero, List.drop_zero]⟩
                  case round =>
                    obtain ⟨k9, vv, rfl, hk9, hvv, hrv, hrm, hbel, hgo⟩ := hrel
                    obtain ⟨va, vb, vc, vd, ve, vf, vg, vh⟩ := vv
                    have HVL := Lib.hid hvv
                    have HRV2 := Lib.hid hrv
                    have HRM2 := Lib.hid hrm
                    have HB9 := Lib.hid hbel
                    have HG9 := Lib.hid hgo
                    obtain ⟨ha, hb', hc', hd, he, hf, hg', hh'⟩ := hvv
                    simp only at ha hb' hc' hd he hf hg' hh'
                    clear hrv hrm hbel hgo HRV HRM HB8 z48
                    by_cases hlt9 : k9 < 64
                    · have hlt9' : (k9 : Int) < 64 := by omega
                      have hlt80 : (k9 : Int) < 80 := by omega
                      have c0 : wr.cell? ⟨V, 0, none⟩ = some (.int .u32 (va : Int)) := HRV2.out.cell (i := 0) (by show 0 < 8; decide)
                      have c1 : wr.cell? ⟨V, 1, none⟩ = some (.int .u32 (vb : Int)) := HRV2.out.cell (i := 1) (by show 1 < 8; decide)
                      have c2 : wr.cell? ⟨V, 2, none⟩ = some (.int .u32 (vc : Int)) := HRV2.out.cell (i := 2) (by show 2 < 8; decide)
                      have c3 : wr.cell? ⟨V, 3, none⟩ = some (.int .u32 (vd : Int)) := HRV2.out.cell (i := 3) (by show 3 < 8; decide)
                      have c4 : wr.cell? ⟨V, 4, none⟩ = some (.int .u32 (ve : Int)) := HRV2.out.cell (i := 4) (by show 4 < 8; decide)
                      have c5 : wr.cell? ⟨V, 5, none⟩ = some (.int .u32 (vf : Int)) := HRV2.out.cell (i := 5) (by show 5 < 8; decide)
                      have c6 : wr.cell? ⟨V, 6, none⟩ = some (.int .u32 (vg : Int)) := HRV2.out.cell (i := 6) (by show 6 < 8; decide)
                      have c7 : wr.cell? ⟨V, 7, none⟩ = some (.int .u32 (vh : Int)) := HRV2.out.cell (i := 7) (by show 7 < 8; decide)
                      have f0 := HRV2.out.frozen 0
                      have f1 := HRV2.out.frozen 1
                      have f2 := HRV2.out.frozen 2
                      have f3 := HRV2.out.frozen 3
                      have f4 := HRV2.out.frozen 4
                      have f5 := HRV2.out.frozen 5
                      have f6 := HRV2.out.frozen 6
                      have f7 := HRV2.out.frozen 7
                      obtain ⟨sw, hsw⟩ : ∃ s, l.getD k9 0 = s := ⟨_, rfl⟩
                      obtain ⟨kC, hkC⟩ : ∃ s, cube.getD k9 0 = s := ⟨_, rfl⟩
                      have hC64 : kC < 18446744073709551616 := by rw [← hkC]; exact cube_lt k9
                      obtain ⟨kc, hkc⟩ : ∃ c, kC / 4294967296 = c := ⟨_, rfl⟩
                      have HC1 := Lib.hid (show (kC : Int) / 4294967296 = (kc : Int) by omega)
                      have HC2 := Lib.hid (show (kc : Int) % 4294967296 = (kc : Int) by omega)
                      clear hC64
                      have cw := HRM2.out.cell (i := k9) (by rw [HLL.out]; exact hlt9)
                      rw [hsw] at cw
                      have ck : wr.cell? ⟨nk, k9, none⟩ = some (.int .u64 (kC : Int)) := by
                        rw [World.cell?_of_block (HB9.out.block nk (by omega)), ← hkC]
                        exact HENV0.out.1.table.cell (i := k9) (by show k9 < 80; omega)
                      have HST := Lib.hid (show rds256 (l.drop (k9 + 1)) (kk256.drop (k9 + 1)) (rnd256 ⟨va, vb, vc, vd, ve, vf, vg, vh⟩ ((sw + kc) % 4294967296)) = rds256 l kk256 u by
                        rw [← HG9.out, rds256_step l kk256 _ k9 (by rw [HLL.out]; exact hlt9) (by rw [kk256_len]; exact hlt9), hsw, kk256_get k9 hlt9, hkC, hkc])
                      have R1 := Lib.hid (fun w => rot32_any ve 26 26 w he (by decide) (by decide))
                      have R2 := Lib.hid (fun w => rot32_any ve 21 21 w he (by decide) (by decide))
                      have R3 := Lib.hid (fun w => rot32_any ve 7 7 w he (by decide) (by decide))
                      have R4 := Lib.hid (fun w => rot32_any va 30 30 w ha (by decide) (by decide))
                      have R5 := Lib.hid (fun w => rot32_any va 19 19 w ha (by decide) (by decide))
                      have R6 := Lib.hid (fun w => rot32_any va 10 10 w ha (by decide) (by decide))
                      have e1 := bits_ch256 ve vf vg he hf hg'
                      have e2 := bits_mj256 va vb vc ha hb' hc'
                      have e3 := bits_bs1256 ve he
                      have e4 := bits_bs0256 va ha
                      have HN := Lib.hid (show rnd256 ⟨va, vb, vc, vd, ve, vf, vg, vh⟩ ((sw + kc) % 4294967296) = ⟨((vh + bs1256 ve + ch256 ve vf vg + (sw + kc) % 4294967296) % 4294967296 + (bs0256 va + mj256 va vb vc)) % 4294967296, va, vb, vc, (vd + (vh + bs1256 ve + ch256 ve vf vg + (sw + kc) % 4294967296) % 4294967296) % 4294967296, ve, vf, vg⟩ from rfl)
                      generalize ch256 ve vf vg = CH at e1 HN
                      generalize mj256 va vb vc = MJ at e2 HN
                      generalize bs1256 ve = S1 at e3 HN
                      generalize bs0256 va = S0 at e4 HN
                      obtain ⟨Tt, hT⟩ : ∃ z, (vh + S1 + CH + kc + sw) % 4294967296 = z := ⟨_, rfl⟩
                      obtain ⟨Uu, hU⟩ : ∃ z, (S0 + MJ) % 4294967296 = z := ⟨_, rfl⟩
                      obtain ⟨X0, hX0⟩ : ∃ z, (Tt + Uu) % 4294967296 = z := ⟨_, rfl⟩
                      obtain ⟨X4, hX4⟩ : ∃ z, (vd + Tt) % 4294967296 = z := ⟨_, rfl⟩
                      have T1 := Lib.hid (show ((vh : Int) + S1 + CH + kc + sw) % 4294967296 = (Tt : Int) by omega)
                      have T2 := Lib.hid (show ((S0 : Int) + MJ) % 4294967296 = (Uu : Int) by omega)
                      have T3 := Lib.hid (show ((Tt : Int) + Uu) % 4294967296 = (X0 : Int) by omega)
                      have T4 := Lib.hid (show ((vd : Int) + Tt) % 4294967296 = (X4 : Int) by omega)
                      have HN2 := Lib.hid (show rnd256 ⟨va, vb, vc, vd, ve, vf, vg, vh⟩ ((sw + kc) % 4294967296) = ⟨X0, va, vb, vc, X4, ve, vf, vg⟩ by
                        rw [HN.out]
                        congr 1
                        · omega
                        · omega)
                      have E1 := Lib.hid e1
                      have E2 := Lib.hid e2
                      have E3 := Lib.hid e3
                      have E4 := Lib.hid e4
                      clear HN hT hU hX0 hX4 e1 e2 e3 e4 hsw hkc hkC ha hb' hc' hd he hf hg' hh'
                      go_wp2_with fail
                      go_quiet (fail)
                      go_wp2_with fail
                      go_quiet (first | (go_at_call 22; with_reducible refine Calls.quiet_eq2 (R1.out _)) | (go_at_call 22; with_reducible refine Calls.quiet_eq2 (R2.out _)) | (go_at_call 22; with_reducible refine Calls.quiet_eq2 (R3.out _)))
                      go_wp2_with fail
                      generalize hWX : World.drewN _ _ = wx
                      have HRX := Lib.hid (show RW wx V .u32 36 [va, vb, vc, vd, ve, vf, vg, vh] by subst hWX; exact HRV2.out)
                      have HMX := Lib.hid (show RW wx M .u32 56 l by subst hWX; exact HRM2.out)
                      have HBX := Lib.hid (show Below M W0 wx by subst hWX; exact ⟨HB9.out.os, HB9.out.tape, HB9.out.output, HB9.out.size, HB9.out.block⟩)
                      clear hWX c0 c1 c2 c3 c4 c5 c6 c7 f0 f1 f2 f3 f4 f5 f6 f7 cw ck HRV2 HRM2 HB9
                      have c1 : wx.cell? ⟨V, 1, none⟩ = some (.int .u32 (vb : Int)) := HRX.out.cell (i := 1) (by show 1 < 8; decide)
                      have c2 : wx.cell? ⟨V, 2, none⟩ = some (.int .u32 (vc : Int)) := HRX.out.cell (i := 2) (by show 2 < 8; decide)
                      go_quiet (first | (go_at_call 22; with_reducible refine Calls.quiet_eq (R4.out _)) | (go_at_call 22; with_reducible refine Calls.quiet_eq (R5.out _)) | (go_at_call 22; with_reducible refine Calls.quiet_eq (R6.out _)))
                      generalize hWZ : World.drewN _ _ = wz
                      have HRZ := Lib.hid (show RW wz V .u32 36 [va, vb, vc, vd, ve, vf, vg, vh] by subst hWZ; exact HRX.out)
                      have HMZ := Lib.hid (show RW wz M .u32 56 l by subst hWZ; exact HMX.out)
                      have HBZ := Lib.hid (show Below M W0 wz by subst hWZ; exact ⟨HBX.out.os, HBX.out.tape, HBX.out.output, HBX.out.size, HBX.out.block⟩)
                      clear hWZ c1 c2 HRX HMX HBX
                      have c0 : wz.cell? ⟨V, 0, none⟩ = some (.int .u32 (va : Int)) := HRZ.out.cell (i := 0) (by show 0 < 8; decide)
                      have c1 : wz.cell? ⟨V, 1, none⟩ = some (.int .u32 (vb : Int)) := HRZ.out.cell (i := 1) (by show 1 < 8; decide)
                      have c2 : wz.cell? ⟨V, 2, none⟩ = some (.int .u32 (vc : Int)) := HRZ.out.cell (i := 2) (by show 2 < 8; decide)
                      have c3 : wz.cell? ⟨V, 3, none⟩ = some (.int .u32 (vd : Int)) := HRZ.out.cell (i := 3) (by show 3 < 8; decide)
                      have c4 : wz.cell? ⟨V, 4, none⟩ = some (.int .u32 (ve : Int)) := HRZ.out.cell (i := 4) (by show 4 < 8; decide)
                      have c5 : wz.cell? ⟨V, 5, none⟩ = some (.int .u32 (vf : Int)) := HRZ.out.cell (i := 5) (by show 5 < 8; decide)
                      have c6 : wz.cell? ⟨V, 6, none⟩ = some (.int .u32 (vg : Int)) := HRZ.out.cell (i := 6) (by show 6 < 8; decide)
                      have c7 : wz.cell? ⟨V, 7, none⟩ = some (.int .u32 (vh : Int)) := HRZ.out.cell (i := 7) (by show 7 < 8; decide)
                      have f0 := HRZ.out.frozen 0
                      have f1 := HRZ.out.frozen 1
                      have f2 := HRZ.out.frozen 2
                      have f3 := HRZ.out.frozen 3
                      have f4 := HRZ.out.frozen 4
                      have f5 := HRZ.out.frozen 5
                      have f6 := HRZ.out.frozen 6
                      have f7 := HRZ.out.frozen 7
                      have e1 := E1.out
                      have e2 := E2.out
                      have e3 := E3.out
                      have e4 := E4.out
                      have hc1 := HC1.out
                      have hc2 := HC2.out
                      have t1 := T1.out
                      have t2 := T2.out
                      have t3 := T3.out
                      have t4 := T4.out
                      go_wp2
                      go_roundw
                      case rel =>
                        have h3 := put8_256 HRZ.out rfl X0 va vb vc X4 ve vf vg
                        have hVz := HRZ.out.lt
                        refine ⟨k9 + 1, ⟨X0, va, vb, vc, X4, ve, vf, vg⟩, rfl, hlt9, ?_, h3.1, HMZ.out.other (h3.2.block M (by omega) (by omega)), ?_, by rw [← HN2.out]; exact HST.out⟩
                        · rw [← HN2.out]; exact rnd256_lt _ HVL.out
                        · exact ⟨h3.2.os.trans HBZ.out.os, h3.2.tape.trans HBZ.out.tape, h3.2.output.trans HBZ.out.output, Nat.le_trans HBZ.out.size h3.2.size, fun i hi => (h3.2.block i (by omega) (by omega)).trans (HBZ.out.block i hi)⟩
                      case measure => simp [intOf]; omega
                    · have hlt9' : ¬ (k9 : Int) < 64 := by omega
                      have HUU := Lib.hid (show (⟨va, vb, vc, vd, ve, vf, vg, vh⟩ : W8) = rds256 l kk256 u by
                        rw [← HG9.out, List.drop_eq_nil_of_le (by rw [HLL.out]; omega)]
                        conv => rhs; unfold rds256)
                      go_wp2_with fail
                      obtain ⟨vv, hvv⟩ : ∃ vv : W8, ⟨va, vb, vc, vd, ve, vf, vg, vh⟩ = vv := ⟨_, rfl⟩
                      rw [hvv] at HRV2 HUU
                      have HH9 := Lib.hid (show RW wr (nk + 2) .u32 36 (adN256 u vv 0).l from HRU0.out.other (HB9.out.block (nk + 2) (by omega)))
                      have HX9 := Lib.hid (show BelowX M (nk + 2) W0 wr from ⟨HB9.out.os, HB9.out.tape, HB9.out.output, HB9.out.size, fun i hi _ => HB9.out.block i hi⟩)
                      clear hvv ha hb' hc' hd he hf hg' hh' HVL HG9 HRM2 HB9
                      go_loopw [20] (fun iv wq => ∃ (j9 : Nat), iv = .int .i64 j9 ∧ j9 ≤ 8 ∧ RW wq (nk + 2) .u32 36 (adN256 u vv j9).l ∧ RW wq V .u32 36 vv.l ∧ BelowX M (nk + 2) W0 wq) (fun i _ => 8 - (intOf i).toNat)
                      case atStart => exact ⟨0, rfl, Nat.zero_le _, HH9.out, HRV2.out, HX9.out⟩
                      case round =>
                        obtain ⟨j9, rfl, hj9, hrh, hrv, hbx⟩ := hrel
                        have HRH := Lib.hid hrh
                        have HRV3 := Lib.hid hrv
                        have HBX := Lib.hid hbx
                        clear hrh hrv hbx HH9 HX9 HRV2
                        by_cases hlt8 : j9 < 8
                        · have hlt8' : (j9 : Int) < 8 := by omega
                          obtain ⟨y, hy⟩ : ∃ y, vv.l.getD j9 0 = y := ⟨_, rfl⟩
                          obtain ⟨x, hx⟩ : ∃ x, u.l.getD j9 0 = x := ⟨_, rfl⟩
                          have hce := HRH.out.cell (i := j9) (show j9 < 8 from hlt8)
                          rw [adN256_get u vv j9 hlt8, hx] at hce
                          have hcv := HRV3.out.cell (i := j9) (show j9 < 8 from hlt8)
                          rw [hy] at hcv
                          have hne : ¬ V = nk + 2 := by omega
                          obtain ⟨z, hz⟩ : ∃ z, (x + y) % 4294967296 = z := ⟨_, rfl⟩
                          have hz1 : ((x : Int) + y) % 4294967296 = (z : Int) := by omega
                          have HZ := Lib.hid (show (adN256 u vv j9).l.set j9 z = (adN256 u vv (j9 + 1)).l by rw [← hz, ← hx, ← hy]; exact adN256_set u vv j9 hlt8)
                          clear hy hx hz
                          go_wp2_with fail
                          go_still_tail 8, (by decide +kernel)
                          change wpList _ _ _ _ _ wr.drew
                          generalize hWY : wr.drew = wy
                          have HRY := Lib.hid (show RW wy (nk + 2) .u32 36 (adN256 u vv j9).l by subst hWY; exact HRH.out)
                          have HVY := Lib.hid (show RW wy V .u32 36 vv.l by subst hWY; exact HRV3.out)
                          have HXY := Lib.hid (show BelowX M (nk + 2) W0 wy by subst hWY; exact ⟨HBX.out.os, HBX.out.tape, HBX.out.output, HBX.out.size, HBX.out.block⟩)
                          have hcy : wy.cell? ⟨nk + 2, j9, none⟩ = some (.int .u32 (x : Int)) := by subst hWY; exact hce
                          have hfy := HRY.out.frozen j9
                          clear hWY hce hcv HRH HRV3 HBX
                          go_wp2
                          go_roundw
                          case rel => exact ⟨j9 + 1, rfl, hlt8, by rw [← HZ.out]; exact HRY.out.set z, HVY.out.other (setCell_other _ hne), HXY.out.trans (BelowX.set1 _ _ _)⟩
                          case measure => simp [intOf]; omega
                        · have hlt8' : ¬ (j9 : Int) < 8 := by omega
                          have HJ9 := Lib.hid (show j9 = 8 by omega)
                          have HMX := Lib.hid (show mix256 u c = adN256 u vv 8 by rw [HUU.out, HE.out]; rfl)
                          have HRF := Lib.hid (show RW wr (nk + 2) .u32 36 (mix256 u c).l by rw [HMX.out, ← HJ9.out]; exact HRH.out)
                          have HEF := Lib.hid (show JEnv256 w wr n0 nk g P from HENV0.out.1.keep (M := M) (by omega) (by omega) hgw (fun k hk h => HBX.out.block k hk (by omega)) HBX.out.os HBX.out.tape HBX.out.output HBX.out.size)
                          have HGF := Lib.hid (show g < wr.heap.size by have h1 := HBX.out.size; have h2 := HENV0.out.2; omega)
                          have HSF := Lib.hid (show blk256 (N + 1 - (j + 1)) (mix256 u c) (P.drop (a + 64)) = blk256 (N + 1) st256 P by
                            rw [← HGO0.out, show N + 1 - j = (N + 1 - (j + 1)) + 1 by omega]
                            conv => rhs; unfold blk256
                            rw [HC.out, List.drop_drop])
                          go_wp2
                          go_roundw
                          case rel => exact ⟨a + 64, j + 1, _, rfl, by have := HAJ.out; omega, hlt, ad256_lt _ _, HRF.out, HGF.out, HEF.out, HSF.out⟩
                          case measure => simp [intOf]; omega
        · have hla' : ¬ (a : Int) < (P.length : Int) := by have := HAJ.out; omega
          have HF := Lib.hid (show u = blk256 (N + 1) st256 P by rw [← HGO.out, show N + 1 - j = 0 by omega]; rfl)
          have HSUM := Lib.hid (show sum256 b = dig256 u by unfold sum256; rw [HPE.out, eat256_blks (N + 1) st256 P HPL.out, HF.out])
          have hnw : nk + 2 < wr.heap.size := HRU.out.lt
          have z26 := zd256
          clear HPL2 z55 z48
          go_wp2_with fail
          generalize hW9 : World.alloc _ _ = W9
          obtain ⟨D, hD⟩ : ∃ n, wr.heap.size = n := ⟨_, rfl⟩
          have HRW := Lib.hid (show BT W9 D 24 (List.replicate 32 0) by subst hW9; rw [← hD]; exact Go.heap_alloc_new _ _)
          have HRU9 := Lib.hid (show RW W9 (nk + 2) .u32 36 u.l by subst hW9; exact HRU.out.other (Go.heap_alloc_old _ _ hnw))
          have HRR := Lib.hid (show BT W9 n0 24 (zerB 32) by subst hW9; exact HENV.out.out.other (Go.heap_alloc_old _ _ (by omega)))
          have HB9 := Lib.hid (show Below n0 w W9 by subst hW9; exact HENV.out.below.alloc (by omega) _)
          rw [hD] at hnw ⊢
          clear hW9 hD HRU HENV HGO HGO0 HF z26
          go_loopw [22] (fun iv wq => ∃ (k : Nat), iv = .int .i64 k ∧ k ≤ 32 ∧ BT wq D 24 ((List.range k).map (db256 u) ++ List.replicate (32 - k) 0) ∧ RW wq (nk + 2) .u32 36 u.l ∧ BT wq n0 24 (zerB 32) ∧ Below n0 w wq) (fun i _ => 32 - (intOf i).toNat)
          case atStart => exact ⟨0, rfl, Nat.zero_le _, HRW.out, HRU9.out, HRR.out, HB9.out⟩
          case round =>
            obtain ⟨k, rfl, hk, hrw, hru, hrr, hbel⟩ := hrel
            have HRQ := Lib.hid hrw
            have HRUq := Lib.hid hru
            have HRRq := Lib.hid hrr
            have HBQ := Lib.hid hbel
            clear hrw hru hrr hbel HRW HRU9 HRR HB9
            by_cases hlt2 : k < 32
            · have hlt2' : (k : Int) < 32 := by omega
              obtain ⟨q, hq⟩ : ∃ q, k / 4 = q := ⟨_, rfl⟩
              obtain ⟨r, hr⟩ : ∃ r, k % 4 = r := ⟨_, rfl⟩
              have hq' : (k : Int) / 4 = (q : Int) := by omega
              have hr' : (k : Int) % 4 = (r : Int) := by omega
              have hq8 : q < 8 := by omega
              have hqI : (q : Int) < 8 := by omega
              have hrQ : r ≤ 3 := by omega
              have hs0 : (0 : Int) ≤ 24 - 8 * (r : Int) := by omega
              have hwo := HRUq.out.cell (i := q) (show q < 8 from hq8)
              have hce := HRQ.out.cell (i := k) (by simp; omega)
              generalize ((List.range k).map (db256 u) ++ List.replicate (32 - k) 0).getD k 0 = o at hce
              have hfr := HRQ.out.frozen k
              have HDB := Lib.hid (show db256 u k = UInt8.ofNat (u.l.getD q 0 / 2 ^ (24 - 8 * r) % 256) by unfold db256; rw [hq, hr, Nat.mul_comm r 8])
              generalize u.l.getD q 0 = y at hwo HDB
              have HY := Lib.hid (show ((y : Int) / 2 ^ (24 - 8 * r) % 256) = ((db256 u k).toNat : Int) by
                rw [HDB.out, UInt8.toNat_ofNat', Nat.mod_eq_of_lt (Nat.mod_lt _ (by decide)), Int.natCast_emod, Int.natCast_ediv, Int.natCast_pow]; rfl)
              have HS := Lib.hid (show BT (wr.setCell ⟨D, k, none⟩ (.int .u8 ((db256 u k).toNat : Int))) D 24 ((List.range (k + 1)).map (db256 u) ++ List.replicate (32 - (k + 1)) 0) by
                have h1 := HRQ.out.set (i := k) (db256 u k)
                have h2 := fill_set (db256 u) 0 k (32 - (k + 1))
                rw [show 32 - (k + 1) + 1 = 32 - k by omega] at h2
                rw [← h2]; exact h1)
              generalize db256 u k = d at HY HS
              have hy := HY.out
              clear hq hr
              go_wp2
              go_roundw
              case rel => exact ⟨k + 1, rfl, hlt2, HS.out, HRUq.out.other (setCell_other _ (by omega)), HRRq.out.other (setCell_other _ (by omega)), HBQ.out.setCell (p := ⟨D, k, none⟩) (by show n0 ≤ D; omega) _⟩
              case measure => simp [intOf]; omega
            · have hlt2' : ¬ (k : Int) < 32 := by omega
              have hrw := HRQ.out
              rw [show k = 32 by omega, Nat.sub_self, List.replicate_zero, List.append_nil, ← dig256_eq, ← HSUM.out] at hrw
              have HRW3 := Lib.hid hrw
              have HDL := Lib.hid (show (sum256 b).length = 32 by rw [HSUM.out, dig256_eq]; simp)
              have HS2 := Lib.hid (show (Tryd.prog.info? 24).map (·.size) = some (byteVals (sum256 b)).toArray.size by rw [size_byteVals, HDL.out]; exact szd256)
              have HO := Lib.hid (show (byteVals (zerB 32)).toArray.size = (byteVals (sum256 b)).toArray.size by rw [size_byteVals, size_byteVals, HDL.out, zerB_len])
              clear hrw HRQ
              go_wp2_with (first | (refine wpList_load_row rfl 24 _ rfl D rfl 24 _ (0, 0) _ HRW3.out Tryd.underlying24 rfl HS2.out ?_) | (refine wpList_store_row rfl 24 _ _ rfl n0 (byteVals (sum256 b)).toArray rfl rfl 24 _ HRRq.out HS2.out HO.out (byteVals_one _) ?_))
              refine bodyPost_ret (results_cell_row (by rfl) _ _ n0 24 (byteVals (sum256 b)).toArray (0, 0) _ (by rfl) (setRow_heap _ _ _ _ _ _ HRRq.out) Tryd.underlying24 rfl HS2.out) rfl ⟨rfl, ?_⟩
              rw [HN0.out]
              exact Below.setRow HBQ.out (Nat.le_refl _) _
end Go.Proofs.YtfjkinmmidmjaaaDoor
