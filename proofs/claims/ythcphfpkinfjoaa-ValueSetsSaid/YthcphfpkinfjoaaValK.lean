/-
  Package value's lastOfEachKey: of a sorted row the last member of each key.
  Conditions: none.
-/
import Derived.Test.YthcphfpkinfjoaaValC
import Derived.OwnWalk
namespace Go.Proofs.Ythcphfpkinfjoaa
open Go.RowKit

theorem c6of {W : World} {b : Nat} {c0 c1 c2 c3 c4 c5 : Value} {t : TypeId} (h : W.heap[b]? = some (.cells #[c0, c1, c2, c3, c4, c5] t (0, 0))) :
    W.cell? ⟨b, 0, none⟩ = some c0 ∧ W.cell? ⟨b, 1, none⟩ = some c1 ∧ W.cell? ⟨b, 2, none⟩ = some c2 ∧ W.cell? ⟨b, 3, none⟩ = some c3 ∧ W.cell? ⟨b, 4, none⟩ = some c4 ∧ W.cell? ⟨b, 5, none⟩ = some c5 := by simp [World.cell?, h]
def keepAt (key : Nat → ByteArray) (S : List Nat) (i : Nat) : Bool := decide (i + 1 = S.length) || ltS (key (S.getD i 0)) (key (S.getD (i + 1) 0))
def kept (key : Nat → ByteArray) (S : List Nat) : Nat → List Nat
  | 0 => []
  | i + 1 => if keepAt key S i then kept key S i ++ [S.getD i 0] else kept key S i
theorem kept_len (key : Nat → ByteArray) (S : List Nat) : ∀ i, (kept key S i).length ≤ i
  | 0 => by simp [kept]
  | i + 1 => by
    have := kept_len key S i
    simp only [kept]; split
    · simp; omega
    · omega
theorem ownsRow_keep {W W' : World} {base e size n : Nat} {v : Value} {xs : List Value} (h : W.ownsRow base e size v n xs) (hb : Below W.heap.size W W') : W'.ownsRow base e size v n xs := by
  obtain ⟨h0, h1 | ⟨g, cap, cur, rfl, hg, hh, r⟩⟩ := h
  · exact ⟨h0, .inl h1⟩
  · exact ⟨h0, .inr ⟨g, cap, cur, rfl, hg, (hb.block g (lt_of_block hh)).trans hh, r⟩⟩
theorem ownBlock_lt {W : World} {base e size n : Nat} {v : Value} {xs : List Value} (h : W.ownsRow base e size v n xs) (k : Nat) (hk : v.ownBlock = some k) : base ≤ k := by
  obtain ⟨h0, ⟨rfl, _⟩ | ⟨g, cap, cur, rfl, hg, hh, r⟩⟩ := h
  · cases hk
  · simp [Value.ownBlock] at hk; omega

set_option maxRecDepth 100000 in
set_option maxHeartbeats 2000000 in
theorem lastOf_any (enc : Nat → Nat → Value) (key : Nat → ByteArray) (N : Nat) (hE : Mems enc key N) (g cap : Nat) (S : List Nat) (w : World) (hlt : ∀ x ∈ S, x < N) (hrow : RowOwn w g cap enc S) (hn : S.length ≤ 1000000) :
    Calls Try.prog 39 #[.slice (some ⟨g, 0, none⟩) S.length cap] w fun e w' => ∃ v, e = .returned v ∧ w'.ownsRow w.heap.size 28 6 v (kept key S S.length).length (flat6 enc (kept key S S.length)) ∧ Below w.heap.size w w' := by
  obtain ⟨i0, hi, hz0, hz1, hz2⟩ := info_parts info_mem
  have HE := Lib.hid hE
  have HLT := Lib.hid hlt
  have HROW := Lib.hid hrow
  have hgw := hrow.lt
  clear hE hlt hrow
  go_enter Try.func39, Try.ntmps39
  go_wp2_with fail
  go_loopw [3, 8] (fun ov iv wr => ∃ j : Nat, j ≤ S.length ∧ iv = .int .i64 j ∧ wr.ownsRow w.heap.size 28 6 ov (kept key S j).length (flat6 enc (kept key S j)) ∧ Below w.heap.size w wr) (fun _ i _ => S.length - (intOf i).toNat)
  case atStart => exact ⟨0, by omega, rfl, World.ownsRow_nil _ _ _ _, Below.refl _ _⟩
  case round =>
    obtain ⟨j, hj, rfl, hown, hbr⟩ := hrel
    have HOWN := Lib.hid hown
    have HBR := Lib.hid hbr
    clear hown hbr
    by_cases hj1 : j < S.length
    · have hr1 : RowOwn wr g cap enc S := by
        obtain ⟨cur, h1, h2⟩ := HROW.out
        exact ⟨cur, (HBR.out.block g hgw).trans h1, h2⟩
      obtain ⟨x, hx⟩ : ∃ x, S[j] = x := ⟨_, rfl⟩
      have HXN := Lib.hid (show x < N from hx ▸ HLT.out _ (List.getElem_mem hj1))
      have HGD := Lib.hid (show S.getD j 0 = x by simp [hj1, hx])
      obtain ⟨c0, c1, c2, c3, c4, c5⟩ := hr1.at hj1
      rw [hx] at c0 c1 c2 c3 c4 c5
      obtain ⟨ek, en, es, ea, el, ep, eb, em, eq, e1, e2, e3, e4, e5⟩ := HE.out.f x HXN.out
      simp only [Nat.reduceAdd] at e1 e2 e3 e4 e5
      have e0 := HE.out.k x HXN.out
      rw [e0] at c0; rw [e1] at c1; rw [e2] at c2; rw [e3] at c3; rw [e4] at c4; rw [e5] at c5
      have HEX := Lib.hid (And.intro e0 (And.intro e1 (And.intro e2 (And.intro e3 (And.intro e4 e5)))))
      have hgr : g < wr.heap.size := Nat.lt_of_lt_of_le hgw HBR.out.size
      clear e0 e1 e2 e3 e4 e5 hx
      go_wp2_with fail
      generalize hW1 : wr.alloc _ = W1
      have hv1 : W1.heap[wr.heap.size]? = some (.cells #[.string (key x), .int .i64 ek, .int .i64 en, .string es, .slice ea el ep, .slice eb em eq] 28 (0, 0)) := by subst hW1; exact World.alloc_heap_new wr _
      have hb1 : Below wr.heap.size wr W1 := by subst hW1; exact (Below.refl _ wr).alloc (Nat.le_refl _) _
      have hz1' : W1.heap.size = wr.heap.size + 1 := by subst hW1; simp
      have HV1 := Lib.hid hv1
      have HB1 := Lib.hid hb1
      have hr1' := hr1.keep hb1
      have HR1 := Lib.hid hr1'
      obtain ⟨b0, b1, b2, b3, b4, b5⟩ := c6of hv1
      have k0 := fun p => KidOf.cell (show wr.heap.size < W1.heap.size by omega) b0 p
      clear hW1 hv1 hb1 hr1 hr1' c0 c1 c2 c3 c4 c5 b0 b1 b2 b3 b4 b5
      obtain ⟨jn, hjn⟩ : ∃ jn, jn = j + 1 := ⟨_, rfl⟩
      have g3 : IntKind.i64.wrap ((j : Int) + 1) = (jn : Int) := by rw [iw_id _ (by omega)]; omega
      have g4 : (j : Int) + 1 = (jn : Int) := by omega
      by_cases hlast : jn = S.length
      · have HKA := Lib.hid (show keepAt key S j = true by unfold keepAt; simp; left; omega)
        have gl : ((jn : Int) == (S.length : Int)) = true := by simp; omega
        have HJN := Lib.hid (And.intro hjn hlast)
        clear hjn hlast
        refine wp_region_below (by kernel_rfl) (by kernel_rfl) ?_
        repeat (go_big_quiet_step (fail))
        refine wpQuiet_nil ?_
        rintro wz ⟨⟨_, hbz0⟩, rfl⟩
        have hbz : Below W1.heap.size W1 wz := hbz0
        obtain ⟨z0, z1, z2, z3, z4, z5⟩ := c6of ((hbz.block _ (by omega)).trans HV1.out)
        have hownz := ownsRow_keep (ownsRow_keep HOWN.out HB1.out) (hbz.mono (Nat.le_refl _))
        have HBZ := Lib.hid (HBR.out.trans ((HB1.out.trans (hbz.mono (by omega))).mono HBR.out.size))
        have hwz : w.heap.size ≤ wz.heap.size := HBZ.out.size
        have HKL := Lib.hid (kept_len key S j)
        clear hbz hbz0
        go_wp2_with (at_builtin; refine wpList_append_own _ rfl _ _ 24 rfl w.heap.size 28 i0 _ 6 96 Try.underlying24 hi hz0 hz1 hz2 rfl (by decide) _ _ _ rfl (hownz.alloc _) ⟨wz.heap.size, 0, none⟩ 1 1 [.string (key x), .int .i64 ek, .int .i64 en, .string es, .slice ea el ep, .slice eb em eq] rfl rfl ?qc2 ?qc3 ?qc4 ?qc5 ?qc6 ?_)
        case qc2 =>
          intro p u hp
          rcases p with _ | _ | _ | _ | _ | _ | p
          all_goals first | (simp at hp; subst hp; simp [Addr.add]; done) | (simp at hp)
        case qc3 =>
          intro u hu
          simp only [List.mem_cons, List.mem_nil_iff, or_false] at hu
          rcases hu with rfl | rfl | rfl | rfl | rfl | rfl <;> rfl
        case qc4 => have := HKL.out; unfold maxLen; omega
        case qc5 => have := HKL.out; omega
        case qc6 => simp; omega
        intro v' w1 hown1 hgrow hnil
        have hb9 : Below w.heap.size w w1 := (HBZ.out.alloc HBZ.out.size _).grown hgrow (by simp; omega) (fun k hk => ownBlock_lt hownz k hk)
        have HB9 := Lib.hid hb9
        have HOW9 := Lib.hid hown1
        clear hown1 hgrow hnil hb9 hownz
        go_wp2
        go_roundw
        case measure => simp [intOf]; omega
        case rel =>
          refine ⟨j + 1, by omega, by go_num, ?_, HB9.out⟩
          have h9 := HOW9.out
          have hk1 : kept key S (j + 1) = kept key S j ++ [x] := by simp only [kept]; rw [HKA.out, HGD.out]; rfl
          rw [hk1, flat6_append, List.length_append]
          obtain ⟨e0, e1, e2, e3, e4, e5⟩ := HEX.out
          have hfx : flat6 enc [x] = [.string (key x), .int .i64 ek, .int .i64 en, .string es, .slice ea el ep, .slice eb em eq] := by simp only [flat6, List.flatMap_cons, List.flatMap_nil, List.append_nil]; rw [e0, e1, e2, e3, e4, e5]
          rw [hfx]
          exact h9
      · have hjl : jn < S.length := by omega
        have gl : ((jn : Int) == (S.length : Int)) = false := by simp; omega
        obtain ⟨y, hy⟩ : ∃ y, S[jn] = y := ⟨_, rfl⟩
        have HYN := Lib.hid (show y < N from hy ▸ HLT.out _ (List.getElem_mem hjl))
        have HGY := Lib.hid (show S.getD (j + 1) 0 = y by rw [← hjn]; simp [hjl, hy])
        obtain ⟨d0, -⟩ := HR1.out.at hjl
        rw [hy, HE.out.k y HYN.out] at d0
        have kd := fun p => KidOf.cell (show g < W1.heap.size by omega) d0 p
        have g5 : (jn : Int) < (S.length : Int) := by omega
        have g6 : (0 : Int) ≤ (jn : Int) := by omega
        have HJN := Lib.hid hjn
        clear hjn hlast hy d0
        have HKA0 := Lib.hid (show keepAt key S j = ltS (key x) (key y) by
          unfold keepAt; rw [HGD.out, HGY.out]; have : ¬ j + 1 = S.length := by have := HJN.out; omega
          simp [this])
        generalize hlt2 : ltS (key x) (key y) = lt at HKA0
        have HL2 := Lib.hid hlt2
        clear hlt2
        have HLS := Lib.hid (fun p : KidOf W1 => (less_any (key x) (key y) lt p.x HL2.out).mono (R' := fun e w' => e = .returned (.bool lt) ∧ Below p.x.heap.size p.x w') (fun e w' h => ⟨h.1, by rw [← h.2]; exact Below.refl _ _⟩))
        cases lt with
        | true =>
          have HKA := Lib.hid HKA0.out
          refine wp_region_below (by kernel_rfl) (by kernel_rfl) ?_
          repeat (go_big_quiet_step (first | (go_at_call 63; exact Calls.below_of (HLS.out _))))
          refine wpQuiet_nil ?_
          rintro wz ⟨⟨_, hbz0⟩, rfl⟩
          have hbz : Below W1.heap.size W1 wz := hbz0
          obtain ⟨z0, z1, z2, z3, z4, z5⟩ := c6of ((hbz.block _ (by omega)).trans HV1.out)
          have hownz := ownsRow_keep (ownsRow_keep HOWN.out HB1.out) (hbz.mono (Nat.le_refl _))
          have HBZ := Lib.hid (HBR.out.trans ((HB1.out.trans (hbz.mono (by omega))).mono HBR.out.size))
          have hwz : w.heap.size ≤ wz.heap.size := HBZ.out.size
          have HKL := Lib.hid (kept_len key S j)
          clear hbz hbz0
          go_wp2_with (at_builtin; refine wpList_append_own _ rfl _ _ 24 rfl w.heap.size 28 i0 _ 6 96 Try.underlying24 hi hz0 hz1 hz2 rfl (by decide) _ _ _ rfl (hownz.alloc _) ⟨wz.heap.size, 0, none⟩ 1 1 [.string (key x), .int .i64 ek, .int .i64 en, .string es, .slice ea el ep, .slice eb em eq] rfl rfl ?qc2 ?qc3 ?qc4 ?qc5 ?qc6 ?_)
          case qc2 =>
            intro p u hp
            rcases p with _ | _ | _ | _ | _ | _ | p
            all_goals first | (simp at hp; subst hp; simp [Addr.add]; done) | (simp at hp)
          case qc3 =>
            intro u hu
            simp only [List.mem_cons, List.mem_nil_iff, or_false] at hu
            rcases hu with rfl | rfl | rfl | rfl | rfl | rfl <;> rfl
          case qc4 => have := HKL.out; unfold maxLen; omega
          case qc5 => have := HKL.out; omega
          case qc6 => simp; omega
          intro v' w1 hown1 hgrow hnil
          have hb9 : Below w.heap.size w w1 := (HBZ.out.alloc HBZ.out.size _).grown hgrow (by simp; omega) (fun k hk => ownBlock_lt hownz k hk)
          have HB9 := Lib.hid hb9
          have HOW9 := Lib.hid hown1
          clear hown1 hgrow hnil hb9 hownz
          go_wp2
          go_roundw
          case measure => simp [intOf]; omega
          case rel =>
            refine ⟨j + 1, by omega, by go_num, ?_, HB9.out⟩
            have h9 := HOW9.out
            have hk1 : kept key S (j + 1) = kept key S j ++ [x] := by simp only [kept]; rw [HKA.out, HGD.out]; rfl
            rw [hk1, flat6_append, List.length_append]
            obtain ⟨e0, e1, e2, e3, e4, e5⟩ := HEX.out
            have hfx : flat6 enc [x] = [.string (key x), .int .i64 ek, .int .i64 en, .string es, .slice ea el ep, .slice eb em eq] := by simp only [flat6, List.flatMap_cons, List.flatMap_nil, List.append_nil]; rw [e0, e1, e2, e3, e4, e5]
            rw [hfx]
            exact h9
        | false =>
          have HKA := Lib.hid HKA0.out
          refine wp_region_below (by kernel_rfl) (by kernel_rfl) ?_
          repeat (go_big_quiet_step (first | (go_at_call 63; exact Calls.below_of (HLS.out _))))
          refine wpQuiet_nil ?_
          rintro wz ⟨⟨_, hbz0⟩, rfl⟩
          have hbz : Below W1.heap.size W1 wz := hbz0
          have HOWZ := Lib.hid (ownsRow_keep (ownsRow_keep HOWN.out HB1.out) (hbz.mono (Nat.le_refl _)))
          have HBZ := Lib.hid (HBR.out.trans ((HB1.out.trans (hbz.mono (by omega))).mono HBR.out.size))
          clear hbz hbz0
          go_wp2
          go_roundw
          case measure => simp [intOf]; omega
          case rel =>
            refine ⟨j + 1, by omega, by go_num, ?_, HBZ.out⟩
            have hk1 : kept key S (j + 1) = kept key S j := by simp only [kept]; rw [HKA.out]; rfl
            rw [hk1]
            exact HOWZ.out
    · obtain rfl : j = S.length := by omega
      go_wp2
      go_ret
      exact ⟨_, rfl, HOWN.out, HBR.out⟩
end Go.Proofs.Ythcphfpkinfjoaa
