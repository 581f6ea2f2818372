/-
  ScalarWide: the rest of 64 bytes is that of their upper half times 2^256, and their lower half; bytes behind them do not count.
  Conditions: none.
-/
import Derived.Test.YtgajheocobgecaaScL
import Derived.Test.YtgajheocobgecaaFdO
import Derived.Test.YtgajheocobgecaaUpT
import Derived.Deep.RegionHeld3
namespace Go.Proofs.Ytgajheocobgecaa
open Go.RowKit

open Go.ChangeShapes Go.WideShapes Go.ChangeAt
theorem owns_empty (w : World) (B : Nat) (hB : B ≤ w.heap.size) : Owns (w.alloc (.cells #[] 5)) B (.slice (some ⟨w.heap.size, 0, none⟩) 0 0) [] := by
  refine ⟨rfl, .inr ⟨w.heap.size, 0, #[], rfl, hB, ?_, Nat.le_refl _, by decide, rfl, rfl⟩⟩
  show (w.heap.push _)[w.heap.size]? = _
  simp
theorem step_append_bys {ops : Array Oper} {o : Oper} {a : Act} {K : Act → World → Prop} {Q : Exit → Act → World → Prop} {E : Prop} {w : World} (hw : Region.wanted o (yielded ops a.tmps) = true) (s x : Operand)
    (ho : o.op = .call { callee := .builtin .append, args := #[s, x], argTypes := #[41, 41] }) (base : Nat) (v : Value) (xs : List UInt8) (hs : a.eval s = v) (hown : Owns w base v xs)
    (sv : Value) (l : List UInt8) (hx : a.eval x = sv) (hsrc : Bys w sv l) (hnm : xs.length + l.length ≤ 1000000) (hbase : base ≤ w.heap.size)
    (h : ∀ v' w', Owns w' base v' (xs ++ l) → w.grownBy w' v.ownBlock → K (a.put o.dst v') w') :
    if Region.wanted o (yielded ops a.tmps) = true then Oper.wp Try.prog o a w K Q else E := by
  rw [if_pos hw]
  obtain ⟨i0, hi0, hz0, hz1, hz2⟩ := info_parts info_u8
  obtain ⟨ao, cap, rfl, hc, hor⟩ := hsrc
  cases ao with
  | none =>
    have h0 : cap = 0 := hc.2.2 rfl
    subst h0
    have hl : l = [] := List.eq_nil_of_length_eq_zero (by have := hc.1; omega)
    subst hl
    have hrun := run_append_owned_none (P := Try.prog) (w := w) base 41 o.type 5 i0 1 Try.underlying41 hi0 v xs.length (byteVals xs) hown
    have hk := h v w (by simpa using hown) (World.grownBy.refl w _)
    unfold Oper.wp
    simp [execOp, ho, resolve, invoke, builtin, hs, hx, hrun, Result.andThen]
    exact hk
  | some ad =>
    refine wp_append_own w s x _ ho base _ i0 _ 1 1 Try.underlying41 hi0 hz0 hz1 hz2 rfl (by decide) v xs.length (byteVals xs) hs hown ad l.length cap (byteVals l) hx (by simp [byteVals]) ?_ (news_one l) (by unfold maxLen; omega) (by omega) hbase (fun v' w' h2 h3 _ => h v' w' (Owns.of_append h2 rfl rfl) h3)
    intro j u hu
    rcases hor with rfl | ⟨g, off, e, hg, hcell⟩
    · simp [byteVals] at hu
    · cases e
      have hj : j < l.length := by
        obtain ⟨h, _⟩ := List.getElem?_eq_some_iff.1 hu
        simpa [byteVals] using h
      rw [Addr.add_lit, hcell j hj, ← hu]
      simp [byteVals, List.getElem?_eq_getElem hj]
theorem Below.of_grown {w w' : World} {B : Nat} {v : Value} {xs : List UInt8} (hB : B ≤ w.heap.size) (hown : Owns w B v xs) (hg : w.grownBy w' v.ownBlock) : Below B w w' := by
  refine (Below.refl B w).grown hg hB (fun k hk => ?_)
  rcases hown.2 with ⟨rfl, _⟩ | ⟨g, cap, cur, rfl, hg, _⟩
  · simp [Value.ownBlock] at hk
  · simp [Value.ownBlock] at hk; omega
theorem bys_cut {w : World} {ao : Option Addr} {n cap k : Nat} {L : List UInt8} (h : Bys w (.slice ao n cap) L) (hk : k ≤ L.length) : Bys w (.slice ao k cap) (L.take k) := by
  obtain ⟨ao', cap', e, hc, hor⟩ := h
  cases e
  have hlen : (L.take k).length = k := by simp; omega
  refine ⟨ao, cap, by rw [hlen], ⟨by rw [hlen]; omega, hc.2.1, hc.2.2⟩, ?_⟩
  rcases hor with rfl | ⟨g, off, rfl, hg, hcell⟩
  · left; simp
  · right; exact ⟨g, off, rfl, hg, fun i hi => by rw [hlen] at hi; rw [hcell i (by omega)]; simp⟩
theorem le_app : ∀ (l m : List UInt8), le (l ++ m) = le l + 256 ^ l.length * le m
  | [], m => by simp [le]
  | x :: l, m => by
    rw [List.cons_append, le, le_app l m, le, List.length_cons, Nat.pow_succ, Nat.mul_add, ← Nat.mul_assoc, Nat.mul_comm 256 (256 ^ l.length)]
    omega
theorem z33 (w : World) : (zeroValue 54).run Try.prog w = .ok (.agg (byteVals (zerB 33)).toArray) w :=
  (zero_of_info (P := Try.prog) (t := 54) (v := .agg (byteVals (zerB 33)).toArray) (n := 33) (by kernel_rfl)).1 w
theorem wide_eq (a b l : List UInt8) (ha : a.length = 32) (hb : b.length = 32) : le (a ++ b ++ l) % 13407807929942597099574024998205846127479365820592393377723561443721764030073546976801874298166903427690031858186486050853753882811946569946433649006084096 = le a + 115792089237316195423570985008687907853269984665640564039457584007913129639936 * le b := by
  have h1 := le_app (a ++ b) l
  have h2 := le_app a b
  have e1 : (256 : Nat) ^ (a ++ b).length = 13407807929942597099574024998205846127479365820592393377723561443721764030073546976801874298166903427690031858186486050853753882811946569946433649006084096 := by rw [List.length_append, ha, hb]
  have e2 : (256 : Nat) ^ a.length = 115792089237316195423570985008687907853269984665640564039457584007913129639936 := by rw [ha]
  rw [e1] at h1
  rw [e2] at h2
  rw [h1, Nat.add_mul_mod_self_left, h2]
  have := le_32 a ha
  have := le_32 b hb
  exact Nat.mod_eq_of_lt (by omega)
theorem wide_take (a b l : List UInt8) (ha : a.length = 32) (hb : b.length = 32) : le ((a ++ b ++ l).take 64) % 13407807929942597099574024998205846127479365820592393377723561443721764030073546976801874298166903427690031858186486050853753882811946569946433649006084096 = le a + 115792089237316195423570985008687907853269984665640564039457584007913129639936 * le b := by
  rw [List.take_append_of_le_length (by simp; omega), List.take_of_length_le (by simp; omega)]
  have := wide_eq a b [] ha hb
  rwa [List.append_nil] at this
theorem bys33 (TT : List UInt8) (h : TT.length = 33) {w : World} {b : Nat} {t : TypeId} (hb : BT w b t TT) : Bys w (.slice (some ⟨b, 0, none⟩) 33 33) TT := by
  have := bys_box hb (by omega)
  rwa [h] at this
theorem top_eq : le ((zerB 33).set 32 1) % 13407807929942597099574024998205846127479365820592393377723561443721764030073546976801874298166903427690031858186486050853753882811946569946433649006084096 = 115792089237316195423570985008687907853269984665640564039457584007913129639936 := by decide +kernel
theorem wide_mul (x y : Nat) : oMul y (115792089237316195423570985008687907853269984665640564039457584007913129639936 % 7237005577332262213973186563042994240857116359379907606001950938285454250989) x = (x + 115792089237316195423570985008687907853269984665640564039457584007913129639936 * y) % 7237005577332262213973186563042994240857116359379907606001950938285454250989 := by
  unfold oMul
  rw [← Nat.mod_add_mod, Nat.mul_mod_mod, Nat.mod_add_mod, Nat.add_comm, Nat.mul_comm y]
set_option maxRecDepth 100000 in
set_option maxHeartbeats 1000000 in
theorem scalarWide_nat (a b l : List UInt8) (ao : Option Addr) (len cap : Nat) (w : World) (hla : a.length = 32) (hlb : b.length = 32) (hv : Bys w (.slice ao len cap) l) :
    Calls Try.prog 7 #[.agg (byteVals a).toArray, .agg (byteVals b).toArray, .slice ao len cap] w fun e w' => e = .returned (.bool true) ∧ Below w.heap.size w w' := by
  have HLA0 := Lib.hid hla
  have HLA1 := Lib.hid hlb
  have HBY := Lib.hid hv
  have hz := zM
  have hz3 := z33
  clear hla hlb hv
  go_enter Try.func7, Try.ntmps7
  go_upto_region 1 with fail
  generalize hW1 : World.alloc _ _ = W1
  obtain ⟨N, hN⟩ : ∃ n, w.heap.size = n := ⟨_, rfl⟩
  have HX0 := Lib.hid (show BT W1 N 22 a by subst hW1; rw [← hN]; exact (alloc2_at w _ _).1)
  have HX1 := Lib.hid (show BT W1 (N + 1) 22 b by subst hW1; rw [← hN]; exact (alloc2_at w _ _).2)
  have HB := Lib.hid (show Below N w W1 by subst hW1; rw [← hN]; exact ((Below.refl _ w).alloc (Nat.le_refl _) _).alloc (by simp) _)
  have HN := Lib.hid hN
  rw [hN]
  clear hW1 hN
  go_wp2_with fail
  refine (awake8_any _).mono ?_
  rintro e wa ⟨rfl, hba⟩
  have HX0' := Lib.hid (HX0.out.ext hba)
  have HX1' := Lib.hid (HX1.out.ext hba)
  have HB' := Lib.hid (HB.out.trans (hba.mono (show N ≤ _ by have := HX0.out.lt; omega)))
  clear hba HB HX0 HX1
  have HB := HB'
  have HX0 := HX0'
  have HX1 := HX1'
  clear HB' HX0' HX1'
  have HBY' := Lib.hid (HBY.out.below (by rw [HN.out]; exact HB.out))
  clear HBY
  have HBY := HBY'
  clear HBY'
  by_cases hlen : 50 < len
  · have hlen' : (50 : Int) < (len : Int) := by omega
    go_wp2
    go_ret
    exact ⟨rfl, HN.out.symm ▸ HB.out⟩
  have hlen' : ¬ (50 : Int) < (len : Int) := by omega
  have HLE := Lib.hid (show len ≤ 50 by omega)
  have HLL := Lib.hid (show l.length = len by obtain ⟨_, _, e, _⟩ := HBY.out; cases e; rfl)
  clear hlen
  have HSA := Lib.hid (fun (x : World) (h : Below wa.heap.size wa x) => sl32 a HLA0.out (HX0.out.ext h))
  have HSB := Lib.hid (fun (x : World) (h : Below wa.heap.size wa x) => sl32 b HLA1.out (HX1.out.ext h))
  have hz0 : Below wa.heap.size wa wa.drew := (Below.refl _ wa).drew
  go_wp2_with fail
  have HE0 := Lib.hid (show Owns ((wa.alloc (.cells #[] 5)).drew) wa.heap.size (.slice (some ⟨wa.heap.size, 0, none⟩) 0 0) [] from owns_empty wa _ (Nat.le_refl _))
  have HBZ := Lib.hid (show Below wa.heap.size wa ((wa.alloc (.cells #[] 5)).drew) from ((Below.refl _ wa).alloc (Nat.le_refl _) _).drew)
  go_region_held3 (fun _ => True) (exact trivial) (first
    | (refine step_append_bys (by rfl) _ _ (by rfl) wa.heap.size _ [] (by rfl) HE0.out _ a (by rfl) (HSA.out _ HBZ.out) (by rw [HLA0.out]; simp) (by simp) ?_; intro v10 w10 ho10 hg10; rw [List.nil_append] at ho10; have hb10 : Below wa.heap.size wa w10 := HBZ.out.trans (Below.of_grown (by simp) HE0.out hg10); have HO10 := Lib.hid ho10; clear ho10 hg10)
    | (refine step_append_bys (by rfl) _ _ (by rfl) wa.heap.size _ a (by rfl) HO10.out _ b (by rfl) (HSB.out _ hb10) (by rw [HLA0.out, HLA1.out]; decide) hb10.size ?_; intro v11 w11 ho11 hg11; have hb11 : Below wa.heap.size wa w11 := hb10.trans (Below.of_grown hb10.size HO10.out hg11); have HO11 := Lib.hid ho11; clear ho11 hg11)
    | (refine step_append_bys (by rfl) _ _ (by rfl) wa.heap.size _ (a ++ b) (by rfl) HO11.out _ l (by rfl) (HBY.out.below hb11) (by rw [List.length_append, HLA0.out, HLA1.out, HLL.out]; have := HLE.out; omega) hb11.size ?_; intro v12 w12 ho12 hg12; have hb12 : Below wa.heap.size wa w12 := hb11.trans (Below.of_grown hb11.size HO11.out hg12); have HO12 := Lib.hid ho12; clear ho12 hg12))
  clear HSA HSB hz0 HE0 HBZ hlen'
  have hby := HO12.out.bys
  have HBYA := Lib.hid hby
  obtain ⟨ao2, cap2, rfl, hcap2, hor2⟩ := hby
  have hLn : (a ++ b ++ l).length = 64 + len := by rw [List.length_append, List.length_append, HLA0.out, HLA1.out, HLL.out]
  have HWE := Lib.hid (wide_eq a b l HLA0.out HLA1.out)
  have HWT := Lib.hid (wide_take a b l HLA0.out HLA1.out)
  rcases hor2 with h0 | ⟨g2, off2, rfl, _, _⟩
  · rw [h0] at hLn; simp at hLn; omega
  obtain ⟨L, hL⟩ : ∃ L, a ++ b ++ l = L := ⟨_, rfl⟩
  rw [hL] at HBYA HWE HWT hLn hcap2
  rw [hL]
  obtain ⟨nL, hnL⟩ : ∃ n, L.length = n := ⟨_, rfl⟩
  rw [hnL] at HBYA hLn hcap2
  rw [hnL]
  have HB64 := Lib.hid (bys_cut (k := 64) HBYA.out (by omega))
  obtain ⟨L64, hL64⟩ : ∃ M, L.take 64 = M := ⟨_, rfl⟩
  rw [hL64] at HB64 HWT
  have hc64 : 64 ≤ cap2 := by omega
  have hc64' : (64 : Int) ≤ (cap2 : Int) := by omega
  have HX0' := Lib.hid (HX0.out.ext hb12)
  have HX1' := Lib.hid (HX1.out.ext hb12)
  have HB' := Lib.hid (HB.out.trans (hb12.mono (show N ≤ _ by have := HB.out.size; have := HN.out; omega)))
  have HNW := Lib.hid (show N ≤ w12.heap.size by have := HB'.out.size; have := HN.out; omega)
  clear hL hnL hL64 hLn hcap2 HX0 HX1 HB HBY HO12 hb12 hb11 hb10 HO11 HO10 HLL HLE
  have HX0 := HX0'
  have HX1 := HX1'
  have HB := HB'
  clear HX0' HX1' HB'
  go_upto_region 7 with fail
  generalize hWT : World.alloc _ _ = wt
  obtain ⟨TB, hTB⟩ : ∃ n, w12.heap.size = n := ⟨_, rfl⟩
  have HTB := Lib.hid (show BT wt TB 54 (zerB 33) by subst hWT; rw [← hTB]; exact Go.heap_alloc_new _ _)
  have HBT := Lib.hid (show Below w12.heap.size w12 wt by subst hWT; exact (Below.refl _ w12).alloc (Nat.le_refl _) _)
  rw [hTB]
  clear hWT
  have c1 := HTB.out.cell (i := 32) (by rw [zerB_len]; decide)
  have f1 := HTB.out.frozen 32
  go_upto_region 8 with fail
  generalize hWU : World.setCell _ _ _ = wu
  have HBU := Lib.hid (show Below w12.heap.size w12 wu by subst hWU; exact HBT.out.setCell (p := ⟨TB, 32, none⟩) (by show w12.heap.size ≤ TB; rw [hTB]; exact Nat.le_refl _) _)
  have HTU := Lib.hid (show BT wu TB 54 ((zerB 33).set 32 1) by subst hWU; exact HTB.out.set 1)
  clear hWU HTB HBT c1 f1 hTB
  obtain ⟨TT, hTT⟩ : ∃ T, (zerB 33).set 32 1 = T := ⟨_, rfl⟩
  rw [hTT] at HTU
  have HLT := Lib.hid (show TT.length = 33 by rw [← hTT]; rfl)
  have HTE := Lib.hid (show le TT % 13407807929942597099574024998205846127479365820592393377723561443721764030073546976801874298166903427690031858186486050853753882811946569946433649006084096 = 115792089237316195423570985008687907853269984665640564039457584007913129639936 by rw [← hTT]; exact top_eq)
  have HTB := HTU
  have HBYA' := Lib.hid (HBYA.out.below HBU.out)
  have HBY64 := Lib.hid (HB64.out.below HBU.out)
  have HX0' := Lib.hid (HX0.out.ext HBU.out)
  have HX1' := Lib.hid (HX1.out.ext HBU.out)
  have HB' := Lib.hid (HB.out.trans (HBU.out.mono HNW.out))
  clear hTT HTU HBYA HB64 HX0 HX1 HB HBU
  have HBYA := HBYA'
  have HX0 := HX0'
  have HX1 := HX1'
  have HB := HB'
  clear HBYA' HX0' HX1' HB'
  obtain ⟨rH1, hrH1⟩ : ∃ r, b32 (le L % 13407807929942597099574024998205846127479365820592393377723561443721764030073546976801874298166903427690031858186486050853753882811946569946433649006084096 % 7237005577332262213973186563042994240857116359379907606001950938285454250989) = r := ⟨_, rfl⟩
  have HQH1 := Lib.hid (fun v w (h : Bys w v L) => Of_sc v L w h)
  rw [hrH1] at HQH1
  have HLH1 := Lib.hid (show rH1.length = 32 by rw [← hrH1]; exact b32_len _)
  have HVH1 := Lib.hid (show le rH1 = (le L % 13407807929942597099574024998205846127479365820592393377723561443721764030073546976801874298166903427690031858186486050853753882811946569946433649006084096 % 7237005577332262213973186563042994240857116359379907606001950938285454250989) by rw [← hrH1]; exact le_b32 _ (lt4L (Nat.mod_lt _ L_pos)))
  clear hrH1
  obtain ⟨rH2, hrH2⟩ : ∃ r, b32 (le TT % 13407807929942597099574024998205846127479365820592393377723561443721764030073546976801874298166903427690031858186486050853753882811946569946433649006084096 % 7237005577332262213973186563042994240857116359379907606001950938285454250989) = r := ⟨_, rfl⟩
  have HQH2 := Lib.hid (fun v w (h : Bys w v TT) => Of_sc v TT w h)
  rw [hrH2] at HQH2
  have HLH2 := Lib.hid (show rH2.length = 32 by rw [← hrH2]; exact b32_len _)
  have HVH2 := Lib.hid (show le rH2 = (le TT % 13407807929942597099574024998205846127479365820592393377723561443721764030073546976801874298166903427690031858186486050853753882811946569946433649006084096 % 7237005577332262213973186563042994240857116359379907606001950938285454250989) by rw [← hrH2]; exact le_b32 _ (lt4L (Nat.mod_lt _ L_pos)))
  clear hrH2
  obtain ⟨rH3, hrH3⟩ : ∃ r, b32 (oMul (le b) (le rH2) (le a)) = r := ⟨_, rfl⟩
  have HQH3 := Lib.hid (fun w => MulAdd_sc b rH2 a w HLA1.out HLH2.out HLA0.out)
  rw [hrH3] at HQH3
  have HLH3 := Lib.hid (show rH3.length = 32 by rw [← hrH3]; exact b32_len _)
  have HVH3 := Lib.hid (show le rH3 = (oMul (le b) (le rH2) (le a)) by rw [← hrH3]; exact le_b32 _ (lt4L (oMul_lt _ _ _ )))
  clear hrH3
  obtain ⟨rH4, hrH4⟩ : ∃ r, b32 (le L % 13407807929942597099574024998205846127479365820592393377723561443721764030073546976801874298166903427690031858186486050853753882811946569946433649006084096 % 7237005577332262213973186563042994240857116359379907606001950938285454250989) = r := ⟨_, rfl⟩
  have HQH4 := Lib.hid (fun v w (h : Bys w v L) => Of_sc v L w h)
  rw [hrH4] at HQH4
  have HLH4 := Lib.hid (show rH4.length = 32 by rw [← hrH4]; exact b32_len _)
  have HVH4 := Lib.hid (show le rH4 = (le L % 13407807929942597099574024998205846127479365820592393377723561443721764030073546976801874298166903427690031858186486050853753882811946569946433649006084096 % 7237005577332262213973186563042994240857116359379907606001950938285454250989) by rw [← hrH4]; exact le_b32 _ (lt4L (Nat.mod_lt _ L_pos)))
  clear hrH4
  obtain ⟨rH5, hrH5⟩ : ∃ r, b32 (le L64 % 13407807929942597099574024998205846127479365820592393377723561443721764030073546976801874298166903427690031858186486050853753882811946569946433649006084096 % 7237005577332262213973186563042994240857116359379907606001950938285454250989) = r := ⟨_, rfl⟩
  have HQH5 := Lib.hid (fun v w (h : Bys w v L64) => Of_sc v L64 w h)
  rw [hrH5] at HQH5
  have HLH5 := Lib.hid (show rH5.length = 32 by rw [← hrH5]; exact b32_len _)
  have HVH5 := Lib.hid (show le rH5 = (le L64 % 13407807929942597099574024998205846127479365820592393377723561443721764030073546976801874298166903427690031858186486050853753882811946569946433649006084096 % 7237005577332262213973186563042994240857116359379907606001950938285454250989) by rw [← hrH5]; exact le_b32 _ (lt4L (Nat.mod_lt _ L_pos)))
  clear hrH5
  refine wp_region_up 16 16 (by kernel_rfl) (by kernel_rfl) (fun _ _ dst _ _ h => by cases dst <;> exact h) ?_
  simp only [List.take_succ_cons, List.take_zero, List.drop_succ_cons, List.drop_zero]
  refine upW_val (by rfl) (by rfl) (by rfl) ?_
  intro K hK
  go_big_quiet_op
  refine hK _ ?_
  refine upW_call (by rfl) (by rfl) (.agg (byteVals rH1).toArray) _ rfl (by simp) (fun p => ?_) ?_
  · go_big_quiet_op
    exact ⟨_, fun q => Calls.ext_of (HQH1.out _ q.x (HBYA.out.below (p.h.trans (q.h.mono p.h.size)))), rfl⟩
  simp only [Act.put, List.setIfInBounds_toArray, List.set]
  refine upW_val (by rfl) (by rfl) (by rfl) (fun K hK => quiet_load_row _ _ rfl (N + 1) rfl 22 _ (0, 0) _ HX1.out Try.underlying22 rfl (sBr b HLA1.out) (hK _ ?_))
  simp only [Act.put, List.setIfInBounds_toArray, List.set]
  refine upW_late (by rfl) (.slice (some ⟨TB, 0, none⟩) 33 33) (fun _ => by kernel_rfl) ?_
  simp only [Act.put, List.setIfInBounds_toArray, List.set]
  refine upW_call (by rfl) (by rfl) (.agg (byteVals rH2).toArray) _ rfl (by simp) (fun p => ?_) ?_
  · go_big_quiet_op
    exact ⟨_, fun q => Calls.ext_of (HQH2.out _ q.x (bys33 TT HLT.out (HTB.out.ext (p.h.trans (q.h.mono p.h.size))))), rfl⟩
  simp only [Act.put, List.setIfInBounds_toArray, List.set]
  refine upW_val (by rfl) (by rfl) (by rfl) (fun K hK => quiet_load_row _ _ rfl N rfl 22 _ (0, 0) _ HX0.out Try.underlying22 rfl (sBr a HLA0.out) (hK _ ?_))
  simp only [Act.put, List.setIfInBounds_toArray, List.set]
  refine upW_call (by rfl) (by rfl) (.agg (byteVals rH3).toArray) _ rfl (by simp) (fun p => ?_) ?_
  · go_big_quiet_op
    exact ⟨_, fun q => Calls.ext_of (HQH3.out q.x), rfl⟩
  simp only [Act.put, List.setIfInBounds_toArray, List.set]
  refine upW_late (by rfl) (.bool true) (fun w => run_eqN rH1 rH3 HLH1.out HLH3.out _ _ _ _ 39 rfl Try.underlying39 (by kernel_rfl) rfl rfl true (decide_eq_true (eq_le32 HLH1.out HLH3.out (by rw [HVH1.out, HVH3.out, HWE.out, HVH2.out, HTE.out]; exact (wide_mul _ _).symm))) w) ?_
  simp only [Act.put, List.setIfInBounds_toArray, List.set]
  refine upW_val (by rfl) (by rfl) (by rfl) ?_
  intro K hK
  go_big_quiet_op
  refine hK _ ?_
  refine upW_val (by rfl) (by rfl) (by rfl) ?_
  intro K hK
  go_big_quiet_op
  refine hK _ ?_
  refine upW_call (by rfl) (by rfl) (.agg (byteVals rH4).toArray) _ rfl (by simp) (fun p => ?_) ?_
  · go_big_quiet_op
    exact ⟨_, fun q => Calls.ext_of (HQH4.out _ q.x (HBYA.out.below (p.h.trans (q.h.mono p.h.size)))), rfl⟩
  simp only [Act.put, List.setIfInBounds_toArray, List.set]
  refine upW_val (by rfl) (by rfl) (by rfl) ?_
  intro K hK
  go_big_quiet_op
  refine hK _ ?_
  refine upW_val (by rfl) (by rfl) (by rfl) ?_
  intro K hK
  go_big_quiet_op
  refine hK _ ?_
  refine upW_call (by rfl) (by rfl) (.agg (byteVals rH5).toArray) _ rfl (by simp) (fun p => ?_) ?_
  · go_big_quiet_op
    exact ⟨_, fun q => Calls.ext_of (HQH5.out _ q.x (HBY64.out.below (p.h.trans (q.h.mono p.h.size)))), rfl⟩
  simp only [Act.put, List.setIfInBounds_toArray, List.set]
  refine upW_late (by rfl) (.bool true) (fun w => run_eqN rH4 rH5 HLH4.out HLH5.out _ _ _ _ 39 rfl Try.underlying39 (by kernel_rfl) rfl rfl true (decide_eq_true (eq_le32 HLH4.out HLH5.out (by rw [HVH4.out, HVH5.out, HWE.out, HWT.out]))) w) ?_
  simp only [Act.put, List.setIfInBounds_toArray, List.set]
  refine upW_val (by rfl) (by rfl) (by rfl) ?_
  intro K hK
  go_big_quiet_op
  refine hK _ ?_
  refine upW_nil (fun w8 hbs => ?_)
  have HF := Lib.hid (HB.out.trans (hbs.mono (show N ≤ _ by have := HB.out.size; have := HN.out; omega)))
  clear hbs
  go_wp2
  go_ret
  exact ⟨rfl, HN.out.symm ▸ HF.out⟩
theorem scalarWide_true (a b l : List UInt8) (v : Value) (w : World) (hla : a.length = 32) (hlb : b.length = 32) (hv : Bys w v l) :
    Calls Try.prog 7 #[.agg (byteVals a).toArray, .agg (byteVals b).toArray, v] w fun e w' => e = .returned (.bool true) ∧ Below w.heap.size w w' := by
  have hv' := hv
  obtain ⟨ao, cap, rfl, _⟩ := hv
  exact scalarWide_nat a b l ao _ cap w hla hlb hv'
theorem scalarWide_own : ownKnob Try.prog.godebug = none := by kernel_rfl
theorem scalarWide_laid : laidOutB Try.prog = true := by kernel_rfl

set_option maxRecDepth 100000 in
theorem scalarWide_lifted (os : Os) (started : os.Started) (H : Type) (enc : TypeId × Value → H) :
    ReturnsInHanded {} Try.checked os 7 .any (Rows.scalarWideSpec.pre6 enc Try.prog Try.f7 Rows.scalarWideRow.domain false) (Rows.scalarWideSpec.post enc Try.prog Try.f7 false true false false) := by
  refine returnsInHanded_of_change (C := Try.checked) scalarWide_own started (by kernel_rfl) Try.func7
    (ChangeSpec.witness6 (enc := enc) (C := Try.checked) false ⟨#[], #[.agg (Array.replicate 32 (.int .u8 0)), .agg (Array.replicate 32 (.int .u8 0)), .slice none 0 0], []⟩ 8 (by kernel_rfl) (by kernel_rfl) (by kernel_rfl) (by kernel_rfl)) ?_
  intro W base args ds gs before hval0 hW hcnd _
  have hval : ∀ (j : Nat) t v, Try.f7.params[j]? = some t → args[j]? = some v → Value.okWide Try.prog W .any base t v := hval0
  have hW' := hW
  obtain ⟨p, q, hA0, hV, rfl, hfz, hnd⟩ := hW
  have hA : DataW.TrodAll enc Try.prog W 0 (fun _ => true) true Try.f7.params.toList args.toList ds p := hA0
  rw [Try.params7] at hA hval
  obtain ⟨v0, vs0, d0, ds0, p0, q0, hargs, rfl, rfl, h0, r0⟩ := trodAll_cons hA
  obtain ⟨v1, vs1, d1, ds1, p1, q1, rfl, rfl, rfl, h1, r1⟩ := trodAll_cons r0
  obtain ⟨v2, vs2, d2, ds2, p2, q2, rfl, rfl, rfl, h2, r2⟩ := trodAll_cons r1
  obtain ⟨rfl, rfl, rfl⟩ := trodAll_nil r2
  obtain rfl : args = #[v0, v1, v2] := by cases args; simp_all
  obtain ⟨rfl, rfl⟩ := trodVars_none hV
  obtain ⟨a0, hl0, rfl, rfl, rfl⟩ := open_arr8 Try.underlying22 Try.underlying5 (by kernel_rfl) (by kernel_rfl) (hval 0 22 v0 rfl rfl) h0
  obtain ⟨a1, hl1, rfl, rfl, rfl⟩ := open_arr8 Try.underlying22 Try.underlying5 (by kernel_rfl) (by kernel_rfl) (hval 1 22 v1 rfl rfl) h1
  have hlt2 : ∀ x ∈ p2, x.block < W.heap.size := fun x hx => hW'.lt x (by simp [hx])
  have hh2 := h2
  obtain ⟨l2, hv2⟩ := open_bys (hval 2 41 v2 rfl rfl) h2
  clear hA0 hval0
  simp only [List.append_nil] at hW'
  refine (scalarWide_true a0 a1 l2 v2 W hl0 hl1 hv2).mono fun e W' ⟨he, bel⟩ => ?_
  subst he
  exact ⟨_, rfl, _, _, _, [], _, [], hW', trodAll_mk1 (shut_bool Try.underlying4 _), (trodAll_cons_mk (shut_arr8 Try.underlying22 Try.underlying5 (by kernel_rfl) (by kernel_rfl) a0 hl0) (trodAll_cons_mk (shut_arr8 Try.underlying22 Try.underlying5 (by kernel_rfl) (by kernel_rfl) a1 hl1) (trodAll_cons_mk (Below.trod scalarWide_laid (by kernel_rfl) (of_decide_eq_true (by kernel_rfl)) hh2 bel hlt2) trodAll_mk0))), rfl, bel.frame _, fun h => by cases h⟩

theorem scalarWide_holds : Rows.ScalarWideSaid :=
  OpenClaim.holds_of_wide 7 Try.f7 rfl rfl rfl rfl rfl rfl rfl ⟨rfl, rfl, rfl, rfl, rfl⟩ rfl rfl rfl rfl rfl (by kernel_rfl) Try.func7 (by kernel_rfl)
    (of_decide_eq_true (by kernel_rfl)) (by unfold Func.isWrapper; first | (rw [if_pos (by decide +kernel)]; kernel_rfl) | (rw [if_neg (by decide +kernel)]; exact ⟨rfl, rfl⟩))
    (fun os started H enc _ => scalarWide_lifted os started H enc)
#print axioms scalarWide_holds

end Go.Proofs.Ytgajheocobgecaa
