/-
  Package sign: a signature is taken; another text's is not, if its number is another; numbers that are reckoned.
  What the statements of sign ask ahead: seed, awake.
  Conditions: the two tables of package sha hold what the program's text lays there.
  What the statements of sign read digits of base sixteen with.
  SignBack: bytes of one's own that are written; a signature with L more.
  What the listed variables give: the two tables of package sha.
  Conditions: none.
-/
import Derived.Test.YtlpchgoaoglhcaaDoorSgF
import Derived.Lib.SlBytesConst
import Derived.Test.YtlpchgoaoglhcaaDoorMb13
import Derived.Test.YtlpchgoaoglhcaaDoorTie
import Derived.Test.YtlpchgoaoglhcaaDoorCards
import Derived.ProofKit
import Derived.LaidMore
import Derived.OpenShut
import Derived.Stop.Joined
import Derived.Lib.LaidTab
import Derived.SevenTiedAt
namespace Go.Proofs.YtlpchgoaoglhcaaDoor
open Go.RowKit
set_option linter.unusedSimpArgs false
set_option linter.unusedVariables false
theorem fp_mod' (n : Nat) : fp (n % PP) = fp n := Fin.ext (Nat.mod_mod _ _)
theorem pN_of {a : Q} {p : Pt} (h : QRep a p) (x y : Nat) (hx : x < PP) (hy : y < PP) (e : (qm x a.2.2.1 == a.1 % PP && qm y a.2.2.1 == a.2.1 % PP) = true) : pN p = y + 57896044618658097711785492504343953926634992332820282019728792003956564819968 * (x % 2) := by
  obtain ⟨_, z0, h1, h2, _⟩ := h
  simp only [Bool.and_eq_true, beq_iff_eq] at e
  obtain ⟨e1, e2⟩ := e
  have f1 : fp x * fp a.2.2.1 = fp a.1 := by rw [← fp_qm, e1]; exact fp_mod' _
  have f2 : fp y * fp a.2.2.1 = fp a.2.1 := by rw [← fp_qm, e2]; exact fp_mod' _
  have g1 : p.x = fp x := Fp.eq_of_sub (Fp.canc z0 (by grind))
  have g2 : p.y = fp y := Fp.eq_of_sub (Fp.canc z0 (by grind))
  have v1 : (fp x).val = x := Nat.mod_eq_of_lt hx
  have v2 : (fp y).val = y := Nat.mod_eq_of_lt hy
  show encXY p.x p.y = _
  rw [g1, g2]
  unfold encXY
  rw [v1, v2]
def tmB (k x y : Nat) : Bool := decide (x < PP) && decide (y < PP) && (match qtimes qB 256 k with | (X, Y, Z, _) => qm x Z == X % PP && qm y Z == Y % PP)
theorem base_num (k x y : Nat) (hk : k < 115792089237316195423570985008687907853269984665640564039457584007913129639936) (h : tmB k x y = true) : pN (ptimes k cB) = y + 57896044618658097711785492504343953926634992332820282019728792003956564819968 * (x % 2) := by
  have hr := qtimes_rep qB_rep 256 k (Nat.lt_of_lt_of_le hk (by decide))
  unfold tmB at h
  simp only [Bool.and_eq_true, decide_eq_true_eq] at h
  refine pN_of hr x y h.1.1 h.1.2 ?_
  have h2 := h.2
  simp only [Bool.and_eq_true] at h2 ⊢
  exact h2
theorem oMul_eq (a b c : Nat) : oMul a b c = (a * b + c) % LL := rfl
theorem endL_good (s x a m : List UInt8) : le (endL s x a m) < 7237005577332262213973186563042994240857116359379907606001950938285454250989 := by
  show le (b32 _) < _
  rw [le_b32 _ (oMul_lt' _ _ _)]
  exact Nat.mod_lt _ (by decide)
theorem ptimes_neg (k : Nat) (p : Pt) : padd (ptimes k p) (ptimes k (pneg p)) = pzero := by
  rw [← ptimes_padd, padd_neg, ptimes_zero]
/-- What the second half says, taken so often. -/
theorem end_times (s x m : List UInt8) : ptimes (le (endL s x (b32 (pN (ptimes (le s) cB))) m)) cB = padd (ptimes (le (dgL (topL x m ++ (b32 (pN (ptimes (le s) cB)) ++ m)))) (ptimes (le s) cB)) (ptimes (le (dgL (x ++ m))) cB) := by
  show ptimes (le (b32 (oMul _ _ _))) cB = _
  rw [le_b32 _ (oMul_lt' _ _ _), oMul_eq, ptimes_rest LB, ptimes_add, ptimes_mul]
theorem le_pubL (s : List UInt8) : pN (pubP s) = le (pubL s) := (le_b32 _ (pN_lt _)).symm
theorem lookB_sig (s m : List UInt8) : lookB (pubL s) m (sigL s m) = true := by
  unfold sigL
  rw [lookB_ok (pubL_len s) (topL_len _ _) (endL_len _ _ _ _) (endL_good _ _ _ _) (le_pubL s) (fun p q h => pN_inj h)]
  have hw : wantP (endL (seedS s) (seedX s) (pubL s) m) (dgL (topL (seedX s) m ++ (pubL s ++ m))) (pubP s) = ptimes (le (dgL (seedX s ++ m))) cB := by
    have he := end_times (seedS s) (seedX s) m
    rw [show b32 (pN (ptimes (le (seedS s)) cB)) = pubL s from rfl] at he
    unfold wantP
    rw [he, show pubP s = ptimes (le (seedS s)) cB from rfl, padd_comm (ptimes _ (ptimes _ _)) (ptimes _ cB), padd_assoc, ptimes_neg, padd_zero]
  rw [hw]
  exact decide_eq_true rfl
theorem lookB_other (s m m' : List UInt8) (h : lookB (pubL s) m' (sigL s m) = true) : le (dgL (topL (seedX s) m ++ (pubL s ++ m))) = le (dgL (topL (seedX s) m ++ (pubL s ++ m'))) ∨ LL ∣ le (seedS s) := by
  unfold sigL at h
  rw [lookB_ok (pubL_len s) (topL_len _ _) (endL_len _ _ _ _) (endL_good _ _ _ _) (le_pubL s) (fun p q h => pN_inj h)] at h
  have h := of_decide_eq_true h
  have h2 : wantP (endL (seedS s) (seedX s) (pubL s) m) (dgL (topL (seedX s) m ++ (pubL s ++ m'))) (pubP s) = ptimes (le (dgL (seedX s ++ m))) cB := pN_inj (b32_inj (pN_lt _) (pN_lt _) h)
  unfold wantP at h2
  have he := end_times (seedS s) (seedX s) m
  rw [show b32 (pN (ptimes (le (seedS s)) cB)) = pubL s from rfl] at he
  rw [he, show pubP s = ptimes (le (seedS s)) cB from rfl] at h2
  have l1 : le (dgL (topL (seedX s) m ++ (pubL s ++ m))) < LL := by rw [le_dgL]; exact Nat.mod_lt _ (by decide)
  have l2 : le (dgL (topL (seedX s) m ++ (pubL s ++ m'))) < LL := by rw [le_dgL]; exact Nat.mod_lt _ (by decide)
  generalize le (dgL (topL (seedX s) m ++ (pubL s ++ m))) = k at h2 l1 ⊢
  generalize le (dgL (topL (seedX s) m ++ (pubL s ++ m'))) = k' at h2 l2 ⊢
  generalize le (dgL (seedX s ++ m)) = r at h2
  generalize le (seedS s) = t at h2 ⊢
  have h3 : padd (ptimes k (ptimes t cB)) (ptimes k' (pneg (ptimes t cB))) = pzero := by
    apply padd_cancel (r := ptimes r cB)
    rw [zero_padd, padd_comm, ← padd_assoc, padd_comm (ptimes r cB)]
    exact h2
  have h4 : ptimes k (ptimes t cB) = ptimes k' (ptimes t cB) := by
    apply padd_cancel (r := ptimes k' (pneg (ptimes t cB)))
    rw [h3, ptimes_neg]
  rw [← ptimes_mul, ← ptimes_mul] at h4
  have eu : ∀ a b : Nat, a ≤ b → b < LL → ptimes (a * t) cB = ptimes (b * t) cB → a = b ∨ LL ∣ t := fun a b hab hb h => by
    have hd := B_order (ptimes_sub (Nat.mul_le_mul_right t hab) h)
    rw [← Nat.sub_mul] at hd
    rcases LL_pri.euclid hd with h5 | h5
    · left
      have := Nat.eq_zero_of_dvd_of_lt h5 (by omega)
      omega
    · exact .inr h5
  rcases Nat.le_total k k' with hk | hk
  · exact eu k k' hk l2 h4
  · rcases eu k' k hk l1 h4.symm with h6 | h6
    · exact .inl h6.symm
    · exact .inr h6
def s7S : List UInt8 := [40, 173, 57, 254, 253, 127, 163, 226, 0, 169, 198, 38, 238, 245, 153, 230, 26, 45, 5, 92, 72, 168, 40, 138, 78, 126, 76, 75, 202, 57, 40, 120]
def s7X : List UInt8 := [156, 125, 109, 179, 80, 109, 101, 219, 172, 124, 5, 42, 174, 228, 133, 116, 37, 33, 12, 155, 197, 64, 48, 200, 38, 229, 64, 85, 152, 52, 82, 165]
theorem s7_S : seedS (List.replicate 32 7) = s7S := by decide +kernel
theorem s7_X : seedX (List.replicate 32 7) = s7X := by decide +kernel
theorem s7_pub : pubL (List.replicate 32 7) = b32 20273286893864491747940271320805639338545082286766576304017848730737787554538 := by
  show b32 (pN (ptimes (le (seedS (List.replicate 32 7))) cB)) = _
  rw [s7_S, show le s7S = 54348614565963985233473401691853911392976031061273879186663727782196546219304 by decide +kernel, base_num 54348614565963985233473401691853911392976031061273879186663727782196546219304 30583896595597167448660195806689023619779376349506671598987115112476240526048 20273286893864491747940271320805639338545082286766576304017848730737787554538 (by decide) (by decide +kernel)]
theorem s7_r : le (dgL (s7X ++ [105, 110, 116, 114, 111, 105, 116])) = 6145003333045600794411202886270637886745024192144359583329255312264412770402 := by rw [le_dgL]; decide +kernel
theorem s7_top : topL (seedX (List.replicate 32 7)) [105, 110, 116, 114, 111, 105, 116] = b32 112221278329147992797314737506188797516102752695957591857262063885582832935427 := by
  show b32 (pN (ptimes (le (dgL (seedX (List.replicate 32 7) ++ [105, 110, 116, 114, 111, 105, 116]))) cB)) = _
  rw [s7_X, s7_r, base_num 6145003333045600794411202886270637886745024192144359583329255312264412770402 51108897635368166762154445533082688013744593681342333807577957132342956190621 54325233710489895085529245001844843589467760363137309837533271881626268115459 (by decide) (by decide +kernel)]
theorem s7_k : le (dgL (b32 112221278329147992797314737506188797516102752695957591857262063885582832935427 ++ (b32 20273286893864491747940271320805639338545082286766576304017848730737787554538 ++ [105, 110, 116, 114, 111, 105, 116]))) = 983624861009510280016749661057756209379206900041532811983301481231963279265 := by rw [le_dgL]; decide +kernel
theorem s7_k2 : le (dgL (b32 112221278329147992797314737506188797516102752695957591857262063885582832935427 ++ (b32 20273286893864491747940271320805639338545082286766576304017848730737787554538 ++ [105, 110, 116, 114, 111, 105]))) = 5673079959708116710697152033947452864540882476893703043907949546416260495850 := by rw [le_dgL]; decide +kernel
theorem s7_not : lookB (pubL (List.replicate 32 7)) [105, 110, 116, 114, 111, 105] (sigL (List.replicate 32 7) [105, 110, 116, 114, 111, 105, 116]) = false := by
  cases h : lookB (pubL (List.replicate 32 7)) [105, 110, 116, 114, 111, 105] (sigL (List.replicate 32 7) [105, 110, 116, 114, 111, 105, 116]) with
  | false => rfl
  | true =>
    exfalso
    rcases lookB_other _ _ _ h with h1 | h1
    · rw [s7_top, s7_pub, s7_k, s7_k2] at h1
      exact absurd h1 (by decide)
    · rw [s7_S, show le s7S = 54348614565963985233473401691853911392976031061273879186663727782196546219304 by decide +kernel] at h1
      exact absurd h1 (by decide +kernel)
end Go.Proofs.YtlpchgoaoglhcaaDoor
namespace Go.Proofs.YtlpchgoaoglhcaaDoor
open Go.RowKit
set_option linter.unusedSimpArgs false
set_option linter.unusedVariables false
def fillL (c : UInt8) (k m : Nat) : List UInt8 := List.replicate k c ++ List.replicate m 0
theorem fillL_len (c : UInt8) (k m : Nat) : (fillL c k m).length = k + m := by simp [fillL]
theorem fillL_set (c : UInt8) (k m : Nat) : (fillL c k (m + 1)).set k c = fillL c (k + 1) m := by
  unfold fillL
  rw [List.set_append_right _ _ (by simp), List.length_replicate, Nat.sub_self, List.replicate_succ, List.set_cons_zero, List.replicate_succ' (n := k), List.append_assoc]
  rfl
theorem fillL_full (c : UInt8) (k : Nat) : fillL c k 0 = List.replicate k c := by simp [fillL]
theorem bsetL {w : World} {g q : Nat} {O : List UInt8} (h : BR w g O) (z : UInt8) : BR (w.setCell ⟨g, q, none⟩ (.int .u8 (z.toNat : Int))) g (O.set q z) := h.set z
set_option maxRecDepth 100000 in
set_option maxHeartbeats 1000000 in
theorem seed10_any (c : UInt8) (w : World) :
    Calls Tryd.prog 18 #[.int .u8 (c.toNat : Int)] w fun e w' => ∃ v, e = .returned v ∧ Owns w' w.heap.size v (List.replicate 32 c) ∧ Below w.heap.size w w' := by
  have hmk := fun w => make_run 32 32 rfl (by decide) w
  obtain ⟨L, hL⟩ : ∃ L, fillL c 32 0 = L := ⟨_, rfl⟩
  rw [← fillL_full, hL]
  have HL := Lib.hid hL
  have HLL := Lib.hid (show L.length = 32 by rw [← hL, fillL_len])
  clear hL
  go_enter Tryd.func18, Tryd.ntmps18
  go_wp2_with fail
  generalize hW2 : World.alloc _ _ = W2
  obtain ⟨g, hg⟩ : ∃ x, w.heap.size = x := ⟨_, rfl⟩
  have HRG := Lib.hid (show BR W2 g (fillL c 0 32) by subst hW2; rw [← hg]; exact Go.heap_alloc_new _ _)
  have HB2 := Lib.hid (show Below g w W2 by subst hW2; rw [← hg]; exact (Below.refl _ w).alloc (Nat.le_refl _) _)
  have HG0 := Lib.hid hg
  rw [hg]
  clear hW2 hg hmk
  go_loopw [4] (fun iv wr => ∃ (k r : Nat), iv = .int .i64 k ∧ k + r = 32 ∧ BR wr g (fillL c k r) ∧ Below g w wr) (fun i _ => 32 - (intOf i).toNat)
  case atStart => exact ⟨0, 32, rfl, by omega, HRG.out, HB2.out⟩
  case round =>
    obtain ⟨k, r, rfl, hk, hr1, hbel⟩ := hrel
    clear HRG HB2
    have HRG := Lib.hid hr1
    have HB2 := Lib.hid hbel
    clear hr1 hbel
    cases r with
    | succ r =>
      have hlt' : (k : Int) < 32 := by omega
      have hlt2 : k < 32 := by omega
      have hk0 : (0 : Int) ≤ (k : Int) := by omega
      obtain ⟨c1, f1⟩ := HRG.out.cells (q := k) (by rw [fillL_len]; omega)
      generalize (fillL c k (r + 1)).getD k 0 = oo at c1
      have HO := Lib.hid (fillL_set c k r)
      go_wp2_with fail
      go_roundw
      case rel => exact ⟨k + 1, r, rfl, by omega, by rw [← HO.out]; exact bsetL HRG.out c, HB2.out.setCell (p := ⟨g, k, none⟩) (Nat.le_refl _) _⟩
      case measure => simp [intOf]; omega
    | zero =>
      obtain rfl : k = 32 := by omega
      go_wp2
      go_ret
      exact ⟨_, rfl, by rw [HG0.out]; exact (show BR wr g L by rw [← HL.out]; exact HRG.out).owns (Nat.le_refl _) HLL.out (by decide), by rw [HG0.out]; exact HB2.out⟩
/-- The bytes of a text that the law writes out. -/
def introitL : List UInt8 := [105, 110, 116, 114, 111, 105, 116]
def introiL : List UInt8 := [105, 110, 116, 114, 111, 105]
theorem bys_litF (w : World) (l : List UInt8) (fr : Nat × Nat) (n : Nat) (hn : n = l.length) (h : l.length ≤ 100000) : Bys (w.alloc (.cells (byteVals l).toArray 5 fr)) (.slice (some ⟨w.heap.size, 0, none⟩) n n) l := by
  subst hn; exact bys_newF w l fr h
theorem ct_pub {w : World} {b : Nat} {t : TypeId} {s : List UInt8} (h : CT w b t (RB (keyL s))) : Bys w (.slice (some ⟨b, 64, none⟩) 32 32) (pubL s) :=
  ct_part (pre := seedS s ++ seedX s) (post := []) (by rw [List.append_nil, List.append_assoc]; exact h) (by simp [seedS_len, seedX_len]) (pubL_len s) (by decide)
set_option maxRecDepth 100000 in
set_option maxHeartbeats 4000000 in
theorem awake10_true (w : World) (hG : Gl w) :
    Calls Tryd.prog 13 #[] w fun e w' => e = .returned (.bool true) ∧ Below w.heap.size w w' := by
  have HG := Lib.hid hG
  clear hG
  obtain ⟨s7, hs7⟩ : ∃ s, List.replicate 32 (7 : UInt8) = s := ⟨_, rfl⟩
  have HLS := Lib.hid (show s7.length = 32 by rw [← hs7]; rfl)
  have HN7 := Lib.hid (show lookB (pubL s7) introiL (sigL s7 introitL) = false by rw [← hs7]; exact s7_not)
  have HY7 := Lib.hid (lookB_sig s7 introitL)
  have HSD := Lib.hid (fun w => seed10_any 7 w)
  rw [hs7] at HSD
  clear hs7
  go_enter Tryd.func13, Tryd.ntmps13
  have kc := fun (w : World) (C : Array Value) (n c : Nat) => Lib.run_convert_bytes_const (P := Tryd.prog) w 22 5 C n c Tryd.underlying22 Tryd.underlying5
  go_wp2_with fail
  refine (HSD.out w).mono ?_
  rintro e w1 ⟨sv, rfl, ho1, hb1⟩
  have HO1 := Lib.hid ho1.bys
  have HB1 := Lib.hid hb1
  have HG1 := Lib.hid (HG.out.below hb1)
  clear ho1 hb1 HG
  go_wp2_with fail
  refine (Public_ok sv s7 w1 HO1.out HLS.out HG1.out).mono ?_
  rintro e w2 ⟨B, hB, rfl, hct, hb2⟩
  have HCT := Lib.hid hct
  have HB2 := Lib.hid (bchain HB1.out hb2)
  have HG2 := Lib.hid (HG1.out.below hb2)
  clear hB hct hb2 HO1 HB1 HG1
  go_wp2_with fail
  refine (HSD.out w2).mono ?_
  rintro e w3 ⟨sv2, rfl, ho3, hb3⟩
  have HO3 := Lib.hid ho3.bys
  have HB3 := Lib.hid (bchain HB2.out hb3)
  have HG3 := Lib.hid (HG2.out.below hb3)
  have HCT3 := Lib.hid (HCT.out.ext hb3)
  clear ho3 hb3 HB2 HG2 HCT
  go_wp2_with fail
  generalize hW4 : World.alloc _ _ = W4
  have HM4 := Lib.hid (show Bys W4 (.slice (some ⟨w3.heap.size, 0, none⟩) 7 7) introitL by subst hW4; exact bys_litF w3 introitL _ 7 rfl (by decide))
  have hb4 : Below w3.heap.size w3 W4 := by subst hW4; exact (Below.refl _ w3).alloc (Nat.le_refl _) _
  have HB4 := Lib.hid (bchain HB3.out hb4)
  have HG4 := Lib.hid (HG3.out.below hb4)
  have HCT4 := Lib.hid (HCT3.out.ext hb4)
  have HO4 := Lib.hid (HO3.out.below hb4)
  clear hW4 hb4 HB3 HG3 HCT3 HO3
  refine (Sign_ok sv2 s7 _ introitL W4 HO4.out HLS.out HM4.out (by decide) HG4.out).mono ?_
  rintro e w5 ⟨gv, rfl, ho5, hb5⟩
  obtain ⟨ga, gc, rfl⟩ := ho5.bys.slice
  have hsl := sigL_len s7 introitL
  generalize (sigL s7 introitL).length = sl at hsl ho5
  subst hsl
  have HS5 := Lib.hid ho5.bys
  have HB5 := Lib.hid (bchain HB4.out hb5)
  have HG5 := Lib.hid (HG4.out.below hb5)
  have HP5 := Lib.hid (ct_pub (HCT4.out.ext hb5))
  clear ho5 hb5 HB4 HG4 HCT4 HO4 HM4
  go_wp2_with fail
  generalize hW6 : World.alloc _ _ = W6
  have HM6 := Lib.hid (show Bys W6 (.slice (some ⟨w5.heap.size, 0, none⟩) 7 7) introitL by subst hW6; exact bys_litF w5 introitL _ 7 rfl (by decide))
  have hb6 : Below w5.heap.size w5 W6 := by subst hW6; exact (Below.refl _ w5).alloc (Nat.le_refl _) _
  have HB6 := Lib.hid (bchain HB5.out hb6)
  have HG6 := Lib.hid (HG5.out.below hb6)
  have HS6 := Lib.hid (HS5.out.below hb6)
  have HP6 := Lib.hid (HP5.out.below hb6)
  clear hW6 hb6 HB5 HG5 HS5 HP5
  refine (Verify_any _ (pubL s7) _ introitL _ (sigL s7 introitL) W6 HP6.out HM6.out HS6.out (by decide) HG6.out).mono ?_
  rintro e w7 ⟨rfl, hb7⟩
  rw [HY7.out]
  have HB7 := Lib.hid (bchain HB6.out hb7)
  have HG7 := Lib.hid (HG6.out.below hb7)
  have HS7 := Lib.hid (HS6.out.below hb7)
  have HP7 := Lib.hid (HP6.out.below hb7)
  clear hb7 HB6 HG6 HS6 HP6 HM6
  go_wp2_with fail
  generalize hW8 : World.alloc _ _ = W8
  have HM8 := Lib.hid (show Bys W8 (.slice (some ⟨w7.heap.size, 0, none⟩) 6 6) introiL by subst hW8; exact bys_litF w7 introiL _ 6 rfl (by decide))
  have hb8 : Below w7.heap.size w7 W8 := by subst hW8; exact (Below.refl _ w7).alloc (Nat.le_refl _) _
  have HB8 := Lib.hid (bchain HB7.out hb8)
  have HG8 := Lib.hid (HG7.out.below hb8)
  have HS8 := Lib.hid (HS7.out.below hb8)
  have HP8 := Lib.hid (HP7.out.below hb8)
  clear hW8 hb8 HB7 HG7 HS7 HP7
  refine (Verify_any _ (pubL s7) _ introiL _ (sigL s7 introitL) W8 HP8.out HM8.out HS8.out (by decide) HG8.out).mono ?_
  rintro e w9 ⟨rfl, hb9⟩
  rw [HN7.out]
  have HB9 := Lib.hid (bchain HB8.out hb9)
  clear hb9 HB8 HG8 HS8 HP8 HM8
  go_wp2
  go_ret
  exact ⟨rfl, HB9.out⟩
end Go.Proofs.YtlpchgoaoglhcaaDoor
namespace Go.Proofs.YtlpchgoaoglhcaaDoor
open Go.RowKit
set_option linter.unusedSimpArgs false
set_option linter.unusedVariables false
def hexV (c : UInt8) : Nat := if 97 ≤ c.toNat then c.toNat - 87 else c.toNat - 48
def hexOk (c : UInt8) : Prop := (48 ≤ c.toNat ∧ c.toNat ≤ 57) ∨ (97 ≤ c.toNat ∧ c.toNat ≤ 102)
instance (c : UInt8) : Decidable (hexOk c) := by unfold hexOk; exact inferInstance
theorem hexV_lt {c : UInt8} (h : hexOk c) : hexV c < 16 := by
  unfold hexV hexOk at *
  split <;> omega
def unhex : List UInt8 → List UInt8
  | a :: b :: r => UInt8.ofNat (16 * hexV a + hexV b) :: unhex r
  | _ => []
theorem unhex_snoc : ∀ (l : List UInt8) (a b : UInt8), l.length % 2 = 0 → unhex (l ++ [a, b]) = unhex l ++ [UInt8.ofNat (16 * hexV a + hexV b)]
  | [], a, b, _ => rfl
  | [x], a, b, h => by simp at h
  | x :: y :: r, a, b, h => by
    have := unhex_snoc r a b (by simp at h ⊢; omega)
    simp only [List.cons_append, unhex, this]
theorem unhex_len : ∀ l : List UInt8, (unhex l).length = l.length / 2
  | [] => rfl
  | [x] => by simp [unhex]
  | x :: y :: r => by simp only [unhex, List.length_cons, unhex_len r]; omega
theorem unhex_even : ∀ l : List UInt8, unhex l = unhex (l.take (2 * (l.length / 2)))
  | [] => rfl
  | [x] => by simp [unhex]
  | x :: y :: r => by
    have := unhex_even r
    rw [show 2 * ((x :: y :: r).length / 2) = 2 * (r.length / 2) + 1 + 1 by simp only [List.length_cons]; omega, List.take_succ_cons, List.take_succ_cons]
    simp only [unhex]
    rw [this]
theorem Owns.keep {w w' : World} {B : Nat} {v : Value} {xs : List UInt8} (h : Owns w B v xs) (hb : Below w.heap.size w w') : Owns w' B v xs := by
  obtain ⟨h0, h1 | ⟨g, cap, cur, rfl, hg, hh, r⟩⟩ := h
  · exact ⟨h0, .inl h1⟩
  · exact ⟨h0, .inr ⟨g, cap, cur, rfl, hg, (hb.block g (lt_of_block hh)).trans hh, r⟩⟩
theorem Owns.alloc {w : World} {B : Nat} {v : Value} {xs : List UInt8} (h : Owns w B v xs) (o : Obj) : Owns (w.alloc o) B v xs := h.keep ((Below.refl _ _).alloc (Nat.le_refl _) _)
set_option maxRecDepth 100000 in
set_option maxHeartbeats 2000000 in
theorem bytes10_any (L : List UInt8) (hL : ∀ c ∈ L, hexOk c) (hl : L.length ≤ 1000) (w : World) :
    Calls Tryd.prog 15 #[.string ⟨L.toArray⟩] w fun e w' => ∃ v, e = .returned v ∧ Owns w' w.heap.size v (unhex L) ∧ Below w.heap.size w w' := by
  have HL := Lib.hid hL
  have HLL := Lib.hid hl
  clear hL hl
  obtain ⟨N, hN⟩ : ∃ N, L.length = N := ⟨_, rfl⟩
  have hsz : (⟨L.toArray⟩ : ByteArray).size = N := by show L.toArray.size = N; simp [hN]
  have HN := Lib.hid hN
  have HU := Lib.hid (show unhex L = unhex (L.take (2 * (N / 2))) by rw [← hN, ← unhex_even L])
  have hN1 : N ≤ 1000 := by have := HLL.out; omega
  clear hN
  go_enter Tryd.func15, Tryd.ntmps15
  go_wp2_with fail
  go_loopw [3, 4] (fun ov iv wr => ∃ i : Nat, i % 2 = 0 ∧ i ≤ N ∧ iv = .int .i64 i ∧ Owns wr w.heap.size ov (unhex (L.take i)) ∧ Below w.heap.size w wr) (fun _ i _ => N - (intOf i).toNat)
  case atStart => exact ⟨0, rfl, by omega, rfl, World.ownsRow_nil _ _ _ _, Below.refl _ _⟩
  case round =>
    obtain ⟨i, hev, hj, rfl, hown, hbr⟩ := hrel
    have HEV := Lib.hid hev
    clear hev
    rename World => Wr
    have HOWN := Lib.hid hown
    have HBR := Lib.hid hbr
    clear hown hbr
    by_cases hjn : i + 1 < N
    · have h1 : (i : Int) + 1 < (N : Int) := by omega
      have h2 : (i : Int) < (i : Int) + 2 := by omega
      have hx0 : i < L.length := by have := HN.out; omega
      have hx1 : i + 1 < L.length := by have := HN.out; omega
      obtain ⟨A, hA⟩ : ∃ c, L[i] = c := ⟨_, rfl⟩
      obtain ⟨B, hB⟩ : ∃ c, L[i + 1] = c := ⟨_, rfl⟩
      have HA := Lib.hid (show hexOk A by rw [← hA]; exact HL.out _ (List.getElem_mem _))
      have HB := Lib.hid (show hexOk B by rw [← hB]; exact HL.out _ (List.getElem_mem _))
      have HGA := Lib.hid hA
      have HGB := Lib.hid hB
      clear hA hB
      go_wp2_with fail
      go_loopw [5, 6] (fun nv kv wr => wr = Wr ∧ ∃ t : Nat, t ≤ 2 ∧ kv = .int .i64 (i + t : Nat) ∧ nv = .int .i64 (if t = 0 then (0 : Nat) else if t = 1 then hexV A else 16 * hexV A + hexV B : Nat)) (fun _ kv _ => i + 2 - (intOf kv).toNat)
      case atStart => exact ⟨rfl, 0, by omega, rfl, rfl⟩
      case round =>
        obtain ⟨hww, t, ht, rfl, rfl⟩ := hrel
        subst hww
        have h3 : t = 0 ∨ t = 1 ∨ t = 2 := by omega
        rcases h3 with rfl | rfl | rfl
        · have h4 : ((i + 0 : Nat) : Int) < (i : Int) + 2 := by omega
          have hb : ∀ h : i < (⟨L.toArray⟩ : ByteArray).size, (⟨L.toArray⟩ : ByteArray)[i] = A := fun _ => HGA.out
          have ho := HA.out
          have hv : hexV A = if 97 ≤ A.toNat then A.toNat - 87 else A.toNat - 48 := rfl
          unfold hexOk at ho
          obtain ⟨a, ha⟩ : ∃ n, A.toNat = n := ⟨_, rfl⟩
          rw [ha] at ho hv
          have HV := Lib.hid hv
          clear hv
          by_cases h97 : 97 ≤ a
          · have h97' : (97 : Int) ≤ (a : Int) := by omega
            have e1 : hexV A = a - 87 := by have := HV.out; rw [if_pos h97] at this; exact this
            have HE := Lib.hid e1
            clear e1
            have w1 : wrap64 (a : Int) = a := by unfold wrap64; omega
            have w2 : wrap64 ((a : Int) - 39) = a - 39 := by unfold wrap64; omega
            go_wp2
            go_roundw
            case rel => exact ⟨by trivial, 1, by omega, by go_num, by have := HE.out; simp [this]; omega⟩
            case measure => simp [intOf] <;> omega
          · have h97' : ¬ (97 : Int) ≤ (a : Int) := by omega
            have e1 : hexV A = a - 48 := by have := HV.out; rw [if_neg h97] at this; exact this
            have HE := Lib.hid e1
            clear e1
            have w1 : wrap64 (a : Int) = a := by unfold wrap64; omega
            go_wp2
            go_roundw
            case rel => exact ⟨by trivial, 1, by omega, by go_num, by have := HE.out; simp [this]; omega⟩
            case measure => simp [intOf] <;> omega
        · have HVA := Lib.hid (hexV_lt HA.out)
          obtain ⟨va, hva⟩ : ∃ n, hexV A = n := ⟨_, rfl⟩
          rw [hva] at HVA ⊢
          have hva16 := HVA.out
          have h4 : ((i + 1 : Nat) : Int) < (i : Int) + 2 := by omega
          have hb : ∀ h : i + 1 < (⟨L.toArray⟩ : ByteArray).size, (⟨L.toArray⟩ : ByteArray)[i + 1] = B := fun _ => HGB.out
          have ho := HB.out
          have hv : hexV B = if 97 ≤ B.toNat then B.toNat - 87 else B.toNat - 48 := rfl
          unfold hexOk at ho
          obtain ⟨b, hb⟩ : ∃ n, B.toNat = n := ⟨_, rfl⟩
          rw [hb] at ho hv
          have HV := Lib.hid hv
          clear hv
          by_cases h97 : 97 ≤ b
          · have h97' : (97 : Int) ≤ (b : Int) := by omega
            have e1 : hexV B = b - 87 := by have := HV.out; rw [if_pos h97] at this; exact this
            have HE := Lib.hid e1
            clear e1
            have w1 : wrap64 (b : Int) = b := by unfold wrap64; omega
            have w2 : wrap64 ((b : Int) - 39) = b - 39 := by unfold wrap64; omega
            go_wp2
            go_roundw
            case rel => exact ⟨by trivial, 2, by omega, by go_num, by have := HE.out; simp [this]; omega⟩
            case measure => simp [intOf] <;> omega
          · have h97' : ¬ (97 : Int) ≤ (b : Int) := by omega
            have e1 : hexV B = b - 48 := by have := HV.out; rw [if_neg h97] at this; exact this
            have HE := Lib.hid e1
            clear e1
            have w1 : wrap64 (b : Int) = b := by unfold wrap64; omega
            go_wp2
            go_roundw
            case rel => exact ⟨by trivial, 2, by omega, by go_num, by have := HE.out; simp [this]; omega⟩
            case measure => simp [intOf] <;> omega
        · have h4 : ¬ ((i + 2 : Nat) : Int) < (i : Int) + 2 := by omega
          have HTS := Lib.hid (show unhex (L.take (i + 2)) = unhex (L.take (i)) ++ [UInt8.ofNat (16 * hexV A + hexV B)] by
            rw [← unhex_snoc _ A B (by rw [List.length_take]; have := HEV.out; omega)]
            congr 1
            rw [show i + 2 = i + 1 + 1 by omega, List.take_succ_eq_append_getElem hx1, List.take_succ_eq_append_getElem hx0, HGA.out, HGB.out, List.append_assoc]
            rfl)
          have HVA := hexV_lt HA.out
          have HVB := hexV_lt HB.out
          obtain ⟨z, hz⟩ : ∃ z, 16 * hexV A + hexV B = z := ⟨_, rfl⟩
          have hzz : (16 * (hexV A : Int) + (hexV B : Int)) = (z : Int) := by omega
          have hz256 : z < 256 := by omega
          rw [hz] at HTS
          have HZ := Lib.hid (show (UInt8.ofNat z).toNat = z by simp; omega)
          have HLT := Lib.hid (show (unhex (L.take (i))).length ≤ 1000 by rw [unhex_len, List.length_take]; omega)
          generalize unhex (L.take (i)) = O at HOWN HTS HLT
          have hbz := HBR.out.size
          have hzm : (z : Int) % 256 = (z : Int) := by omega
          clear HVA HVB
          have HAL := Lib.hid (fun (r : Nat × Nat) => show Bys (wr.alloc (.cells #[.int .u8 (z : Int)] 5)) (.slice (some ⟨wr.heap.size, 0, none⟩) 1 1) [UInt8.ofNat z] by
            have := bys_new wr [UInt8.ofNat z] (by simp)
            simpa [byteVals, HZ.out] using this)
          have HOW2 := Lib.hid (show Owns (wr.alloc (.cells #[.int .u8 (z : Int)] 5)) w.heap.size u3 O from HOWN.out.alloc _)
          go_wp2_with (at_builtin; refine wpList_append_bys rfl _ _ rfl w.heap.size _ _ rfl HOW2.out _ _ rfl (HAL.out (0, 0)) (by have := HLT.out; simp; omega) (by simp; omega) ?_)
          intro v2 w2 hown2 hgr2
          have HO2 := Lib.hid hown2
          have HG2 := Lib.hid (Below.of_grown (HBR.out.alloc hbz (.cells #[.int .u8 (z : Int)] 5)) (by simp; omega) HOW2.out hgr2)
          clear hown2 hgr2
          go_wp2
          go_roundw
          case rel => exact ⟨i + 2, by have := HEV.out; omega, by omega, by go_num, by rw [HTS.out]; exact HO2.out, HG2.out⟩
          case measure => simp [intOf] <;> omega
    · have HE := Lib.hid (show 2 * (N / 2) = i by have := HEV.out; omega)
      have h1 : ¬ (i : Int) + 1 < (N : Int) := by omega
      go_wp2
      go_ret
      exact ⟨_, rfl, by rw [HU.out, HE.out]; exact HOWN.out, HBR.out⟩
end Go.Proofs.YtlpchgoaoglhcaaDoor
namespace Go.Proofs.YtlpchgoaoglhcaaDoor
open Go.RowKit
set_option linter.unusedSimpArgs false
set_option linter.unusedVariables false
/-- A block of one's own: bytes, and what lies behind them. -/
def OW (w : World) (g : Nat) (l : List UInt8) (r : List Value) : Prop := w.heap[g]? = some (.cells (byteVals l ++ r).toArray 5 (0, 0))
theorem Owns.ow {w : World} {B : Nat} {v : Value} {xs : List UInt8} (h : Owns w B v xs) {n : Nat} (hn : xs.length = n) (h0 : 0 < n) : ∃ g cap r, v = .slice (some ⟨g, 0, none⟩) n cap ∧ B ≤ g ∧ n ≤ cap ∧ cap ≤ maxLen ∧ OW w g xs r := by
  subst hn
  obtain ⟨h1, h2⟩ := h
  rcases h2 with ⟨rfl, hn⟩ | ⟨g, cap, cur, rfl, hg, hh, hnc, hcm, hcs, htake⟩
  · omega
  · refine ⟨g, cap, cur.toList.drop xs.length, rfl, hg, hnc, hcm, ?_⟩
    unfold OW
    rw [hh]
    have e : byteVals xs ++ cur.toList.drop xs.length = cur.toList := by
      rw [← htake, Nat.mul_one, List.take_append_drop]
    rw [e]
theorem OW.lt {w : World} {g : Nat} {l : List UInt8} {r : List Value} (h : OW w g l r) : g < w.heap.size := (Array.getElem?_eq_some_iff.1 (show w.heap[g]? = _ from h)).1
theorem OW.ext {w w' : World} {g : Nat} {l : List UInt8} {r : List Value} (h : OW w g l r) (hb : Below w.heap.size w w') : OW w' g l r := (hb.block g h.lt).trans h
theorem OW.cell {w : World} {g i : Nat} {l : List UInt8} {r : List Value} (h : OW w g l r) (hi : i < l.length) : w.cell? ⟨g, i, none⟩ = some (.int .u8 ((l.getD i 0).toNat : Int)) := by
  rw [cell_of_row _ _ _ _ _ _ h]
  simp [byteVals, List.getElem?_append_left, hi, List.getElem?_eq_getElem hi]
theorem OW.frozen {w : World} {g : Nat} {l : List UInt8} {r : List Value} (h : OW w g l r) (i : Nat) : w.frozen? ⟨g, i, none⟩ = false := frozen_of_row _ _ _ _ _ h
theorem OW.set {w : World} {g i : Nat} {l : List UInt8} {r : List Value} (h : OW w g l r) (hi : i < l.length) (x : UInt8) : OW (w.setCell ⟨g, i, none⟩ (.int .u8 (x.toNat : Int))) g (l.set i x) r := by
  unfold OW
  rw [setCell_cells _ h]
  congr 2
  apply Array.ext'
  simp [byteVals, List.set_append_left, hi, List.map_set]
theorem OW.bys {w : World} {g n cap : Nat} {l : List UInt8} {r : List Value} (h : OW w g l r) (hn : l.length = n) (hc : n ≤ cap) (hm : cap ≤ maxLen) : Bys w (.slice (some ⟨g, 0, none⟩) n cap) l := by
  subst hn
  refine ⟨_, cap, rfl, ⟨hc, hm, fun h => by cases h⟩, .inr ⟨g, 0, rfl, h.lt, fun i hi => ?_⟩⟩
  rw [Nat.zero_add, h.cell hi]
  simp [List.getD_eq_getElem?_getD, List.getElem?_eq_getElem hi]
theorem owns_empty (w : World) (B : Nat) (hB : B ≤ w.heap.size) : Owns (w.alloc (.cells #[] 5)) B (.slice (some ⟨w.heap.size, 0, none⟩) 0 0) [] := by
  refine ⟨rfl, .inr ⟨w.heap.size, 0, #[], rfl, hB, ?_, Nat.le_refl _, by decide, rfl, rfl⟩⟩
  show (w.heap.push _)[w.heap.size]? = _
  simp
theorem lookB_len {pub m sig : List UInt8} (h : ¬ (pub.length = 32 ∧ sig.length = 64)) : lookB pub m sig = false := by
  unfold lookB
  rw [if_neg (fun h' => h ⟨h'.1, h'.2.1⟩)]
theorem lookB_big {pub m a b : List UInt8} (ha : a.length = 32) (h : LL ≤ le b) : lookB pub m (a ++ b) = false := by
  unfold lookB
  rw [if_neg (fun h' => by
    have h3 := h'.2.2
    rw [show (a ++ b).drop 32 = b by rw [← ha, List.drop_left]] at h3
    exact absurd h3 (Nat.not_lt.2 h))]
theorem le_take_succ (l : List UInt8) (i : Nat) (h : i < l.length) : le (l.take (i + 1)) = le (l.take i) + 256 ^ i * (l.getD i 0).toNat := by
  induction l generalizing i with
  | nil => simp at h
  | cons x l ih =>
    cases i with
    | zero => simp [le]
    | succ i =>
      have := ih i (by simpa using h)
      simp only [List.take_succ_cons, le, this, List.getD_cons_succ, Nat.pow_succ]
      rw [Nat.mul_add, ← Nat.add_assoc]
      congr 1
      rw [Nat.mul_comm (256 ^ i) 256, Nat.mul_assoc]
theorem take_set (l : List UInt8) (i : Nat) (x : UInt8) (h : i < l.length) : (l.set i x).take i = l.take i := by
  rw [List.take_set, List.set_eq_of_length_le (by simp; omega)]
/-- What has been reckoned at place i: a sum's lower bytes, and what is carried. -/
structure CSt (E K E' : List UInt8) (i c : Nat) : Prop where
  len : E'.length = 32
  c1 : c ≤ 1
  rest : ∀ k, i ≤ k → E'.getD k 0 = E.getD k 0
  sum : le (E'.take i) + 256 ^ i * c = le (E.take i) + le (K.take i)
theorem CSt.zero (E K : List UInt8) (h : E.length = 32) : CSt E K E 0 0 := ⟨h, by omega, fun _ _ => rfl, by simp [le]⟩
theorem CSt.step {E K E' : List UInt8} {i c : Nat} (h : CSt E K E' i c) (hE : E.length = 32) (hK : K.length = 32) (hi : i < 32) {z : Nat} (hz : z = c + ((E'.getD i 0).toNat + (K.getD i 0).toNat)) : CSt E K (E'.set i (UInt8.ofNat (z % 256))) (i + 1) (z / 256) := by
  have l1 := h.len
  have l2 := h.c1
  have e1 := h.rest i (Nat.le_refl _)
  have b1 := (E'.getD i 0).toNat_lt
  have b2 := (K.getD i 0).toNat_lt
  refine ⟨by rw [List.length_set]; exact h.len, by omega, fun k hk => ?_, ?_⟩
  · rw [List.getD_eq_getElem?_getD, List.getElem?_set_ne (by omega), ← List.getD_eq_getElem?_getD]
    exact h.rest k (by omega)
  · have e3 : ((E'.set i (UInt8.ofNat (z % 256))).getD i 0).toNat = z % 256 := by
      rw [List.getD_eq_getElem?_getD, List.getElem?_set_self (by omega)]
      simp
    rw [le_take_succ _ i (by rw [List.length_set]; omega), le_take_succ E i (by omega), le_take_succ K i (by omega), take_set _ _ _ (by omega), e3, ← e1]
    have hs := h.sum
    have e4 : 256 ^ (i + 1) * (z / 256) + 256 ^ i * (z % 256) = 256 ^ i * z := by
      rw [Nat.pow_succ, Nat.mul_assoc, ← Nat.mul_add, Nat.div_add_mod]
    generalize 256 ^ (i + 1) * (z / 256) = X at e4 ⊢
    generalize hp : 256 ^ i * (z % 256) = Y at e4 ⊢
    rw [hz, Nat.mul_add, Nat.mul_add] at e4
    generalize 256 ^ i * c = Z1 at *
    generalize 256 ^ i * (E'.getD i 0).toNat = Z2 at *
    generalize 256 ^ i * (K.getD i 0).toNat = Z3 at *
    omega
theorem CSt.full {E K E' : List UInt8} {c : Nat} (h : CSt E K E' 32 c) (hE : E.length = 32) (hK : K.length = 32) (h1 : le E < LL) (h2 : le K = LL) : c = 0 ∧ LL ≤ le E' := by
  have hs := h.sum
  rw [List.take_of_length_le (by rw [h.len]; decide), List.take_of_length_le (by omega), List.take_of_length_le (by omega), h2] at hs
  have hc := h.c1
  have hp : (256 : Nat) ^ 32 = 115792089237316195423570985008687907853269984665640564039457584007913129639936 := by decide
  rw [hp] at hs
  have hL : LL = 7237005577332262213973186563042994240857116359379907606001950938285454250989 := rfl
  rw [hL] at hs h1 ⊢
  omega
theorem getD_right (T E : List UInt8) (i : Nat) (hT : T.length = 32) : (T ++ E).getD (32 + i) 0 = E.getD i 0 := by
  rw [List.getD_eq_getElem?_getD, List.getElem?_append_right (by omega), hT, Nat.add_sub_cancel_left, ← List.getD_eq_getElem?_getD]
theorem set_right (T E : List UInt8) (i : Nat) (x : UInt8) (hT : T.length = 32) : (T ++ E).set (32 + i) x = T ++ E.set i x := by
  rw [List.set_append_right _ _ (by omega), hT, Nat.add_sub_cancel_left]
end Go.Proofs.YtlpchgoaoglhcaaDoor
namespace Go.Proofs.YtlpchgoaoglhcaaDoor
open Go.ChangeShapes Go.WideShapes Go.ChangeAt Go.RowKit
def doorSteps : Nat := 400
def laid2 : List (String × DataW Unit) := Rows.sumSaysRow.laid
theorem door_own : ownKnob Tryd.prog.godebug = none := by kernel_rfl
theorem gSq : Tryd.prog.globalNamed "introit/sha.squareRoots" = some 0 := by kernel_rfl
theorem gCu : Tryd.prog.globalNamed "introit/sha.cubeRoots" = some 1 := by kernel_rfl
theorem tSq : (Tryd.prog.globals[0]?).map (·.type) = some 53 := by kernel_rfl
theorem tCu : (Tryd.prog.globals[1]?).map (·.type) = some 60 := by kernel_rfl
theorem sq_tab : (Rows.laid_introit_sha_squareRoots : DataW Unit) = Lib.tabData .u64 (square.map fun n : Nat => (n : Int)) := by kernel_rfl
theorem cu_tab : (Rows.laid_introit_sha_cubeRoots : DataW Unit) = Lib.tabData .u64 (cube.map fun n : Nat => (n : Int)) := by kernel_rfl
/-- The door's own heap meets the condition. -/
theorem door_met (os : Os) (args : Array Value) : laidMetH Tryd.prog laid2 ((World.doorLaid Tryd.prog doorSteps os).forCall (fun _ _ => 0) ⟨#[], args, []⟩).memory :=
  laidMetH_of_parts3 (fuel := 8) (laidMet_of_run' 8 (by kernel_rfl) (by kernel_rfl)) (by kernel_rfl) (by kernel_rfl)
theorem of_laid {W : World} (h : laidMetH Tryd.prog laid2 W) : Gl W := by
  rw [MakeChecks.laidMetH_plain _ _ _ (by kernel_rfl)] at h
  obtain ⟨ps, ⟨g0, t0, cs0, f0, p0, q0, hg0, ht0, hv0, hd0, ⟨g1, t1, cs1, f1, p1, q1, hg1, ht1, hv1, hd1, _, _⟩, _⟩, _, _⟩ := h
  obtain rfl := Option.some.inj (gSq.symm.trans hg0)
  obtain rfl := Option.some.inj (gCu.symm.trans hg1)
  obtain rfl := Option.some.inj (tSq.symm.trans ht0)
  obtain rfl := Option.some.inj (tCu.symm.trans ht1)
  rw [sq_tab] at hd0
  rw [cu_tab] at hd1
  have e0 := Lib.cells_of_tab Tryd.underlying53 Tryd.underlying52 (by kernel_rfl) (by kernel_rfl) hd0
  have e1 := Lib.cells_of_tab Tryd.underlying60 Tryd.underlying52 (by kernel_rfl) (by kernel_rfl) hd1
  refine ⟨fun i hi => ?_, fun i hi => ?_⟩
  · have := World.var?_cell hg0 hv0 i
    rw [this, ← Array.getElem?_toList, e0]
    have hl : i < square.length := hi
    simp [List.getElem?_eq_getElem hl]
  · have := World.var?_cell hg1 hv1 i
    rw [this, ← Array.getElem?_toList, e1]
    have hl : i < cube.length := hi
    simp [List.getElem?_eq_getElem hl]
end Go.Proofs.YtlpchgoaoglhcaaDoor
