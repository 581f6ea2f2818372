/-
  FieldSays: any three numbers of 256 bits: each call tells what the document says.
  Conditions: none.
-/
import Derived.Test.YtgajheocobgecaaFdAw
import Derived.Test.YtgajheocobgecaaFdNum
import Derived.Test.YtgajheocobgecaaFdO
import Derived.Test.YtgajheocobgecaaFdRi
namespace Go.Proofs.Ytgajheocobgecaa
open Go.RowKit

open Go.ChangeShapes Go.WideShapes Go.ChangeAt
theorem fMul_doc (a b : Nat) (ha : a < 115792089237316195423570985008687907853269984665640564039457584007913129639936) (hb : b < 115792089237316195423570985008687907853269984665640564039457584007913129639936) : fMul a b = a % 57896044618658097711785492504343953926634992332820282019728792003956564819949 * (b % 57896044618658097711785492504343953926634992332820282019728792003956564819949) % 57896044618658097711785492504343953926634992332820282019728792003956564819949 := by rw [fMul_eq a b ha hb, Nat.mul_mod]
theorem fInv_doc (a : Nat) (ha : a < 115792089237316195423570985008687907853269984665640564039457584007913129639936) : fInv a = (a % 57896044618658097711785492504343953926634992332820282019728792003956564819949) ^ EI % 57896044618658097711785492504343953926634992332820282019728792003956564819949 := by
  rw [fInv_eq a ha, ← Nat.pow_mod]
theorem fAdd_doc (a b : Nat) : fAdd a b = (a % 57896044618658097711785492504343953926634992332820282019728792003956564819949 + b % 57896044618658097711785492504343953926634992332820282019728792003956564819949) % 57896044618658097711785492504343953926634992332820282019728792003956564819949 := rfl
theorem fSub_doc (a b : Nat) : fSub a b = (a % 57896044618658097711785492504343953926634992332820282019728792003956564819949 + 57896044618658097711785492504343953926634992332820282019728792003956564819949 - b % 57896044618658097711785492504343953926634992332820282019728792003956564819949) % 57896044618658097711785492504343953926634992332820282019728792003956564819949 := rfl
theorem rrt_lt (a : Nat) : (rrt a 2).1 < 57896044618658097711785492504343953926634992332820282019728792003956564819949 := by
  unfold rrt
  have h8 : r8 a < 57896044618658097711785492504343953926634992332820282019728792003956564819949 := Nat.mod_lt _ P_pos
  have hm : r8 a * (2 ^ G4 % 57896044618658097711785492504343953926634992332820282019728792003956564819949) % 57896044618658097711785492504343953926634992332820282019728792003956564819949 < 57896044618658097711785492504343953926634992332820282019728792003956564819949 := Nat.mod_lt _ P_pos
  generalize r8 a * (2 ^ G4 % 57896044618658097711785492504343953926634992332820282019728792003956564819949) % 57896044618658097711785492504343953926634992332820282019728792003956564819949 = m at hm
  have ev : ∀ r, r < 57896044618658097711785492504343953926634992332820282019728792003956564819949 → evn r < 57896044618658097711785492504343953926634992332820282019728792003956564819949 := fun r hr => by
    unfold evn; split
    · exact Nat.mod_lt _ P_pos
    · exact hr
  split
  · exact ev _ h8
  · split
    · exact ev _ hm
    · exact P_pos
theorem froot_gen (b i j : Nat) (hb : b < 115792089237316195423570985008687907853269984665640564039457584007913129639936) (hi : i < 115792089237316195423570985008687907853269984665640564039457584007913129639936) (hj : j < 115792089237316195423570985008687907853269984665640564039457584007913129639936) :
    ((if mu (pw b i) (pw b i) % 57896044618658097711785492504343953926634992332820282019728792003956564819949 = b then (pw b i % 57896044618658097711785492504343953926634992332820282019728792003956564819949, true) else if mu (mu (pw b i) (pw 2 j)) (mu (pw b i) (pw 2 j)) % 57896044618658097711785492504343953926634992332820282019728792003956564819949 = b then (mu (pw b i) (pw 2 j) % 57896044618658097711785492504343953926634992332820282019728792003956564819949, true) else (0, false)) : Nat × Bool) =
    (if b ^ i % 57896044618658097711785492504343953926634992332820282019728792003956564819949 * (b ^ i % 57896044618658097711785492504343953926634992332820282019728792003956564819949) % 57896044618658097711785492504343953926634992332820282019728792003956564819949 = b then (b ^ i % 57896044618658097711785492504343953926634992332820282019728792003956564819949, true) else if b ^ i % 57896044618658097711785492504343953926634992332820282019728792003956564819949 * (2 ^ j % 57896044618658097711785492504343953926634992332820282019728792003956564819949) % 57896044618658097711785492504343953926634992332820282019728792003956564819949 * (b ^ i % 57896044618658097711785492504343953926634992332820282019728792003956564819949 * (2 ^ j % 57896044618658097711785492504343953926634992332820282019728792003956564819949) % 57896044618658097711785492504343953926634992332820282019728792003956564819949) % 57896044618658097711785492504343953926634992332820282019728792003956564819949 = b then (b ^ i % 57896044618658097711785492504343953926634992332820282019728792003956564819949 * (2 ^ j % 57896044618658097711785492504343953926634992332820282019728792003956564819949) % 57896044618658097711785492504343953926634992332820282019728792003956564819949, true) else (0, false)) := by
  have e8 := pw_mod b i hb hi
  have e4 := pw_mod 2 j (by decide) hj
  have l8 := pw_lt b i
  have l4 := pw_lt 2 j
  generalize pw b i = u at e8 l8 ⊢
  generalize pw 2 j = v at e4 l4 ⊢
  generalize b ^ i % 57896044618658097711785492504343953926634992332820282019728792003956564819949 = r at e8 ⊢
  generalize 2 ^ j % 57896044618658097711785492504343953926634992332820282019728792003956564819949 = s at e4 ⊢
  have em : mu u v % 57896044618658097711785492504343953926634992332820282019728792003956564819949 = r * s % 57896044618658097711785492504343953926634992332820282019728792003956564819949 := by rw [mu_mod u v l8 l4, Nat.mul_mod, e8, e4]
  have lm := mu_lt u v
  have c1 : mu u u % 57896044618658097711785492504343953926634992332820282019728792003956564819949 = r * r % 57896044618658097711785492504343953926634992332820282019728792003956564819949 := by rw [mu_mod u u l8 l8, Nat.mul_mod, e8]
  generalize mu u v = m at em lm ⊢
  have c2 : mu m m % 57896044618658097711785492504343953926634992332820282019728792003956564819949 = r * s % 57896044618658097711785492504343953926634992332820282019728792003956564819949 * (r * s % 57896044618658097711785492504343953926634992332820282019728792003956564819949) % 57896044618658097711785492504343953926634992332820282019728792003956564819949 := by rw [mu_mod m m lm lm, Nat.mul_mod, em]
  rw [c1, c2, e8, em]
theorem fRoot_doc (a : Nat) : fRoot a = rrt (a % 57896044618658097711785492504343953926634992332820282019728792003956564819949) 2 := by
  have hb : a % 57896044618658097711785492504343953926634992332820282019728792003956564819949 < 115792089237316195423570985008687907853269984665640564039457584007913129639936 := lt4 (Nat.mod_lt _ P_pos)
  unfold fRoot
  obtain ⟨b, hbb⟩ : ∃ b, a % 57896044618658097711785492504343953926634992332820282019728792003956564819949 = b := ⟨_, rfl⟩
  rw [hbb] at hb ⊢
  have h := froot_gen b G8 G4 hb (by decide) (by decide)
  have hrt : rt b = (if mu (pw b G8) (pw b G8) % 57896044618658097711785492504343953926634992332820282019728792003956564819949 = b then (pw b G8 % 57896044618658097711785492504343953926634992332820282019728792003956564819949, true) else if mu (mu (pw b G8) (pw 2 G4)) (mu (pw b G8) (pw 2 G4)) % 57896044618658097711785492504343953926634992332820282019728792003956564819949 = b then (mu (pw b G8) (pw 2 G4) % 57896044618658097711785492504343953926634992332820282019728792003956564819949, true) else (0, false)) := rfl
  rw [hrt, h]
  unfold rrt r8
  generalize G8 = i
  generalize G4 = j
  generalize b ^ i % 57896044618658097711785492504343953926634992332820282019728792003956564819949 = r
  generalize 2 ^ j % 57896044618658097711785492504343953926634992332820282019728792003956564819949 = s
  generalize r * s % 57896044618658097711785492504343953926634992332820282019728792003956564819949 = x
  unfold evn
  by_cases h1 : r * r % 57896044618658097711785492504343953926634992332820282019728792003956564819949 = b
  · simp only [if_pos h1, if_true]
  · simp only [if_neg h1]
    by_cases h2 : x * x % 57896044618658097711785492504343953926634992332820282019728792003956564819949 = b
    · simp only [if_pos h2, if_true]
    · simp only [if_neg h2, Bool.false_eq_true, if_false]
set_option maxRecDepth 100000 in
set_option maxHeartbeats 1000000 in
theorem fieldSays_nat (a b : List UInt8) (n : Nat) (w : World) (hla : a.length = 32) (hlb : b.length = 32) (hu : n < 18446744073709551616) :
    Calls Try.prog 3 #[.agg (byteVals a).toArray, .agg (byteVals b).toArray, .int .u64 n] w fun e w' => e = .returned (.bool true) ∧ Below w.heap.size w w' := by
  have HLA0 := Lib.hid hla
  have HLA1 := Lib.hid hlb
  have HU := Lib.hid hu
  have hz := zN
  have hzB := zB
  have hrd := fRoot_doc (le a)
  obtain ⟨bg, hbg⟩ : ∃ x, decide (le a < 57896044618658097711785492504343953926634992332820282019728792003956564819949) = x := ⟨_, rfl⟩
  obtain ⟨bo, hbo⟩ : ∃ x, decide (le a % 57896044618658097711785492504343953926634992332820282019728792003956564819949 % 2 = 1) = x := ⟨_, rfl⟩
  obtain ⟨br, hbr⟩ : ∃ x, (fRoot (le a)).2 = x := ⟨_, rfl⟩
  have HBG := Lib.hid hbg
  have HBO := Lib.hid hbo
  have HBR := Lib.hid hbr
  have HBR2 := Lib.hid (show (rrt (le a % 57896044618658097711785492504343953926634992332820282019728792003956564819949) 2).2 = br by rw [← hrd]; exact hbr)
  have HRT1 := Lib.hid (show (fRoot (le a)).1 = (rrt (le a % 57896044618658097711785492504343953926634992332820282019728792003956564819949) 2).1 by rw [hrd])
  clear hla hlb hu hbg hbo hbr hrd
  obtain ⟨rH1, hrH1⟩ : ∃ r, b32 (fRoot (le a)).1 = r := ⟨_, rfl⟩
  have HQH1 := Lib.hid (fun w => Root_any a w HLA0.out)
  rw [hrH1, show (fRoot (le a)).2 = br from HBR.out] at HQH1
  have HLH1 := Lib.hid (show rH1.length = 32 by rw [← hrH1]; exact b32_len _)
  have HVH1 := Lib.hid (show le rH1 = (fRoot (le a)).1 by rw [← hrH1]; exact le_b32 _ (lt4 (fRoot_lt _)))
  clear hrH1
  obtain ⟨rH2, hrH2⟩ : ∃ r, b32 (rrt (le a % 57896044618658097711785492504343953926634992332820282019728792003956564819949) 2).1 = r := ⟨_, rfl⟩
  have HQH2 := Lib.hid (fun w => Root_doc a w HLA0.out)
  rw [hrH2, show (rrt (le a % 57896044618658097711785492504343953926634992332820282019728792003956564819949) 2).2 = br from HBR2.out] at HQH2
  have HLH2 := Lib.hid (show rH2.length = 32 by rw [← hrH2]; exact b32_len _)
  have HVH2 := Lib.hid (show le rH2 = (rrt (le a % 57896044618658097711785492504343953926634992332820282019728792003956564819949) 2).1 by rw [← hrH2]; exact le_b32 _ (lt4 (rrt_lt _)))
  clear hrH2
  obtain ⟨rH3, hrH3⟩ : ∃ r, b32 n = r := ⟨_, rfl⟩
  have HQH3 := Lib.hid (fun w => Of_any n w HU.out)
  rw [hrH3] at HQH3
  have HLH3 := Lib.hid (show rH3.length = 32 by rw [← hrH3]; exact b32_len _)
  have HVH3 := Lib.hid (show le rH3 = n by rw [← hrH3]; exact le_b32 _ (by have := HU.out; omega))
  clear hrH3
  obtain ⟨rH4, hrH4⟩ : ∃ r, b32 n = r := ⟨_, rfl⟩
  have HQH4 := Lib.hid (fun w => Of_doc n w HU.out)
  rw [hrH4] at HQH4
  have HLH4 := Lib.hid (show rH4.length = 32 by rw [← hrH4]; exact b32_len _)
  have HVH4 := Lib.hid (show le rH4 = n by rw [← hrH4]; exact le_b32 _ (by have := HU.out; omega))
  clear hrH4
  have HQH5 := Lib.hid (fun w => Good_any a w HLA0.out)
  rw [show decide (le a < 57896044618658097711785492504343953926634992332820282019728792003956564819949) = bg from HBG.out] at HQH5
  have HQH6 := Lib.hid (fun w => Good_doc a w HLA0.out)
  rw [show decide (le a < 57896044618658097711785492504343953926634992332820282019728792003956564819949) = bg from HBG.out] at HQH6
  obtain ⟨rH7, hrH7⟩ : ∃ r, b32 (le a % 57896044618658097711785492504343953926634992332820282019728792003956564819949) = r := ⟨_, rfl⟩
  have HQH7 := Lib.hid (fun w => Rest_any a w HLA0.out)
  rw [hrH7] at HQH7
  have HLH7 := Lib.hid (show rH7.length = 32 by rw [← hrH7]; exact b32_len _)
  have HVH7 := Lib.hid (show le rH7 = le a % 57896044618658097711785492504343953926634992332820282019728792003956564819949 by rw [← hrH7]; exact le_b32 _ (lt4 (Nat.mod_lt _ P_pos)))
  clear hrH7
  obtain ⟨rH8, hrH8⟩ : ∃ r, b32 (le a % 57896044618658097711785492504343953926634992332820282019728792003956564819949) = r := ⟨_, rfl⟩
  have HQH8 := Lib.hid (fun w => Rest_doc a w HLA0.out)
  rw [hrH8] at HQH8
  have HLH8 := Lib.hid (show rH8.length = 32 by rw [← hrH8]; exact b32_len _)
  have HVH8 := Lib.hid (show le rH8 = (le a % 57896044618658097711785492504343953926634992332820282019728792003956564819949) by rw [← hrH8]; exact le_b32 _ (lt4 (Nat.mod_lt _ P_pos)))
  clear hrH8
  obtain ⟨rH9, hrH9⟩ : ∃ r, b32 (fAdd (le a) (le b)) = r := ⟨_, rfl⟩
  have HQH9 := Lib.hid (fun w => Add_any a b w HLA0.out HLA1.out)
  rw [hrH9] at HQH9
  have HLH9 := Lib.hid (show rH9.length = 32 by rw [← hrH9]; exact b32_len _)
  have HVH9 := Lib.hid (show le rH9 = fAdd (le a) (le b) by rw [← hrH9]; exact le_b32 _ (lt4 (fAdd_lt _ _ )))
  clear hrH9
  obtain ⟨rH10, hrH10⟩ : ∃ r, b32 (((le a % 57896044618658097711785492504343953926634992332820282019728792003956564819949) + (le b % 57896044618658097711785492504343953926634992332820282019728792003956564819949)) % 57896044618658097711785492504343953926634992332820282019728792003956564819949) = r := ⟨_, rfl⟩
  have HQH10 := Lib.hid (fun w => Add_doc a b w HLA0.out HLA1.out)
  rw [hrH10] at HQH10
  have HLH10 := Lib.hid (show rH10.length = 32 by rw [← hrH10]; exact b32_len _)
  have HVH10 := Lib.hid (show le rH10 = (((le a % 57896044618658097711785492504343953926634992332820282019728792003956564819949) + (le b % 57896044618658097711785492504343953926634992332820282019728792003956564819949)) % 57896044618658097711785492504343953926634992332820282019728792003956564819949) by rw [← hrH10]; exact le_b32 _ (lt4 (Nat.mod_lt _ P_pos)))
  clear hrH10
  obtain ⟨rH11, hrH11⟩ : ∃ r, b32 (fSub (le a) (le b)) = r := ⟨_, rfl⟩
  have HQH11 := Lib.hid (fun w => Sub_any a b w HLA0.out HLA1.out)
  rw [hrH11] at HQH11
  have HLH11 := Lib.hid (show rH11.length = 32 by rw [← hrH11]; exact b32_len _)
  have HVH11 := Lib.hid (show le rH11 = fSub (le a) (le b) by rw [← hrH11]; exact le_b32 _ (lt4 (fSub_lt _ _ )))
  clear hrH11
  obtain ⟨rH12, hrH12⟩ : ∃ r, b32 (((le a % 57896044618658097711785492504343953926634992332820282019728792003956564819949) + 57896044618658097711785492504343953926634992332820282019728792003956564819949 - (le b % 57896044618658097711785492504343953926634992332820282019728792003956564819949)) % 57896044618658097711785492504343953926634992332820282019728792003956564819949) = r := ⟨_, rfl⟩
  have HQH12 := Lib.hid (fun w => Sub_doc a b w HLA0.out HLA1.out)
  rw [hrH12] at HQH12
  have HLH12 := Lib.hid (show rH12.length = 32 by rw [← hrH12]; exact b32_len _)
  have HVH12 := Lib.hid (show le rH12 = (((le a % 57896044618658097711785492504343953926634992332820282019728792003956564819949) + 57896044618658097711785492504343953926634992332820282019728792003956564819949 - (le b % 57896044618658097711785492504343953926634992332820282019728792003956564819949)) % 57896044618658097711785492504343953926634992332820282019728792003956564819949) by rw [← hrH12]; exact le_b32 _ (lt4 (Nat.mod_lt _ P_pos)))
  clear hrH12
  obtain ⟨rH13, hrH13⟩ : ∃ r, b32 (fMul (le a) (le b)) = r := ⟨_, rfl⟩
  have HQH13 := Lib.hid (fun w => Mul_any a b w HLA0.out HLA1.out)
  rw [hrH13] at HQH13
  have HLH13 := Lib.hid (show rH13.length = 32 by rw [← hrH13]; exact b32_len _)
  have HVH13 := Lib.hid (show le rH13 = fMul (le a) (le b) by rw [← hrH13]; exact le_b32 _ (lt4 (fMul_lt _ _ )))
  clear hrH13
  obtain ⟨rH14, hrH14⟩ : ∃ r, b32 ((le a % 57896044618658097711785492504343953926634992332820282019728792003956564819949) * (le b % 57896044618658097711785492504343953926634992332820282019728792003956564819949) % 57896044618658097711785492504343953926634992332820282019728792003956564819949) = r := ⟨_, rfl⟩
  have HQH14 := Lib.hid (fun w => Mul_doc a b w HLA0.out HLA1.out)
  rw [hrH14] at HQH14
  have HLH14 := Lib.hid (show rH14.length = 32 by rw [← hrH14]; exact b32_len _)
  have HVH14 := Lib.hid (show le rH14 = ((le a % 57896044618658097711785492504343953926634992332820282019728792003956564819949) * (le b % 57896044618658097711785492504343953926634992332820282019728792003956564819949) % 57896044618658097711785492504343953926634992332820282019728792003956564819949) by rw [← hrH14]; exact le_b32 _ (lt4 (Nat.mod_lt _ P_pos)))
  clear hrH14
  obtain ⟨rH15, hrH15⟩ : ∃ r, b32 (fInv (le a)) = r := ⟨_, rfl⟩
  have HQH15 := Lib.hid (fun w => Inv_any a w HLA0.out)
  rw [hrH15] at HQH15
  have HLH15 := Lib.hid (show rH15.length = 32 by rw [← hrH15]; exact b32_len _)
  have HVH15 := Lib.hid (show le rH15 = fInv (le a) by rw [← hrH15]; exact le_b32 _ (lt4 (fInv_lt _ )))
  clear hrH15
  obtain ⟨rH16, hrH16⟩ : ∃ r, b32 ((le a % 57896044618658097711785492504343953926634992332820282019728792003956564819949) ^ EI % 57896044618658097711785492504343953926634992332820282019728792003956564819949) = r := ⟨_, rfl⟩
  have HQH16 := Lib.hid (fun w => Inv_doc a EI w HLA0.out rfl)
  rw [hrH16] at HQH16
  have HLH16 := Lib.hid (show rH16.length = 32 by rw [← hrH16]; exact b32_len _)
  have HVH16 := Lib.hid (show le rH16 = ((le a % 57896044618658097711785492504343953926634992332820282019728792003956564819949) ^ EI % 57896044618658097711785492504343953926634992332820282019728792003956564819949) by rw [← hrH16]; exact le_b32 _ (lt4 (Nat.mod_lt _ P_pos)))
  clear hrH16
  have HQH17 := Lib.hid (fun w => Odd_any a w HLA0.out)
  rw [show decide (le a % 57896044618658097711785492504343953926634992332820282019728792003956564819949 % 2 = 1) = bo from HBO.out] at HQH17
  have HQH18 := Lib.hid (fun w => Odd_doc a w HLA0.out)
  rw [show decide (le a % 57896044618658097711785492504343953926634992332820282019728792003956564819949 % 2 = 1) = bo from HBO.out] at HQH18
  go_enter Try.func3, Try.ntmps3
  go_upto_region 1 with fail
  generalize hW1 : World.alloc _ _ = W1
  obtain ⟨N, hN⟩ : ∃ n, w.heap.size = n := ⟨_, rfl⟩
  have HX0 := Lib.hid (show BT W1 N 22 a by subst hW1; rw [← hN]; exact (alloc2_at w _ _).1)
  have HX1 := Lib.hid (show BT W1 (N + 1) 22 b by subst hW1; rw [← hN]; exact (alloc2_at w _ _).2)
  have HB := Lib.hid (show Below N w W1 by subst hW1; rw [← hN]; exact ((Below.refl _ w).alloc (Nat.le_refl _) _).alloc (by simp) _)
  have HN := Lib.hid hN
  rw [hN]
  clear hW1 hN
  go_wp2_with fail
  refine (awake_any _).mono ?_
  rintro e wa ⟨rfl, hba⟩
  have HX0' := Lib.hid (HX0.out.ext hba)
  have HX1' := Lib.hid (HX1.out.ext hba)
  have HB' := Lib.hid (HB.out.trans (hba.mono (show N ≤ _ by have := HX0.out.lt; omega)))
  clear hba HB HX0 HX1
  have HB := HB'
  have HX0 := HX0'
  have HX1 := HX1'
  clear HB' HX0' HX1'
  go_wp2_with fail
  refine wp_region_whole [0, 1] [⟨2, _, 25, (byteVals (zerB 32)).toArray, 7, 4, _, 25, 15, (byteVals a).toArray⟩, ⟨3, _, 25, (byteVals (zerB 32)).toArray, 8, 5, _, 25, 16, (byteVals b).toArray⟩] [5, 4, 3, 2] (by kernel_rfl) (by kernel_rfl) (List.forall_mem_cons.2 ⟨⟨⟨rfl, rfl, rfl, fun a w => run_allocN a _ rfl w⟩, rfl, rfl, rfl, rfl, sN a HLA0.out, oN (zerB 32) a (zerB_len 32) HLA0.out, byteVals_one _⟩, (List.forall_mem_cons.2 ⟨⟨⟨rfl, rfl, rfl, fun a w => run_allocN a _ rfl w⟩, rfl, rfl, rfl, rfl, sN b HLA1.out, oN (zerB 32) b (zerB_len 32) HLA1.out, byteVals_one _⟩, (List.forall_mem_nil _)⟩)⟩) rfl ?_
  simp only [List.foldl, List.eraseIdx_cons_succ, List.eraseIdx_cons_zero]
  refine upW_val (by rfl) (by rfl) (by rfl) (fun K hK => quiet_load_row _ _ rfl N rfl 22 _ (0, 0) _ HX0.out Try.underlying22 rfl (sB a HLA0.out) (hK _ ?_))
  simp only [Act.put, List.setIfInBounds_toArray, List.set]
  refine upW_val (by rfl) (by rfl) (by rfl) (fun K hK => quiet_load_row _ _ rfl (N + 1) rfl 22 _ (0, 0) _ HX1.out Try.underlying22 rfl (sB b HLA1.out) (hK _ ?_))
  simp only [Act.put, List.setIfInBounds_toArray, List.set]
  refine upW_nil ⟨(List.forall_mem_cons.2 ⟨rfl, (List.forall_mem_cons.2 ⟨rfl, (List.forall_mem_nil _)⟩)⟩), fun M w3 hM hne hbs => ?_⟩
  have hm0 := hM _ (List.mem_cons_self ..)
  have hm1 := hM _ (List.mem_cons_of_mem _ (List.mem_cons_self ..))
  have hn01 : M 2 ≠ M 3 := hne _ (List.mem_cons_self ..) _ (List.mem_cons_of_mem _ (List.mem_cons_self ..)) (show (2 : Nat) ≠ 3 by decide)
  clear hM hne
  simp only [List.foldr, pS, Act.put, List.setIfInBounds_toArray, List.set]
  obtain ⟨M0, hM0⟩ : ∃ m, M 2 = m := ⟨_, rfl⟩
  have HM0 := Lib.hid (show BT w3 M0 25 a by rw [← hM0]; exact hm0.2)
  obtain ⟨M1, hM1⟩ : ∃ m, M 3 = m := ⟨_, rfl⟩
  have HM1 := Lib.hid (show BT w3 M1 25 b by rw [← hM1]; exact hm1.2)
  rw [hM0, hM1] at hn01
  rw [hM0, hM1]
  clear hm0 hM0 hm1 hM1
  have HX0' := Lib.hid (HX0.out.ext hbs)
  have HX1' := Lib.hid (HX1.out.ext hbs)
  have HB' := Lib.hid (HB.out.trans (hbs.mono (show N ≤ _ by have := HB.out.size; have := HN.out; omega)))
  clear hbs HB HX0 HX1
  have HB := HB'
  have HX0 := HX0'
  have HX1 := HX1'
  clear HB' HX0' HX1'
  go_upto_region 4 with fail
  refine wp_region_seq 5 ?_
  simp only [List.take_succ_cons, List.take_zero, List.drop_succ_cons, List.drop_zero]
  refine upW_val (by rfl) (by rfl) (by rfl) (fun K hK => quiet_load_row _ _ rfl M0 rfl 25 _ (0, 0) _ HM0.out Try.underlying25 rfl (sN a HLA0.out) (hK _ ?_))
  simp only [Act.put, List.setIfInBounds_toArray, List.set]
  refine upW_call (by rfl) (by rfl) (.tuple #[.agg (byteVals rH1).toArray, .bool br]) _ rfl (by simp) (fun p => ?_) ?_
  · go_big_quiet_op
    exact ⟨_, fun q => Calls.ext_of (HQH1.out q.x), rfl⟩
  simp only [Act.put, List.setIfInBounds_toArray, List.set]
  refine upW_val (by rfl) (by rfl) (by rfl) ?_
  intro K hK
  go_big_quiet_op
  refine hK _ ?_
  refine upW_late (by rfl) (.agg (byteVals rH1).toArray) (fun _ => rfl) ?_
  simp only [Act.put, List.setIfInBounds_toArray, List.set]
  refine upW_late (by rfl) (.bool br) (fun _ => rfl) ?_
  simp only [Act.put, List.setIfInBounds_toArray, List.set]
  refine upW_nil (fun ws4 hbs4 => ?_)
  go_wp2_with (refine wpList_store_row rfl 25 _ _ rfl ws4.heap.size ((byteVals rH1).toArray) rfl rfl 25 _ (Go.heap_alloc_new _ _) (sN rH1 HLH1.out) ?hold (byteVals_one _) (Stop.out ?_))
  case hold => rw [size_byteVals, size_byteVals, zerB_len, HLH1.out]
  generalize hWS : World.setRow _ _ _ = W4
  obtain ⟨M4, hM⟩ : ∃ n, ws4.heap.size = n := ⟨_, rfl⟩
  have HM4 := Lib.hid (show BT W4 M4 25 rH1 by subst hWS; rw [← hM]; exact setRow_heap _ _ _ _ _ _ (Go.heap_alloc_new _ _))
  have HX0' := Lib.hid (show BT W4 N 22 a by subst hWS; exact (HX0.out.ext hbs4).other ((setRow_other _ _ _ _ (Nat.ne_of_lt (HX0.out.ext hbs4).lt)).trans (Go.heap_alloc_old _ _ (HX0.out.ext hbs4).lt)))
  have HX1' := Lib.hid (show BT W4 (N + 1) 22 b by subst hWS; exact (HX1.out.ext hbs4).other ((setRow_other _ _ _ _ (Nat.ne_of_lt (HX1.out.ext hbs4).lt)).trans (Go.heap_alloc_old _ _ (HX1.out.ext hbs4).lt)))
  have HM0' := Lib.hid (show BT W4 M0 25 a by subst hWS; exact (HM0.out.ext hbs4).other ((setRow_other _ _ _ _ (Nat.ne_of_lt (HM0.out.ext hbs4).lt)).trans (Go.heap_alloc_old _ _ (HM0.out.ext hbs4).lt)))
  have HM1' := Lib.hid (show BT W4 M1 25 b by subst hWS; exact (HM1.out.ext hbs4).other ((setRow_other _ _ _ _ (Nat.ne_of_lt (HM1.out.ext hbs4).lt)).trans (Go.heap_alloc_old _ _ (HM1.out.ext hbs4).lt)))
  have HB' := Lib.hid (show Below N w W4 by subst hWS; exact Below.setRow ((HB.out.trans (hbs4.mono (show N ≤ _ by have := HB.out.size; have := HN.out; omega))).alloc (by have := hbs4.size; have := HB.out.size; have := HN.out; omega) _) (by have := hbs4.size; have := HB.out.size; have := HN.out; omega) _)
  rw [hM]
  clear hWS hM hbs4 HB HX0 HX1 HM0 HM1
  have HB := HB'
  have HX0 := HX0'
  have HX1 := HX1'
  have HM0 := HM0'
  have HM1 := HM1'
  clear HB' HX0' HX1' HM0' HM1'
  refine ⟨?_⟩
  go_upto_region 5 with fail
  refine wp_region_seq 5 ?_
  simp only [List.take_succ_cons, List.take_zero, List.drop_succ_cons, List.drop_zero]
  refine upW_val (by rfl) (by rfl) (by rfl) (fun K hK => quiet_load_row _ _ rfl N rfl 22 _ (0, 0) _ HX0.out Try.underlying22 rfl (sB a HLA0.out) (hK _ ?_))
  simp only [Act.put, List.setIfInBounds_toArray, List.set]
  refine upW_call (by rfl) (by rfl) (.tuple #[.agg (byteVals rH2).toArray, .bool br]) _ rfl (by simp) (fun p => ?_) ?_
  · go_big_quiet_op
    exact ⟨_, fun q => Calls.ext_of (HQH2.out q.x), rfl⟩
  simp only [Act.put, List.setIfInBounds_toArray, List.set]
  refine upW_val (by rfl) (by rfl) (by rfl) ?_
  intro K hK
  go_big_quiet_op
  refine hK _ ?_
  refine upW_late (by rfl) (.agg (byteVals rH2).toArray) (fun _ => rfl) ?_
  simp only [Act.put, List.setIfInBounds_toArray, List.set]
  refine upW_late (by rfl) (.bool br) (fun _ => rfl) ?_
  simp only [Act.put, List.setIfInBounds_toArray, List.set]
  refine upW_nil (fun ws5 hbs5 => ?_)
  go_wp2_with (refine wpList_store_row rfl 22 _ _ rfl ws5.heap.size ((byteVals rH2).toArray) rfl rfl 22 _ (Go.heap_alloc_new _ _) (sB rH2 HLH2.out) ?hold (byteVals_one _) (Stop.out ?_))
  case hold => rw [size_byteVals, size_byteVals, zerB_len, HLH2.out]
  generalize hWS : World.setRow _ _ _ = W5
  obtain ⟨M5, hM⟩ : ∃ n, ws5.heap.size = n := ⟨_, rfl⟩
  have HM5 := Lib.hid (show BT W5 M5 22 rH2 by subst hWS; rw [← hM]; exact setRow_heap _ _ _ _ _ _ (Go.heap_alloc_new _ _))
  have HX0' := Lib.hid (show BT W5 N 22 a by subst hWS; exact (HX0.out.ext hbs5).other ((setRow_other _ _ _ _ (Nat.ne_of_lt (HX0.out.ext hbs5).lt)).trans (Go.heap_alloc_old _ _ (HX0.out.ext hbs5).lt)))
  have HX1' := Lib.hid (show BT W5 (N + 1) 22 b by subst hWS; exact (HX1.out.ext hbs5).other ((setRow_other _ _ _ _ (Nat.ne_of_lt (HX1.out.ext hbs5).lt)).trans (Go.heap_alloc_old _ _ (HX1.out.ext hbs5).lt)))
  have HM0' := Lib.hid (show BT W5 M0 25 a by subst hWS; exact (HM0.out.ext hbs5).other ((setRow_other _ _ _ _ (Nat.ne_of_lt (HM0.out.ext hbs5).lt)).trans (Go.heap_alloc_old _ _ (HM0.out.ext hbs5).lt)))
  have HM1' := Lib.hid (show BT W5 M1 25 b by subst hWS; exact (HM1.out.ext hbs5).other ((setRow_other _ _ _ _ (Nat.ne_of_lt (HM1.out.ext hbs5).lt)).trans (Go.heap_alloc_old _ _ (HM1.out.ext hbs5).lt)))
  have HM4' := Lib.hid (show BT W5 M4 25 rH1 by subst hWS; exact (HM4.out.ext hbs5).other ((setRow_other _ _ _ _ (Nat.ne_of_lt (HM4.out.ext hbs5).lt)).trans (Go.heap_alloc_old _ _ (HM4.out.ext hbs5).lt)))
  have HB' := Lib.hid (show Below N w W5 by subst hWS; exact Below.setRow ((HB.out.trans (hbs5.mono (show N ≤ _ by have := HB.out.size; have := HN.out; omega))).alloc (by have := hbs5.size; have := HB.out.size; have := HN.out; omega) _) (by have := hbs5.size; have := HB.out.size; have := HN.out; omega) _)
  rw [hM]
  clear hWS hM hbs5 HB HX0 HX1 HM0 HM1 HM4
  have HB := HB'
  have HX0 := HX0'
  have HX1 := HX1'
  have HM0 := HM0'
  have HM1 := HM1'
  have HM4 := HM4'
  clear HB' HX0' HX1' HM0' HM1' HM4'
  refine ⟨?_⟩
  go_upto_region 6 with fail
  refine wp_region_up 70 70 (by kernel_rfl) (by kernel_rfl) (fun _ _ dst _ _ h => by cases dst <;> exact h) ?_
  simp only [List.append, List.take_succ_cons, List.take_zero, List.drop_succ_cons, List.drop_zero]
  refine upW_val (by rfl) (by rfl) (by rfl) ?_
  intro K hK
  go_big_quiet_op
  refine hK _ ?_
  refine upW_call (by rfl) (by rfl) (.agg (byteVals rH3).toArray) _ rfl (by simp) (fun p => ?_) ?_
  · go_big_quiet_op
    exact ⟨_, fun q => Calls.ext_of (HQH3.out q.x), rfl⟩
  simp only [Act.put, List.setIfInBounds_toArray, List.set]
  refine upW_val (by rfl) (by rfl) (by rfl) ?_
  intro K hK
  go_big_quiet_op
  refine hK _ ?_
  refine upW_call (by rfl) (by rfl) (.agg (byteVals rH4).toArray) _ rfl (by simp) (fun p => ?_) ?_
  · go_big_quiet_op
    exact ⟨_, fun q => Calls.ext_of (HQH4.out q.x), rfl⟩
  simp only [Act.put, List.setIfInBounds_toArray, List.set]
  refine upW_late (by rfl) (.bool true) (fun w => run_eqB _ _ _ _ 22 rfl Try.underlying22 rH3 rH4 rfl rfl HLH3.out HLH4.out (by kernel_rfl) true (decide_eq_true (eq_le HLH3.out HLH4.out (by rw [HVH3.out, HVH4.out]))) w) ?_
  simp only [Act.put, List.setIfInBounds_toArray, List.set]
  refine upW_val (by rfl) (by rfl) (by rfl) ?_
  intro K hK
  go_big_quiet_op
  refine hK _ ?_
  refine upW_val (by rfl) (by rfl) (by rfl) (fun K hK => quiet_load_row _ _ rfl M0 rfl 25 _ (0, 0) _ HM0.out Try.underlying25 rfl (sN a HLA0.out) (hK _ ?_))
  simp only [Act.put, List.setIfInBounds_toArray, List.set]
  refine upW_call (by rfl) (by rfl) (.bool bg) _ rfl (by simp) (fun p => ?_) ?_
  · go_big_quiet_op
    exact ⟨_, fun q => Calls.ext_of (HQH5.out q.x), rfl⟩
  simp only [Act.put, List.setIfInBounds_toArray, List.set]
  refine upW_val (by rfl) (by rfl) (by rfl) (fun K hK => quiet_load_row _ _ rfl N rfl 22 _ (0, 0) _ HX0.out Try.underlying22 rfl (sB a HLA0.out) (hK _ ?_))
  simp only [Act.put, List.setIfInBounds_toArray, List.set]
  refine upW_call (by rfl) (by rfl) (.bool bg) _ rfl (by simp) (fun p => ?_) ?_
  · go_big_quiet_op
    exact ⟨_, fun q => Calls.ext_of (HQH6.out q.x), rfl⟩
  simp only [Act.put, List.setIfInBounds_toArray, List.set]
  refine upW_val (by rfl) (by rfl) (by rfl) ?_
  intro K hK
  go_big_quiet_op
  refine hK _ ?_
  refine upW_val (by rfl) (by rfl) (by rfl) ?_
  intro K hK
  go_big_quiet_op
  refine hK _ ?_
  refine upW_val (by rfl) (by rfl) (by rfl) ?_
  intro K hK
  go_big_quiet_op
  refine hK _ ?_
  refine upW_val (by rfl) (by rfl) (by rfl) (fun K hK => quiet_load_row _ _ rfl M0 rfl 25 _ (0, 0) _ HM0.out Try.underlying25 rfl (sN a HLA0.out) (hK _ ?_))
  simp only [Act.put, List.setIfInBounds_toArray, List.set]
  refine upW_call (by rfl) (by rfl) (.agg (byteVals rH7).toArray) _ rfl (by simp) (fun p => ?_) ?_
  · go_big_quiet_op
    exact ⟨_, fun q => Calls.ext_of (HQH7.out q.x), rfl⟩
  simp only [Act.put, List.setIfInBounds_toArray, List.set]
  refine upW_val (by rfl) (by rfl) (by rfl) (fun K hK => quiet_load_row _ _ rfl N rfl 22 _ (0, 0) _ HX0.out Try.underlying22 rfl (sB a HLA0.out) (hK _ ?_))
  simp only [Act.put, List.setIfInBounds_toArray, List.set]
  refine upW_call (by rfl) (by rfl) (.agg (byteVals rH8).toArray) _ rfl (by simp) (fun p => ?_) ?_
  · go_big_quiet_op
    exact ⟨_, fun q => Calls.ext_of (HQH8.out q.x), rfl⟩
  simp only [Act.put, List.setIfInBounds_toArray, List.set]
  refine upW_late (by rfl) (.bool true) (fun w => run_eqB _ _ _ _ 22 rfl Try.underlying22 rH7 rH8 rfl rfl HLH7.out HLH8.out (by kernel_rfl) true (decide_eq_true (eq_le HLH7.out HLH8.out (by rw [HVH7.out, HVH8.out]))) w) ?_
  simp only [Act.put, List.setIfInBounds_toArray, List.set]
  refine upW_val (by rfl) (by rfl) (by rfl) ?_
  intro K hK
  go_big_quiet_op
  refine hK _ ?_
  refine upW_val (by rfl) (by rfl) (by rfl) ?_
  intro K hK
  go_big_quiet_op
  refine hK _ ?_
  refine upW_val (by rfl) (by rfl) (by rfl) (fun K hK => quiet_load_row _ _ rfl M0 rfl 25 _ (0, 0) _ HM0.out Try.underlying25 rfl (sN a HLA0.out) (hK _ ?_))
  simp only [Act.put, List.setIfInBounds_toArray, List.set]
  refine upW_val (by rfl) (by rfl) (by rfl) (fun K hK => quiet_load_row _ _ rfl M1 rfl 25 _ (0, 0) _ HM1.out Try.underlying25 rfl (sN b HLA1.out) (hK _ ?_))
  simp only [Act.put, List.setIfInBounds_toArray, List.set]
  refine upW_call (by rfl) (by rfl) (.agg (byteVals rH9).toArray) _ rfl (by simp) (fun p => ?_) ?_
  · go_big_quiet_op
    exact ⟨_, fun q => Calls.ext_of (HQH9.out q.x), rfl⟩
  simp only [Act.put, List.setIfInBounds_toArray, List.set]
  refine upW_val (by rfl) (by rfl) (by rfl) (fun K hK => quiet_load_row _ _ rfl N rfl 22 _ (0, 0) _ HX0.out Try.underlying22 rfl (sB a HLA0.out) (hK _ ?_))
  simp only [Act.put, List.setIfInBounds_toArray, List.set]
  refine upW_val (by rfl) (by rfl) (by rfl) (fun K hK => quiet_load_row _ _ rfl (N + 1) rfl 22 _ (0, 0) _ HX1.out Try.underlying22 rfl (sB b HLA1.out) (hK _ ?_))
  simp only [Act.put, List.setIfInBounds_toArray, List.set]
  refine upW_call (by rfl) (by rfl) (.agg (byteVals rH10).toArray) _ rfl (by simp) (fun p => ?_) ?_
  · go_big_quiet_op
    exact ⟨_, fun q => Calls.ext_of (HQH10.out q.x), rfl⟩
  simp only [Act.put, List.setIfInBounds_toArray, List.set]
  refine upW_late (by rfl) (.bool true) (fun w => run_eqB _ _ _ _ 22 rfl Try.underlying22 rH9 rH10 rfl rfl HLH9.out HLH10.out (by kernel_rfl) true (decide_eq_true (eq_le HLH9.out HLH10.out (by simp only [HVH9.out, HVH10.out]; exact (fAdd_doc _ _)))) w) ?_
  simp only [Act.put, List.setIfInBounds_toArray, List.set]
  refine upW_val (by rfl) (by rfl) (by rfl) ?_
  intro K hK
  go_big_quiet_op
  refine hK _ ?_
  refine upW_val (by rfl) (by rfl) (by rfl) ?_
  intro K hK
  go_big_quiet_op
  refine hK _ ?_
  refine upW_val (by rfl) (by rfl) (by rfl) (fun K hK => quiet_load_row _ _ rfl M0 rfl 25 _ (0, 0) _ HM0.out Try.underlying25 rfl (sN a HLA0.out) (hK _ ?_))
  simp only [Act.put, List.setIfInBounds_toArray, List.set]
  refine upW_val (by rfl) (by rfl) (by rfl) (fun K hK => quiet_load_row _ _ rfl M1 rfl 25 _ (0, 0) _ HM1.out Try.underlying25 rfl (sN b HLA1.out) (hK _ ?_))
  simp only [Act.put, List.setIfInBounds_toArray, List.set]
  refine upW_call (by rfl) (by rfl) (.agg (byteVals rH11).toArray) _ rfl (by simp) (fun p => ?_) ?_
  · go_big_quiet_op
    exact ⟨_, fun q => Calls.ext_of (HQH11.out q.x), rfl⟩
  simp only [Act.put, List.setIfInBounds_toArray, List.set]
  refine upW_val (by rfl) (by rfl) (by rfl) (fun K hK => quiet_load_row _ _ rfl N rfl 22 _ (0, 0) _ HX0.out Try.underlying22 rfl (sB a HLA0.out) (hK _ ?_))
  simp only [Act.put, List.setIfInBounds_toArray, List.set]
  refine upW_val (by rfl) (by rfl) (by rfl) (fun K hK => quiet_load_row _ _ rfl (N + 1) rfl 22 _ (0, 0) _ HX1.out Try.underlying22 rfl (sB b HLA1.out) (hK _ ?_))
  simp only [Act.put, List.setIfInBounds_toArray, List.set]
  refine upW_call (by rfl) (by rfl) (.agg (byteVals rH12).toArray) _ rfl (by simp) (fun p => ?_) ?_
  · go_big_quiet_op
    exact ⟨_, fun q => Calls.ext_of (HQH12.out q.x), rfl⟩
  simp only [Act.put, List.setIfInBounds_toArray, List.set]
  refine upW_late (by rfl) (.bool true) (fun w => run_eqB _ _ _ _ 22 rfl Try.underlying22 rH11 rH12 rfl rfl HLH11.out HLH12.out (by kernel_rfl) true (decide_eq_true (eq_le HLH11.out HLH12.out (by simp only [HVH11.out, HVH12.out]; exact (fSub_doc _ _)))) w) ?_
  simp only [Act.put, List.setIfInBounds_toArray, List.set]
  refine upW_val (by rfl) (by rfl) (by rfl) ?_
  intro K hK
  go_big_quiet_op
  refine hK _ ?_
  refine upW_val (by rfl) (by rfl) (by rfl) ?_
  intro K hK
  go_big_quiet_op
  refine hK _ ?_
  refine upW_val (by rfl) (by rfl) (by rfl) (fun K hK => quiet_load_row _ _ rfl M0 rfl 25 _ (0, 0) _ HM0.out Try.underlying25 rfl (sN a HLA0.out) (hK _ ?_))
  simp only [Act.put, List.setIfInBounds_toArray, List.set]
  refine upW_val (by rfl) (by rfl) (by rfl) (fun K hK => quiet_load_row _ _ rfl M1 rfl 25 _ (0, 0) _ HM1.out Try.underlying25 rfl (sN b HLA1.out) (hK _ ?_))
  simp only [Act.put, List.setIfInBounds_toArray, List.set]
  refine upW_call (by rfl) (by rfl) (.agg (byteVals rH13).toArray) _ rfl (by simp) (fun p => ?_) ?_
  · go_big_quiet_op
    exact ⟨_, fun q => Calls.ext_of (HQH13.out q.x), rfl⟩
  simp only [Act.put, List.setIfInBounds_toArray, List.set]
  refine upW_val (by rfl) (by rfl) (by rfl) (fun K hK => quiet_load_row _ _ rfl N rfl 22 _ (0, 0) _ HX0.out Try.underlying22 rfl (sB a HLA0.out) (hK _ ?_))
  simp only [Act.put, List.setIfInBounds_toArray, List.set]
  refine upW_val (by rfl) (by rfl) (by rfl) (fun K hK => quiet_load_row _ _ rfl (N + 1) rfl 22 _ (0, 0) _ HX1.out Try.underlying22 rfl (sB b HLA1.out) (hK _ ?_))
  simp only [Act.put, List.setIfInBounds_toArray, List.set]
  refine upW_call (by rfl) (by rfl) (.agg (byteVals rH14).toArray) _ rfl (by simp) (fun p => ?_) ?_
  · go_big_quiet_op
    exact ⟨_, fun q => Calls.ext_of (HQH14.out q.x), rfl⟩
  simp only [Act.put, List.setIfInBounds_toArray, List.set]
  refine upW_late (by rfl) (.bool true) (fun w => run_eqB _ _ _ _ 22 rfl Try.underlying22 rH13 rH14 rfl rfl HLH13.out HLH14.out (by kernel_rfl) true (decide_eq_true (eq_le HLH13.out HLH14.out (by simp only [HVH13.out, HVH14.out]; exact (fMul_doc _ _ (le_32 a HLA0.out) (le_32 b HLA1.out))))) w) ?_
  simp only [Act.put, List.setIfInBounds_toArray, List.set]
  refine upW_val (by rfl) (by rfl) (by rfl) ?_
  intro K hK
  go_big_quiet_op
  refine hK _ ?_
  refine upW_val (by rfl) (by rfl) (by rfl) ?_
  intro K hK
  go_big_quiet_op
  refine hK _ ?_
  refine upW_val (by rfl) (by rfl) (by rfl) (fun K hK => quiet_load_row _ _ rfl M0 rfl 25 _ (0, 0) _ HM0.out Try.underlying25 rfl (sN a HLA0.out) (hK _ ?_))
  simp only [Act.put, List.setIfInBounds_toArray, List.set]
  refine upW_call (by rfl) (by rfl) (.agg (byteVals rH15).toArray) _ rfl (by simp) (fun p => ?_) ?_
  · go_big_quiet_op
    exact ⟨_, fun q => Calls.ext_of (HQH15.out q.x), rfl⟩
  simp only [Act.put, List.setIfInBounds_toArray, List.set]
  refine upW_val (by rfl) (by rfl) (by rfl) (fun K hK => quiet_load_row _ _ rfl N rfl 22 _ (0, 0) _ HX0.out Try.underlying22 rfl (sB a HLA0.out) (hK _ ?_))
  simp only [Act.put, List.setIfInBounds_toArray, List.set]
  refine upW_call (by rfl) (by rfl) (.agg (byteVals rH16).toArray) _ rfl (by simp) (fun p => ?_) ?_
  · go_big_quiet_op
    exact ⟨_, fun q => Calls.ext_of (HQH16.out q.x), rfl⟩
  simp only [Act.put, List.setIfInBounds_toArray, List.set]
  refine upW_late (by rfl) (.bool true) (fun w => run_eqB _ _ _ _ 22 rfl Try.underlying22 rH15 rH16 rfl rfl HLH15.out HLH16.out (by kernel_rfl) true (decide_eq_true (eq_le HLH15.out HLH16.out (by simp only [HVH15.out, HVH16.out]; exact (fInv_doc _ (le_32 a HLA0.out))))) w) ?_
  simp only [Act.put, List.setIfInBounds_toArray, List.set]
  refine upW_val (by rfl) (by rfl) (by rfl) ?_
  intro K hK
  go_big_quiet_op
  refine hK _ ?_
  refine upW_val (by rfl) (by rfl) (by rfl) ?_
  intro K hK
  go_big_quiet_op
  refine hK _ ?_
  refine upW_val (by rfl) (by rfl) (by rfl) (fun K hK => quiet_load_row _ _ rfl M4 rfl 25 _ (0, 0) _ HM4.out Try.underlying25 rfl (sN rH1 HLH1.out) (hK _ ?_))
  simp only [Act.put, List.setIfInBounds_toArray, List.set]
  refine upW_val (by rfl) (by rfl) (by rfl) (fun K hK => quiet_load_row _ _ rfl M5 rfl 22 _ (0, 0) _ HM5.out Try.underlying22 rfl (sB rH2 HLH2.out) (hK _ ?_))
  simp only [Act.put, List.setIfInBounds_toArray, List.set]
  refine upW_late (by rfl) (.bool true) (fun w => run_eqB _ _ _ _ 22 rfl Try.underlying22 rH1 rH2 rfl rfl HLH1.out HLH2.out (by kernel_rfl) true (decide_eq_true (eq_le HLH1.out HLH2.out (by rw [HVH1.out, HVH2.out]; exact HRT1.out))) w) ?_
  simp only [Act.put, List.setIfInBounds_toArray, List.set]
  refine upW_val (by rfl) (by rfl) (by rfl) ?_
  intro K hK
  go_big_quiet_op
  refine hK _ ?_
  refine upW_val (by rfl) (by rfl) (by rfl) ?_
  intro K hK
  go_big_quiet_op
  refine hK _ ?_
  refine upW_val (by rfl) (by rfl) (by rfl) ?_
  intro K hK
  go_big_quiet_op
  refine hK _ ?_
  refine upW_val (by rfl) (by rfl) (by rfl) ?_
  intro K hK
  go_big_quiet_op
  refine hK _ ?_
  refine upW_val (by rfl) (by rfl) (by rfl) ?_
  intro K hK
  go_big_quiet_op
  refine hK _ ?_
  refine upW_val (by rfl) (by rfl) (by rfl) ?_
  intro K hK
  go_big_quiet_op
  refine hK _ ?_
  refine upW_val (by rfl) (by rfl) (by rfl) ?_
  intro K hK
  go_big_quiet_op
  refine hK _ ?_
  refine upW_val (by rfl) (by rfl) (by rfl) (fun K hK => quiet_load_row _ _ rfl M0 rfl 25 _ (0, 0) _ HM0.out Try.underlying25 rfl (sN a HLA0.out) (hK _ ?_))
  simp only [Act.put, List.setIfInBounds_toArray, List.set]
  refine upW_call (by rfl) (by rfl) (.bool bo) _ rfl (by simp) (fun p => ?_) ?_
  · go_big_quiet_op
    exact ⟨_, fun q => Calls.ext_of (HQH17.out q.x), rfl⟩
  simp only [Act.put, List.setIfInBounds_toArray, List.set]
  refine upW_val (by rfl) (by rfl) (by rfl) (fun K hK => quiet_load_row _ _ rfl N rfl 22 _ (0, 0) _ HX0.out Try.underlying22 rfl (sB a HLA0.out) (hK _ ?_))
  simp only [Act.put, List.setIfInBounds_toArray, List.set]
  refine upW_call (by rfl) (by rfl) (.bool bo) _ rfl (by simp) (fun p => ?_) ?_
  · go_big_quiet_op
    exact ⟨_, fun q => Calls.ext_of (HQH18.out q.x), rfl⟩
  simp only [Act.put, List.setIfInBounds_toArray, List.set]
  refine upW_val (by rfl) (by rfl) (by rfl) ?_
  intro K hK
  go_big_quiet_op
  refine hK _ ?_
  refine upW_val (by rfl) (by rfl) (by rfl) ?_
  intro K hK
  go_big_quiet_op
  refine hK _ ?_
  refine upW_nil (fun w6 hbs => ?_)
  have HF := Lib.hid (HB.out.trans (hbs.mono (show N ≤ _ by have := HB.out.size; have := HN.out; omega)))
  clear hbs
  go_wp2
  go_ret
  exact ⟨rfl, HN.out.symm ▸ HF.out⟩
theorem fieldSays_true (a b : List UInt8) (n : Int) (w : World) (hla : a.length = 32) (hlb : b.length = 32) (hu : (Lit.int .u64 n).wf = true) :
    Calls Try.prog 3 #[.agg (byteVals a).toArray, .agg (byteVals b).toArray, .int .u64 n] w fun e w' => e = .returned (.bool true) ∧ Below w.heap.size w w' := by
  simp [Lit.wf, IntKind.min, IntKind.max, IntKind.signed, IntKind.bits] at hu
  obtain ⟨m, rfl⟩ : ∃ m : Nat, n = (m : Int) := ⟨n.toNat, by omega⟩
  exact fieldSays_nat a b m w hla hlb (by omega)
theorem fieldSays_own : ownKnob Try.prog.godebug = none := by kernel_rfl

set_option maxRecDepth 100000 in
theorem fieldSays_lifted (os : Os) (started : os.Started) (H : Type) (enc : TypeId × Value → H) :
    ReturnsInHanded {} Try.checked os 3 .any (Rows.fieldSaysSpec.pre6 enc Try.prog Try.f3 Rows.fieldSaysRow.domain false) (Rows.fieldSaysSpec.post enc Try.prog Try.f3 false true false false) := by
  refine returnsInHanded_of_change (C := Try.checked) fieldSays_own started (by kernel_rfl) Try.func3
    (ChangeSpec.witness6 (enc := enc) (C := Try.checked) false ⟨#[], #[.agg (Array.replicate 32 (.int .u8 0)), .agg (Array.replicate 32 (.int .u8 0)), .int .u64 0], []⟩ 8 (by kernel_rfl) (by kernel_rfl) (by kernel_rfl) (by kernel_rfl)) ?_
  intro W base args ds gs before hval0 hW hcnd _
  have hval : ∀ (j : Nat) t v, Try.f3.params[j]? = some t → args[j]? = some v → Value.okWide Try.prog W .any base t v := hval0
  have hW' := hW
  obtain ⟨p, q, hA0, hV, rfl, hfz, hnd⟩ := hW
  have hA : DataW.TrodAll enc Try.prog W 0 (fun _ => true) true Try.f3.params.toList args.toList ds p := hA0
  rw [Try.params3] at hA hval
  obtain ⟨v0, vs0, d0, ds0, p0, q0, hargs, rfl, rfl, h0, r0⟩ := trodAll_cons hA
  obtain ⟨v1, vs1, d1, ds1, p1, q1, rfl, rfl, rfl, h1, r1⟩ := trodAll_cons r0
  obtain ⟨v2, vs2, d2, ds2, p2, q2, rfl, rfl, rfl, h2, r2⟩ := trodAll_cons r1
  obtain ⟨rfl, rfl, rfl⟩ := trodAll_nil r2
  obtain rfl : args = #[v0, v1, v2] := by cases args; simp_all
  obtain ⟨rfl, rfl⟩ := trodVars_none hV
  obtain ⟨a0, hl0, rfl, rfl, rfl⟩ := open_arr8 Try.underlying22 Try.underlying5 (by kernel_rfl) (by kernel_rfl) (hval 0 22 v0 rfl rfl) h0
  obtain ⟨a1, hl1, rfl, rfl, rfl⟩ := open_arr8 Try.underlying22 Try.underlying5 (by kernel_rfl) (by kernel_rfl) (hval 1 22 v1 rfl rfl) h1
  obtain ⟨a2, rfl, rfl, rfl, w2⟩ := open_int Try.underlying23 (hval 2 23 v2 rfl rfl) h2
  clear hA0 hval0
  simp only [List.append_nil] at hW'
  refine (fieldSays_true a0 a1 a2 W hl0 hl1 w2).mono fun e W' ⟨he, bel⟩ => ?_
  subst he
  exact ⟨_, rfl, _, _, _, [], [], [], hW', trodAll_mk1 (shut_bool Try.underlying4 _), (trodAll_cons_mk (shut_arr8 Try.underlying22 Try.underlying5 (by kernel_rfl) (by kernel_rfl) a0 hl0) (trodAll_cons_mk (shut_arr8 Try.underlying22 Try.underlying5 (by kernel_rfl) (by kernel_rfl) a1 hl1) (trodAll_cons_mk (shut_int Try.underlying23 w2) trodAll_mk0))), rfl, bel.frame _, fun h => by cases h⟩

theorem fieldSays_holds : Rows.FieldSaysSaid :=
  OpenClaim.holds_of_wide 3 Try.f3 rfl rfl rfl rfl rfl rfl rfl ⟨rfl, rfl, rfl, rfl, rfl⟩ rfl rfl rfl rfl rfl (by kernel_rfl) Try.func3 (by kernel_rfl)
    (of_decide_eq_true (by kernel_rfl)) (by unfold Func.isWrapper; first | (rw [if_pos (by decide +kernel)]; kernel_rfl) | (rw [if_neg (by decide +kernel)]; exact ⟨rfl, rfl⟩))
    (fun os started H enc _ => fieldSays_lifted os started H enc)
#print axioms fieldSays_holds

end Go.Proofs.Ytgajheocobgecaa
