/-
  The statement UtfPoints of the stage utf: for every number and both kinds of digits the call answers true.
  Conditions: none.
-/
import Derived.Test.YtomdkkmfgeajgaaUtfW
import Derived.Test.YtomdkkmfgeajgaaUtfO
import Derived.ProofKit
import Derived.OpenShut
import Derived.ShutString
namespace Go.Proofs.Ytomdkkmfgeajgaa
open Go.ChangeShapes Go.WideShapes Go.ChangeAt Go.RowKit
open Go.ChangeMaps (open_string shut_string)

theorem pts_is (c : Int) : ∃ k : Nat, k < 1114112 ∧ wrap64 ((IntKind.u64.wrap c).tmod 1114112) = (k : Int) := by
  have h0 : 0 ≤ IntKind.u64.wrap c := by
    unfold IntKind.wrap; simp [IntKind.bits, IntKind.signed]; omega
  have h1 := Int.tmod_nonneg (1114112 : Int) h0
  have h2 := Int.tmod_lt_of_pos (IntKind.u64.wrap c) (show (0 : Int) < 1114112 by omega)
  refine ⟨((IntKind.u64.wrap c).tmod 1114112).toNat, by omega, ?_⟩
  unfold wrap64; omega

def IntsAt (w : World) (b : Nat) (l : List Nat) : Prop := w.heap[b]? = some (.cells ((l.map fun n : Nat => Value.int .i64 (n : Int)).toArray) 3 (0, 0))
theorem IntsAt.cell {w : World} {b : Nat} {l : List Nat} (h : IntsAt w b l) (k : Nat) (hk : k < l.length) : w.cell? ⟨b, k, none⟩ = some (.int .i64 (l[k] : Int)) := by
  unfold IntsAt at h
  simp only [World.cell?, h]
  simp [List.getElem?_map, List.getElem?_eq_getElem hk]
theorem IntsAt.new (w : World) (l : List Nat) : IntsAt (w.alloc (.cells ((l.map fun n : Nat => Value.int .i64 (n : Int)).toArray) 3)) w.heap.size l := by
  show (w.heap.push _)[w.heap.size]? = _
  simp
theorem pts_e1 (k : Nat) (h : 65536 ≤ k) (h2 : k < 1114112) : wrap64 ((k : Int) - 65536) = ((k - 65536 : Nat) : Int) := by unfold wrap64; omega
theorem pts_e2 (m : Nat) (h : m < 1048576) : wrap64 (55296 + (m : Int) / 1024) = ((55296 + m / 1024 : Nat) : Int) := by unfold wrap64; omega
theorem pts_e3 (m : Nat) (h : m < 1048576) : bits .and .i64 (m : Int) 1023 = ((m % 1024 : Nat) : Int) := by
  have e := bits_mask .i64 63 (by decide) (fun n h0 h1 => wrap_small n h0 (by simpa using h1)) 10 (by decide) (m : Int) (by omega) (by omega)
  have e2 : bits .and .i64 (m : Int) 1023 = (m : Int) % 1024 := e
  rw [e2]; omega
theorem pts_e4 (m : Nat) : wrap64 (56320 + ((m % 1024 : Nat) : Int)) = ((56320 + m % 1024 : Nat) : Int) := by unfold wrap64; omega

theorem mask15 (m : Nat) (h : m < 1048576) : bits .and .i64 (m : Int) 15 = ((m % 16 : Nat) : Int) := by
  have e := bits_mask .i64 63 (by decide) (fun n h0 h1 => wrap_small n h0 (by simpa using h1)) 4 (by decide) (m : Int) (by omega) (by omega)
  have e2 : bits .and .i64 (m : Int) 15 = (m : Int) % 16 := e
  rw [e2]; omega
theorem ext_one (d : ByteArray) (a : Nat) (h : a < 16) (hd : 16 ≤ d.size) : (d.extract a (a + 1)).size = 1 := by rw [ByteArray.size_extract]; omega
def PtsRel (d : ByteArray) (X : List Nat) (B : Nat) (w : World) (j : Nat) (z : ByteArray) (wr : World) : Prop :=
  j ≤ X.length ∧ z.size ≤ 6 * j ∧ z.data.toList = (X.take j).flatMap (escB d) ∧ IntsAt wr B X ∧ Below w.heap.size w wr

theorem pts_runes (s : ByteArray) (n : Int) (w : World) (hs : s.size ≤ maxLen) (h : uRunesI s.data.toList = n) :
    Calls Try.prog 12 #[.string s] w fun e w' => e = .returned (.int .i64 n) ∧ Below w.heap.size w w' := by
  subst h; exact runes_any s w hs
theorem pts_step {d : ByteArray} {X : List Nat} {B : Nat} {w wr : World} {j : Nat} {z : ByteArray} {x a1 a2 a3 a4 : Nat} (hj : j < X.length) (hz : z.size ≤ 6 * j) (hzl : z.data.toList = (X.take j).flatMap (escB d)) (hX : IntsAt wr B X) (hbel : Below w.heap.size w wr)
    (hx : x = X[j]) (ha : a1 = x / 4096 ∧ a2 = x / 256 % 16 ∧ a3 = x / 16 % 16 ∧ a4 = x % 16) (hl : a1 < 16 ∧ a2 < 16 ∧ a3 < 16 ∧ a4 < 16) (hd : 16 ≤ d.size) (nq : Nat) :
    PtsRel d X B w (j + 1) (z ++ ⟨#[92, 117]⟩ ++ d.extract a1 (a1 + 1) ++ d.extract a2 (a2 + 1) ++ d.extract a3 (a3 + 1) ++ d.extract a4 (a4 + 1)) (wr.drewN nq) := by
  obtain ⟨rfl, rfl, rfl, rfl⟩ := ha
  obtain ⟨l1, l2, l3, l4⟩ := hl
  refine ⟨hj, ?_, ?_, hX, hbel.trans ⟨rfl, rfl, rfl, Nat.le_refl _, fun _ _ => rfl⟩⟩
  · simp only [ByteArray.size_append, ext_one d _ l1 hd, ext_one d _ l2 hd, ext_one d _ l3 hd, ext_one d _ l4 hd]
    have : (⟨#[92, 117]⟩ : ByteArray).size = 2 := rfl
    omega
  · rw [List.take_succ_eq_append_getElem hj, List.flatMap_append, ← hzl, ← hx]
    simp [escB, List.append_assoc]

set_option maxRecDepth 100000 in
set_option maxHeartbeats 4000000 in
theorem pts_t0 (c : Int) (w : World) (k : Nat) (hk : k < 1114112) (hke : wrap64 ((IntKind.u64.wrap c).tmod 1114112) = (k : Int)) (hbig : k < 65536) :
    Calls Try.prog 7 #[.int .i64 c, .bool true] w fun e w' => e = .returned (.bool true) ∧ Below w.heap.size w w' := by
  have hdec : decide ((65536 : Int) ≤ wrap64 ((IntKind.u64.wrap c).tmod 1114112)) = false := by rw [hke]; simp; omega
  have HKE := Lib.hid hke
  have HK := Lib.hid hk
  have HBIG := Lib.hid hbig
  clear hke hk hbig
  go_enter Try.func7, Try.ntmps7
  go_wp2_with fail
  refine (awake_true _).mono ?_
  rintro e w1 ⟨rfl, hb1⟩
  go_wp2_with fail
  rw [HKE.out]
  have hX : IntsAt (w1.alloc (.cells #[.int .i64 (k : Int)] 3)) (w1.heap.size) [k] := IntsAt.new w1 [k]
  have hbW : Below w.heap.size w (w1.alloc (.cells #[.int .i64 (k : Int)] 3)) := hb1.alloc hb1.size _
  generalize (w1.alloc (.cells #[.int .i64 (k : Int)] 3)) = W0 at hX hbW ⊢
  generalize w1.heap.size = B at hX ⊢
  have hXs : ∀ x ∈ [k], x < 65536 := by
    have h1 := HK.out
    have h2 := HBIG.out
    intro x hx
    simp only [List.mem_cons, List.not_mem_nil, or_false] at hx
    omega
  obtain ⟨X, hXe⟩ : ∃ X, X = [k] := ⟨_, rfl⟩
  have hXl : X.length = 1 := by rw [hXe]; rfl
  rw [← hXe] at hX hXs
  have HX := Lib.hid hXe
  have HXS := Lib.hid hXs
  have HXL := Lib.hid hXl
  clear hXe hXs hXl hb1
  generalize hdg : (⟨#[48, 49, 50, 51, 52, 53, 54, 55, 56, 57, 65, 66, 67, 68, 69, 70]⟩ : ByteArray) = d
  have hd16 : 16 ≤ d.size := by rw [← hdg]; decide
  have HDD := Lib.hid (show Digs d by rw [← hdg]; exact digs_great)
  have HDG := Lib.hid hdg
  clear hdg hdec
  go_loopw [7, 8] (fun sv i wr => ∃ (j : Nat) (z : ByteArray), i = .int .i64 j ∧ sv = .string z ∧ PtsRel d X B w j z wr) (fun _ i _ => 1 - (intOf i).toNat)
  case atStart => exact ⟨0, ⟨#[]⟩, rfl, rfl, by omega, by decide, rfl, hX, hbW⟩
  case round =>
    clear hX hbW
    obtain ⟨j, z, rfl, rfl, hj, hz, hzl, hX, hbel⟩ := hrel
    have hj2 : j ≤ 1 := by have := HXL.out; omega
    by_cases hlt : j < 1
    · have hlt' : (j : Int) < 1 := by omega
      have hjx : j < X.length := by rw [HXL.out]; exact hlt
      have hcell := hX.cell j hjx
      have hx65 := HXS.out X[j] (List.getElem_mem hjx)
      obtain ⟨x, hxe⟩ : ∃ x, x = X[j] := ⟨_, rfl⟩
      rw [← hxe] at hcell hx65
      have HXE := Lib.hid hxe
      have HZL := Lib.hid hzl
      have HXX := Lib.hid hX
      have HX65 := Lib.hid hx65
      clear hxe hzl hX hx65 hj
      go_wp2_with fail
      have b0 : (0 : Int) ≤ (j : Int) := by omega
      obtain ⟨a1, ha1⟩ : ∃ a1 : Nat, a1 = x / 4096 := ⟨_, rfl⟩
      obtain ⟨a2, ha2⟩ : ∃ a2 : Nat, a2 = x / 256 % 16 := ⟨_, rfl⟩
      obtain ⟨a3, ha3⟩ : ∃ a3 : Nat, a3 = x / 16 % 16 := ⟨_, rfl⟩
      obtain ⟨a4, ha4⟩ : ∃ a4 : Nat, a4 = x % 16 := ⟨_, rfl⟩
      have hl1 : a1 < 16 := by have := HX65.out; omega
      have hl2 : a2 < 16 := by omega
      have hl3 : a3 < 16 := by omega
      have hl4 : a4 < 16 := by omega
      have c1 : (x : Int) / 4096 = (a1 : Int) := by omega
      have c3 : bits .and .i64 ((x : Int) / 256) 15 = (a2 : Int) := by
        have e := mask15 (x / 256) (by have := HX65.out; omega)
        rw [show ((x / 256 : Nat) : Int) = (x : Int) / 256 by omega] at e
        rw [e, ha2]
      have c4 : bits .and .i64 ((x : Int) / 16) 15 = (a3 : Int) := by
        have e := mask15 (x / 16) (by have := HX65.out; omega)
        rw [show ((x / 16 : Nat) : Int) = (x : Int) / 16 by omega] at e
        rw [e, ha3]
      have c5 : bits .and .i64 (x : Int) 15 = (a4 : Int) := by
        have e := mask15 x (by have := HX65.out; omega)
        rw [e, ha4]
      have s1a : (0 : Int) ≤ (a1 : Int) := by omega
      have s1b : (a1 : Int) < 16 := by omega
      have s1c : IntKind.i64.wrap ((a1 : Int) + 1) = (a1 : Int) + 1 := wrap_small _ (by omega) (by omega)
      have s1d : ((a1 : Int) + 1).toNat = a1 + 1 := by omega
      have s1e : (a1 : Int) + 1 ≤ (d.size : Int) := by omega
      have s1g : a1 + 1 ≤ d.size := by omega
      have s1f := ext_one d a1 hl1 hd16
      have s2a : (0 : Int) ≤ (a2 : Int) := by omega
      have s2b : (a2 : Int) < 16 := by omega
      have s2c : IntKind.i64.wrap ((a2 : Int) + 1) = (a2 : Int) + 1 := wrap_small _ (by omega) (by omega)
      have s2d : ((a2 : Int) + 1).toNat = a2 + 1 := by omega
      have s2e : (a2 : Int) + 1 ≤ (d.size : Int) := by omega
      have s2g : a2 + 1 ≤ d.size := by omega
      have s2f := ext_one d a2 hl2 hd16
      have s3a : (0 : Int) ≤ (a3 : Int) := by omega
      have s3b : (a3 : Int) < 16 := by omega
      have s3c : IntKind.i64.wrap ((a3 : Int) + 1) = (a3 : Int) + 1 := wrap_small _ (by omega) (by omega)
      have s3d : ((a3 : Int) + 1).toNat = a3 + 1 := by omega
      have s3e : (a3 : Int) + 1 ≤ (d.size : Int) := by omega
      have s3g : a3 + 1 ≤ d.size := by omega
      have s3f := ext_one d a3 hl3 hd16
      have s4a : (0 : Int) ≤ (a4 : Int) := by omega
      have s4b : (a4 : Int) < 16 := by omega
      have s4c : IntKind.i64.wrap ((a4 : Int) + 1) = (a4 : Int) + 1 := wrap_small _ (by omega) (by omega)
      have s4d : ((a4 : Int) + 1).toNat = a4 + 1 := by omega
      have s4e : (a4 : Int) + 1 ≤ (d.size : Int) := by omega
      have s4g : a4 + 1 ≤ d.size := by omega
      have s4f := ext_one d a4 hl4 hd16
      have n0 : ¬ 9223372036854775805 < z.size := by omega
      have n1 : ¬ 9223372036854775804 < z.size := by omega
      have n2 : ¬ 9223372036854775803 < z.size := by omega
      have n3 : ¬ 9223372036854775802 < z.size := by omega
      have n4 : ¬ 9223372036854775801 < z.size := by omega
      have HA := Lib.hid (⟨ha1, ha2, ha3, ha4⟩ : a1 = x / 4096 ∧ a2 = x / 256 % 16 ∧ a3 = x / 16 % 16 ∧ a4 = x % 16)
      have HL := Lib.hid (⟨hl1, hl2, hl3, hl4⟩ : a1 < 16 ∧ a2 < 16 ∧ a3 < 16 ∧ a4 < 16)
      clear ha1 ha2 ha3 ha4 hl1 hl2 hl3 hl4
      go_quiet (fail)
      have R := pts_step hjx hz HZL.out HXX.out hbel HXE.out HA.out HL.out hd16 nq
      go_wp2
      go_roundw
      case rel => exact ⟨j + 1, _, by go_num, rfl, R⟩
      case measure => simp [intOf]; omega
    · have hjn : j = 1 := by omega
      subst hjn
      have hk65 := HBIG.out
      have hzk : z.data.toList = escB d k := by rw [hzl, HX.out]; simp
      have hzs : z.size = 6 := by have h1 := escB_len HDD.out hk65; rw [← hzk, Array.length_toList] at h1; exact h1
      have hq : ((⟨#[34]⟩ : ByteArray) ++ z ++ ⟨#[34]⟩).data.toList = 34 :: escB d k ++ [34] := by rw [← hzk]; simp
      have HQ := Lib.hid hq
      have HZS := Lib.hid hzs
      clear hk65 hzk hzs hq hzl hX hj2 hlt hj
      cases hsur : uSur k with
      | true =>
        have HN := Lib.hid (show uUnq ((⟨#[34]⟩ : ByteArray) ++ z ++ ⟨#[34]⟩).data.toList = none by rw [HQ.out]; exact one_half HDD.out HBIG.out hsur)
        have hsur2 : 55296 ≤ k ∧ k < 57344 := by simpa [uSur] using hsur
        have d1 : decide ((55296 : Int) ≤ (k : Int)) = true := by simp; omega
        have d2 : decide ((k : Int) < 57344) = true := by simp; omega
        clear hsur hsur2
        go_wp2_with fail
        refine (unquote_no _ _ (by simp only [ByteArray.size_append]; have : (⟨#[34]⟩ : ByteArray).size = 1 := rfl; omega) HN.out).mono ?_
        rintro e w2 ⟨rfl, hb2⟩
        have hB2 := hbel.trans (hb2.mono hbel.size)
        clear hb2 hbel
        go_wp2
        go_ret
        exact ⟨rfl, hB2⟩
      | false =>
        have HN := Lib.hid (show uUnq ((⟨#[34]⟩ : ByteArray) ++ z ++ ⟨#[34]⟩).data.toList = some ((⟨(uBytes k).toArray⟩ : ByteArray).data.toList, 8) by rw [HQ.out]; exact one_plain HDD.out HBIG.out hsur)
        have HSU := Lib.hid hsur
        clear hsur
        go_wp2_with fail
        refine (unquote_at _ ⟨(uBytes k).toArray⟩ 8 _ (by simp only [ByteArray.size_append]; have : (⟨#[34]⟩ : ByteArray).size = 1 := rfl; omega) HN.out).mono ?_
        rintro e w2 ⟨rfl, hb2⟩
        have hB2 := hbel.trans (hb2.mono hbel.size)
        clear hb2 hbel
        generalize hc0 : (k : Int) = c0
        have HC0 := Lib.hid hc0
        clear hc0
        have hz8 : ((8 : Int) == (z.size : Int) + 2) = true := by have := HZS.out; rw [this]; rfl
        go_wp2_with fail
        · exfalso
          have h1 : (55296 : Int) ≤ c0 := by assumption
          have h2 : c0 < 57344 := by assumption
          have h3 := HC0.out
          have h4 := HSU.out
          simp only [uSur, Bool.and_eq_false_iff, decide_eq_false_iff_not] at h4
          omega
        all_goals
          refine (pts_runes ⟨(uBytes k).toArray⟩ 1 _ (by show (uBytes k).toArray.size ≤ maxLen; have := uBytes_len k; rw [List.size_toArray]; unfold maxLen; omega) (by unfold uRunesI; rw [show (⟨(uBytes k).toArray⟩ : ByteArray).data.toList = uBytes k from rfl, uRunes_bytes k (by have := HK.out; omega) HSU.out]; rfl)).mono ?_
          rintro e w3 ⟨rfl, hb3⟩
          have hB3 := hB2.trans (hb3.mono hB2.size)
          clear hb3 hB2
          go_wp2
          go_ret
          refine ⟨ret_b ?_, hB3⟩
          have e : wrap32 c0 = (k : Int) := by rw [← HC0.out]; unfold wrap32; have := HK.out; omega
          rw [e, uBytes_is k (by have := HK.out; omega) HSU.out]
          simp

set_option maxRecDepth 100000 in
set_option maxHeartbeats 4000000 in
theorem pts_t1 (c : Int) (w : World) (k : Nat) (hk : k < 1114112) (hke : wrap64 ((IntKind.u64.wrap c).tmod 1114112) = (k : Int)) (hbig : 65536 ≤ k) :
    Calls Try.prog 7 #[.int .i64 c, .bool true] w fun e w' => e = .returned (.bool true) ∧ Below w.heap.size w w' := by
  have hdec : decide ((65536 : Int) ≤ wrap64 ((IntKind.u64.wrap c).tmod 1114112)) = true := by rw [hke]; simp; omega
  have HKE := Lib.hid hke
  have HK := Lib.hid hk
  have HBIG := Lib.hid hbig
  clear hke hk hbig
  go_enter Try.func7, Try.ntmps7
  go_wp2_with fail
  refine (awake_true _).mono ?_
  rintro e w1 ⟨rfl, hb1⟩
  go_wp2_with fail
  rw [HKE.out]
  rw [pts_e1 k HBIG.out HK.out, pts_e2 (k - 65536) (by have := HK.out; omega), pts_e3 (k - 65536) (by have := HK.out; omega), pts_e4 (k - 65536)]
  have hX : IntsAt ((w1.alloc (.cells #[.int .i64 (k : Int)] 3)).alloc (.cells #[.int .i64 ((55296 + (k - 65536) / 1024 : Nat) : Int), .int .i64 ((56320 + (k - 65536) % 1024 : Nat) : Int)] 3)) (w1.heap.size + 1) [55296 + (k - 65536) / 1024, 56320 + (k - 65536) % 1024] := by
    have := IntsAt.new (w1.alloc (.cells #[.int .i64 (k : Int)] 3)) [55296 + (k - 65536) / 1024, 56320 + (k - 65536) % 1024]
    rw [World.size_alloc] at this; exact this
  have hbW : Below w.heap.size w ((w1.alloc (.cells #[.int .i64 (k : Int)] 3)).alloc (.cells #[.int .i64 ((55296 + (k - 65536) / 1024 : Nat) : Int), .int .i64 ((56320 + (k - 65536) % 1024 : Nat) : Int)] 3)) := (hb1.alloc hb1.size _).alloc (by simp; have := hb1.size; omega) _
  generalize ((w1.alloc (.cells #[.int .i64 (k : Int)] 3)).alloc (.cells #[.int .i64 ((55296 + (k - 65536) / 1024 : Nat) : Int), .int .i64 ((56320 + (k - 65536) % 1024 : Nat) : Int)] 3)) = W0 at hX hbW ⊢
  generalize w1.heap.size + 1 = B at hX ⊢
  have hXs : ∀ x ∈ [55296 + (k - 65536) / 1024, 56320 + (k - 65536) % 1024], x < 65536 := by
    have h1 := HK.out
    have h2 := HBIG.out
    intro x hx
    simp only [List.mem_cons, List.not_mem_nil, or_false] at hx
    omega
  obtain ⟨X, hXe⟩ : ∃ X, X = [55296 + (k - 65536) / 1024, 56320 + (k - 65536) % 1024] := ⟨_, rfl⟩
  have hXl : X.length = 2 := by rw [hXe]; rfl
  rw [← hXe] at hX hXs
  have HX := Lib.hid hXe
  have HXS := Lib.hid hXs
  have HXL := Lib.hid hXl
  clear hXe hXs hXl hb1
  generalize hdg : (⟨#[48, 49, 50, 51, 52, 53, 54, 55, 56, 57, 65, 66, 67, 68, 69, 70]⟩ : ByteArray) = d
  have hd16 : 16 ≤ d.size := by rw [← hdg]; decide
  have HDD := Lib.hid (show Digs d by rw [← hdg]; exact digs_great)
  have HDG := Lib.hid hdg
  clear hdg hdec
  go_loopw [7, 8] (fun sv i wr => ∃ (j : Nat) (z : ByteArray), i = .int .i64 j ∧ sv = .string z ∧ PtsRel d X B w j z wr) (fun _ i _ => 2 - (intOf i).toNat)
  case atStart => exact ⟨0, ⟨#[]⟩, rfl, rfl, by omega, by decide, rfl, hX, hbW⟩
  case round =>
    clear hX hbW
    obtain ⟨j, z, rfl, rfl, hj, hz, hzl, hX, hbel⟩ := hrel
    have hj2 : j ≤ 2 := by have := HXL.out; omega
    by_cases hlt : j < 2
    · have hlt' : (j : Int) < 2 := by omega
      have hjx : j < X.length := by rw [HXL.out]; exact hlt
      have hcell := hX.cell j hjx
      have hx65 := HXS.out X[j] (List.getElem_mem hjx)
      obtain ⟨x, hxe⟩ : ∃ x, x = X[j] := ⟨_, rfl⟩
      rw [← hxe] at hcell hx65
      have HXE := Lib.hid hxe
      have HZL := Lib.hid hzl
      have HXX := Lib.hid hX
      have HX65 := Lib.hid hx65
      clear hxe hzl hX hx65 hj
      go_wp2_with fail
      have b0 : (0 : Int) ≤ (j : Int) := by omega
      obtain ⟨a1, ha1⟩ : ∃ a1 : Nat, a1 = x / 4096 := ⟨_, rfl⟩
      obtain ⟨a2, ha2⟩ : ∃ a2 : Nat, a2 = x / 256 % 16 := ⟨_, rfl⟩
      obtain ⟨a3, ha3⟩ : ∃ a3 : Nat, a3 = x / 16 % 16 := ⟨_, rfl⟩
      obtain ⟨a4, ha4⟩ : ∃ a4 : Nat, a4 = x % 16 := ⟨_, rfl⟩
      have hl1 : a1 < 16 := by have := HX65.out; omega
      have hl2 : a2 < 16 := by omega
      have hl3 : a3 < 16 := by omega
      have hl4 : a4 < 16 := by omega
      have c1 : (x : Int) / 4096 = (a1 : Int) := by omega
      have c3 : bits .and .i64 ((x : Int) / 256) 15 = (a2 : Int) := by
        have e := mask15 (x / 256) (by have := HX65.out; omega)
        rw [show ((x / 256 : Nat) : Int) = (x : Int) / 256 by omega] at e
        rw [e, ha2]
      have c4 : bits .and .i64 ((x : Int) / 16) 15 = (a3 : Int) := by
        have e := mask15 (x / 16) (by have := HX65.out; omega)
        rw [show ((x / 16 : Nat) : Int) = (x : Int) / 16 by omega] at e
        rw [e, ha3]
      have c5 : bits .and .i64 (x : Int) 15 = (a4 : Int) := by
        have e := mask15 x (by have := HX65.out; omega)
        rw [e, ha4]
      have s1a : (0 : Int) ≤ (a1 : Int) := by omega
      have s1b : (a1 : Int) < 16 := by omega
      have s1c : IntKind.i64.wrap ((a1 : Int) + 1) = (a1 : Int) + 1 := wrap_small _ (by omega) (by omega)
      have s1d : ((a1 : Int) + 1).toNat = a1 + 1 := by omega
      have s1e : (a1 : Int) + 1 ≤ (d.size : Int) := by omega
      have s1g : a1 + 1 ≤ d.size := by omega
      have s1f := ext_one d a1 hl1 hd16
      have s2a : (0 : Int) ≤ (a2 : Int) := by omega
      have s2b : (a2 : Int) < 16 := by omega
      have s2c : IntKind.i64.wrap ((a2 : Int) + 1) = (a2 : Int) + 1 := wrap_small _ (by omega) (by omega)
      have s2d : ((a2 : Int) + 1).toNat = a2 + 1 := by omega
      have s2e : (a2 : Int) + 1 ≤ (d.size : Int) := by omega
      have s2g : a2 + 1 ≤ d.size := by omega
      have s2f := ext_one d a2 hl2 hd16
      have s3a : (0 : Int) ≤ (a3 : Int) := by omega
      have s3b : (a3 : Int) < 16 := by omega
      have s3c : IntKind.i64.wrap ((a3 : Int) + 1) = (a3 : Int) + 1 := wrap_small _ (by omega) (by omega)
      have s3d : ((a3 : Int) + 1).toNat = a3 + 1 := by omega
      have s3e : (a3 : Int) + 1 ≤ (d.size : Int) := by omega
      have s3g : a3 + 1 ≤ d.size := by omega
      have s3f := ext_one d a3 hl3 hd16
      have s4a : (0 : Int) ≤ (a4 : Int) := by omega
      have s4b : (a4 : Int) < 16 := by omega
      have s4c : IntKind.i64.wrap ((a4 : Int) + 1) = (a4 : Int) + 1 := wrap_small _ (by omega) (by omega)
      have s4d : ((a4 : Int) + 1).toNat = a4 + 1 := by omega
      have s4e : (a4 : Int) + 1 ≤ (d.size : Int) := by omega
      have s4g : a4 + 1 ≤ d.size := by omega
      have s4f := ext_one d a4 hl4 hd16
      have n0 : ¬ 9223372036854775805 < z.size := by omega
      have n1 : ¬ 9223372036854775804 < z.size := by omega
      have n2 : ¬ 9223372036854775803 < z.size := by omega
      have n3 : ¬ 9223372036854775802 < z.size := by omega
      have n4 : ¬ 9223372036854775801 < z.size := by omega
      have HA := Lib.hid (⟨ha1, ha2, ha3, ha4⟩ : a1 = x / 4096 ∧ a2 = x / 256 % 16 ∧ a3 = x / 16 % 16 ∧ a4 = x % 16)
      have HL := Lib.hid (⟨hl1, hl2, hl3, hl4⟩ : a1 < 16 ∧ a2 < 16 ∧ a3 < 16 ∧ a4 < 16)
      clear ha1 ha2 ha3 ha4 hl1 hl2 hl3 hl4
      go_quiet (fail)
      have R := pts_step hjx hz HZL.out HXX.out hbel HXE.out HA.out HL.out hd16 nq
      go_wp2
      go_roundw
      case rel => exact ⟨j + 1, _, by go_num, rfl, R⟩
      case measure => simp [intOf]; omega
    · have hjn : j = 2 := by omega
      subst hjn
      have hk65 := HBIG.out
      have hk11 := HK.out
      have hzk : z.data.toList = escB d (55296 + (k - 65536) / 1024) ++ escB d (56320 + (k - 65536) % 1024) := by rw [hzl, HX.out]; simp
      have hzs : z.size = 12 := by
        have h1 := escB_len HDD.out (x := 55296 + (k - 65536) / 1024) (by omega)
        have h2 := escB_len HDD.out (x := 56320 + (k - 65536) % 1024) (by omega)
        have h3 := congrArg List.length hzk
        rw [List.length_append, h1, h2, Array.length_toList] at h3; exact h3
      have hq : ((⟨#[34]⟩ : ByteArray) ++ z ++ ⟨#[34]⟩).data.toList = 34 :: (escB d (55296 + (k - 65536) / 1024) ++ escB d (56320 + (k - 65536) % 1024)) ++ [34] := by rw [← hzk]; simp
      have HSU := Lib.hid (show uSur k = false by simp only [uSur, Bool.and_eq_false_iff, decide_eq_false_iff_not]; omega)
      have HN := Lib.hid (show uUnq ((⟨#[34]⟩ : ByteArray) ++ z ++ ⟨#[34]⟩).data.toList = some ((⟨(uBytes k).toArray⟩ : ByteArray).data.toList, 14) by
        rw [hq]
        have := two_pair HDD.out (m := k - 65536) (by omega)
        rw [show 65536 + (k - 65536) = k by omega] at this
        exact this)
      have HZS := Lib.hid hzs
      clear hk65 hk11 hzk hzs hq hzl hX hj2 hlt hj
      go_wp2_with fail
      refine (unquote_at _ ⟨(uBytes k).toArray⟩ 14 _ (by simp only [ByteArray.size_append]; have : (⟨#[34]⟩ : ByteArray).size = 1 := rfl; omega) HN.out).mono ?_
      rintro e w2 ⟨rfl, hb2⟩
      have hB2 := hbel.trans (hb2.mono hbel.size)
      clear hb2 hbel
      generalize hc0 : (k : Int) = c0
      have HC0 := Lib.hid hc0
      clear hc0
      have hz8 : ((14 : Int) == (z.size : Int) + 2) = true := by have := HZS.out; rw [this]; rfl
      go_wp2_with fail
      · exfalso
        have h1 : (55296 : Int) ≤ c0 := by assumption
        have h2 : c0 < 57344 := by assumption
        have h3 := HC0.out
        have h4 := HSU.out
        simp only [uSur, Bool.and_eq_false_iff, decide_eq_false_iff_not] at h4
        omega
      all_goals
        refine (pts_runes ⟨(uBytes k).toArray⟩ 1 _ (by show (uBytes k).toArray.size ≤ maxLen; have := uBytes_len k; rw [List.size_toArray]; unfold maxLen; omega) (by unfold uRunesI; rw [show (⟨(uBytes k).toArray⟩ : ByteArray).data.toList = uBytes k from rfl, uRunes_bytes k (by have := HK.out; omega) HSU.out]; rfl)).mono ?_
        rintro e w3 ⟨rfl, hb3⟩
        have hB3 := hB2.trans (hb3.mono hB2.size)
        clear hb3 hB2
        go_wp2
        go_ret
        refine ⟨ret_b ?_, hB3⟩
        have e : wrap32 c0 = (k : Int) := by rw [← HC0.out]; unfold wrap32; have := HK.out; omega
        rw [e, uBytes_is k (by have := HK.out; omega) HSU.out]
        simp


set_option maxRecDepth 100000 in
set_option maxHeartbeats 4000000 in
theorem pts_f0 (c : Int) (w : World) (k : Nat) (hk : k < 1114112) (hke : wrap64 ((IntKind.u64.wrap c).tmod 1114112) = (k : Int)) (hbig : k < 65536) :
    Calls Try.prog 7 #[.int .i64 c, .bool false] w fun e w' => e = .returned (.bool true) ∧ Below w.heap.size w w' := by
  have hdec : decide ((65536 : Int) ≤ wrap64 ((IntKind.u64.wrap c).tmod 1114112)) = false := by rw [hke]; simp; omega
  have HKE := Lib.hid hke
  have HK := Lib.hid hk
  have HBIG := Lib.hid hbig
  clear hke hk hbig
  go_enter Try.func7, Try.ntmps7
  go_wp2_with fail
  refine (awake_true _).mono ?_
  rintro e w1 ⟨rfl, hb1⟩
  go_wp2_with fail
  rw [HKE.out]
  have hX : IntsAt (w1.alloc (.cells #[.int .i64 (k : Int)] 3)) (w1.heap.size) [k] := IntsAt.new w1 [k]
  have hbW : Below w.heap.size w (w1.alloc (.cells #[.int .i64 (k : Int)] 3)) := hb1.alloc hb1.size _
  generalize (w1.alloc (.cells #[.int .i64 (k : Int)] 3)) = W0 at hX hbW ⊢
  generalize w1.heap.size = B at hX ⊢
  have hXs : ∀ x ∈ [k], x < 65536 := by
    have h1 := HK.out
    have h2 := HBIG.out
    intro x hx
    simp only [List.mem_cons, List.not_mem_nil, or_false] at hx
    omega
  obtain ⟨X, hXe⟩ : ∃ X, X = [k] := ⟨_, rfl⟩
  have hXl : X.length = 1 := by rw [hXe]; rfl
  rw [← hXe] at hX hXs
  have HX := Lib.hid hXe
  have HXS := Lib.hid hXs
  have HXL := Lib.hid hXl
  clear hXe hXs hXl hb1
  generalize hdg : (⟨#[48, 49, 50, 51, 52, 53, 54, 55, 56, 57, 97, 98, 99, 100, 101, 102]⟩ : ByteArray) = d
  have hd16 : 16 ≤ d.size := by rw [← hdg]; decide
  have HDD := Lib.hid (show Digs d by rw [← hdg]; exact digs_low)
  have HDG := Lib.hid hdg
  clear hdg hdec
  go_loopw [7, 8] (fun sv i wr => ∃ (j : Nat) (z : ByteArray), i = .int .i64 j ∧ sv = .string z ∧ PtsRel d X B w j z wr) (fun _ i _ => 1 - (intOf i).toNat)
  case atStart => exact ⟨0, ⟨#[]⟩, rfl, rfl, by omega, by decide, rfl, hX, hbW⟩
  case round =>
    clear hX hbW
    obtain ⟨j, z, rfl, rfl, hj, hz, hzl, hX, hbel⟩ := hrel
    have hj2 : j ≤ 1 := by have := HXL.out; omega
    by_cases hlt : j < 1
    · have hlt' : (j : Int) < 1 := by omega
      have hjx : j < X.length := by rw [HXL.out]; exact hlt
      have hcell := hX.cell j hjx
      have hx65 := HXS.out X[j] (List.getElem_mem hjx)
      obtain ⟨x, hxe⟩ : ∃ x, x = X[j] := ⟨_, rfl⟩
      rw [← hxe] at hcell hx65
      have HXE := Lib.hid hxe
      have HZL := Lib.hid hzl
      have HXX := Lib.hid hX
      have HX65 := Lib.hid hx65
      clear hxe hzl hX hx65 hj
      go_wp2_with fail
      have b0 : (0 : Int) ≤ (j : Int) := by omega
      obtain ⟨a1, ha1⟩ : ∃ a1 : Nat, a1 = x / 4096 := ⟨_, rfl⟩
      obtain ⟨a2, ha2⟩ : ∃ a2 : Nat, a2 = x / 256 % 16 := ⟨_, rfl⟩
      obtain ⟨a3, ha3⟩ : ∃ a3 : Nat, a3 = x / 16 % 16 := ⟨_, rfl⟩
      obtain ⟨a4, ha4⟩ : ∃ a4 : Nat, a4 = x % 16 := ⟨_, rfl⟩
      have hl1 : a1 < 16 := by have := HX65.out; omega
      have hl2 : a2 < 16 := by omega
      have hl3 : a3 < 16 := by omega
      have hl4 : a4 < 16 := by omega
      have c1 : (x : Int) / 4096 = (a1 : Int) := by omega
      have c3 : bits .and .i64 ((x : Int) / 256) 15 = (a2 : Int) := by
        have e := mask15 (x / 256) (by have := HX65.out; omega)
        rw [show ((x / 256 : Nat) : Int) = (x : Int) / 256 by omega] at e
        rw [e, ha2]
      have c4 : bits .and .i64 ((x : Int) / 16) 15 = (a3 : Int) := by
        have e := mask15 (x / 16) (by have := HX65.out; omega)
        rw [show ((x / 16 : Nat) : Int) = (x : Int) / 16 by omega] at e
        rw [e, ha3]
      have c5 : bits .and .i64 (x : Int) 15 = (a4 : Int) := by
        have e := mask15 x (by have := HX65.out; omega)
        rw [e, ha4]
      have s1a : (0 : Int) ≤ (a1 : Int) := by omega
      have s1b : (a1 : Int) < 16 := by omega
      have s1c : IntKind.i64.wrap ((a1 : Int) + 1) = (a1 : Int) + 1 := wrap_small _ (by omega) (by omega)
      have s1d : ((a1 : Int) + 1).toNat = a1 + 1 := by omega
      have s1e : (a1 : Int) + 1 ≤ (d.size : Int) := by omega
      have s1g : a1 + 1 ≤ d.size := by omega
      have s1f := ext_one d a1 hl1 hd16
      have s2a : (0 : Int) ≤ (a2 : Int) := by omega
      have s2b : (a2 : Int) < 16 := by omega
      have s2c : IntKind.i64.wrap ((a2 : Int) + 1) = (a2 : Int) + 1 := wrap_small _ (by omega) (by omega)
      have s2d : ((a2 : Int) + 1).toNat = a2 + 1 := by omega
      have s2e : (a2 : Int) + 1 ≤ (d.size : Int) := by omega
      have s2g : a2 + 1 ≤ d.size := by omega
      have s2f := ext_one d a2 hl2 hd16
      have s3a : (0 : Int) ≤ (a3 : Int) := by omega
      have s3b : (a3 : Int) < 16 := by omega
      have s3c : IntKind.i64.wrap ((a3 : Int) + 1) = (a3 : Int) + 1 := wrap_small _ (by omega) (by omega)
      have s3d : ((a3 : Int) + 1).toNat = a3 + 1 := by omega
      have s3e : (a3 : Int) + 1 ≤ (d.size : Int) := by omega
      have s3g : a3 + 1 ≤ d.size := by omega
      have s3f := ext_one d a3 hl3 hd16
      have s4a : (0 : Int) ≤ (a4 : Int) := by omega
      have s4b : (a4 : Int) < 16 := by omega
      have s4c : IntKind.i64.wrap ((a4 : Int) + 1) = (a4 : Int) + 1 := wrap_small _ (by omega) (by omega)
      have s4d : ((a4 : Int) + 1).toNat = a4 + 1 := by omega
      have s4e : (a4 : Int) + 1 ≤ (d.size : Int) := by omega
      have s4g : a4 + 1 ≤ d.size := by omega
      have s4f := ext_one d a4 hl4 hd16
      have n0 : ¬ 9223372036854775805 < z.size := by omega
      have n1 : ¬ 9223372036854775804 < z.size := by omega
      have n2 : ¬ 9223372036854775803 < z.size := by omega
      have n3 : ¬ 9223372036854775802 < z.size := by omega
      have n4 : ¬ 9223372036854775801 < z.size := by omega
      have HA := Lib.hid (⟨ha1, ha2, ha3, ha4⟩ : a1 = x / 4096 ∧ a2 = x / 256 % 16 ∧ a3 = x / 16 % 16 ∧ a4 = x % 16)
      have HL := Lib.hid (⟨hl1, hl2, hl3, hl4⟩ : a1 < 16 ∧ a2 < 16 ∧ a3 < 16 ∧ a4 < 16)
      clear ha1 ha2 ha3 ha4 hl1 hl2 hl3 hl4
      go_quiet (fail)
      have R := pts_step hjx hz HZL.out HXX.out hbel HXE.out HA.out HL.out hd16 nq
      go_wp2
      go_roundw
      case rel => exact ⟨j + 1, _, by go_num, rfl, R⟩
      case measure => simp [intOf]; omega
    · have hjn : j = 1 := by omega
      subst hjn
      have hk65 := HBIG.out
      have hzk : z.data.toList = escB d k := by rw [hzl, HX.out]; simp
      have hzs : z.size = 6 := by have h1 := escB_len HDD.out hk65; rw [← hzk, Array.length_toList] at h1; exact h1
      have hq : ((⟨#[34]⟩ : ByteArray) ++ z ++ ⟨#[34]⟩).data.toList = 34 :: escB d k ++ [34] := by rw [← hzk]; simp
      have HQ := Lib.hid hq
      have HZS := Lib.hid hzs
      clear hk65 hzk hzs hq hzl hX hj2 hlt hj
      cases hsur : uSur k with
      | true =>
        have HN := Lib.hid (show uUnq ((⟨#[34]⟩ : ByteArray) ++ z ++ ⟨#[34]⟩).data.toList = none by rw [HQ.out]; exact one_half HDD.out HBIG.out hsur)
        have hsur2 : 55296 ≤ k ∧ k < 57344 := by simpa [uSur] using hsur
        have d1 : decide ((55296 : Int) ≤ (k : Int)) = true := by simp; omega
        have d2 : decide ((k : Int) < 57344) = true := by simp; omega
        clear hsur hsur2
        go_wp2_with fail
        refine (unquote_no _ _ (by simp only [ByteArray.size_append]; have : (⟨#[34]⟩ : ByteArray).size = 1 := rfl; omega) HN.out).mono ?_
        rintro e w2 ⟨rfl, hb2⟩
        have hB2 := hbel.trans (hb2.mono hbel.size)
        clear hb2 hbel
        go_wp2
        go_ret
        exact ⟨rfl, hB2⟩
      | false =>
        have HN := Lib.hid (show uUnq ((⟨#[34]⟩ : ByteArray) ++ z ++ ⟨#[34]⟩).data.toList = some ((⟨(uBytes k).toArray⟩ : ByteArray).data.toList, 8) by rw [HQ.out]; exact one_plain HDD.out HBIG.out hsur)
        have HSU := Lib.hid hsur
        clear hsur
        go_wp2_with fail
        refine (unquote_at _ ⟨(uBytes k).toArray⟩ 8 _ (by simp only [ByteArray.size_append]; have : (⟨#[34]⟩ : ByteArray).size = 1 := rfl; omega) HN.out).mono ?_
        rintro e w2 ⟨rfl, hb2⟩
        have hB2 := hbel.trans (hb2.mono hbel.size)
        clear hb2 hbel
        generalize hc0 : (k : Int) = c0
        have HC0 := Lib.hid hc0
        clear hc0
        have hz8 : ((8 : Int) == (z.size : Int) + 2) = true := by have := HZS.out; rw [this]; rfl
        go_wp2_with fail
        · exfalso
          have h1 : (55296 : Int) ≤ c0 := by assumption
          have h2 : c0 < 57344 := by assumption
          have h3 := HC0.out
          have h4 := HSU.out
          simp only [uSur, Bool.and_eq_false_iff, decide_eq_false_iff_not] at h4
          omega
        all_goals
          refine (pts_runes ⟨(uBytes k).toArray⟩ 1 _ (by show (uBytes k).toArray.size ≤ maxLen; have := uBytes_len k; rw [List.size_toArray]; unfold maxLen; omega) (by unfold uRunesI; rw [show (⟨(uBytes k).toArray⟩ : ByteArray).data.toList = uBytes k from rfl, uRunes_bytes k (by have := HK.out; omega) HSU.out]; rfl)).mono ?_
          rintro e w3 ⟨rfl, hb3⟩
          have hB3 := hB2.trans (hb3.mono hB2.size)
          clear hb3 hB2
          go_wp2
          go_ret
          refine ⟨ret_b ?_, hB3⟩
          have e : wrap32 c0 = (k : Int) := by rw [← HC0.out]; unfold wrap32; have := HK.out; omega
          rw [e, uBytes_is k (by have := HK.out; omega) HSU.out]
          simp

set_option maxRecDepth 100000 in
set_option maxHeartbeats 4000000 in
theorem pts_f1 (c : Int) (w : World) (k : Nat) (hk : k < 1114112) (hke : wrap64 ((IntKind.u64.wrap c).tmod 1114112) = (k : Int)) (hbig : 65536 ≤ k) :
    Calls Try.prog 7 #[.int .i64 c, .bool false] w fun e w' => e = .returned (.bool true) ∧ Below w.heap.size w w' := by
  have hdec : decide ((65536 : Int) ≤ wrap64 ((IntKind.u64.wrap c).tmod 1114112)) = true := by rw [hke]; simp; omega
  have HKE := Lib.hid hke
  have HK := Lib.hid hk
  have HBIG := Lib.hid hbig
  clear hke hk hbig
  go_enter Try.func7, Try.ntmps7
  go_wp2_with fail
  refine (awake_true _).mono ?_
  rintro e w1 ⟨rfl, hb1⟩
  go_wp2_with fail
  rw [HKE.out]
  rw [pts_e1 k HBIG.out HK.out, pts_e2 (k - 65536) (by have := HK.out; omega), pts_e3 (k - 65536) (by have := HK.out; omega), pts_e4 (k - 65536)]
  have hX : IntsAt ((w1.alloc (.cells #[.int .i64 (k : Int)] 3)).alloc (.cells #[.int .i64 ((55296 + (k - 65536) / 1024 : Nat) : Int), .int .i64 ((56320 + (k - 65536) % 1024 : Nat) : Int)] 3)) (w1.heap.size + 1) [55296 + (k - 65536) / 1024, 56320 + (k - 65536) % 1024] := by
    have := IntsAt.new (w1.alloc (.cells #[.int .i64 (k : Int)] 3)) [55296 + (k - 65536) / 1024, 56320 + (k - 65536) % 1024]
    rw [World.size_alloc] at this; exact this
  have hbW : Below w.heap.size w ((w1.alloc (.cells #[.int .i64 (k : Int)] 3)).alloc (.cells #[.int .i64 ((55296 + (k - 65536) / 1024 : Nat) : Int), .int .i64 ((56320 + (k - 65536) % 1024 : Nat) : Int)] 3)) := (hb1.alloc hb1.size _).alloc (by simp; have := hb1.size; omega) _
  generalize ((w1.alloc (.cells #[.int .i64 (k : Int)] 3)).alloc (.cells #[.int .i64 ((55296 + (k - 65536) / 1024 : Nat) : Int), .int .i64 ((56320 + (k - 65536) % 1024 : Nat) : Int)] 3)) = W0 at hX hbW ⊢
  generalize w1.heap.size + 1 = B at hX ⊢
  have hXs : ∀ x ∈ [55296 + (k - 65536) / 1024, 56320 + (k - 65536) % 1024], x < 65536 := by
    have h1 := HK.out
    have h2 := HBIG.out
    intro x hx
    simp only [List.mem_cons, List.not_mem_nil, or_false] at hx
    omega
  obtain ⟨X, hXe⟩ : ∃ X, X = [55296 + (k - 65536) / 1024, 56320 + (k - 65536) % 1024] := ⟨_, rfl⟩
  have hXl : X.length = 2 := by rw [hXe]; rfl
  rw [← hXe] at hX hXs
  have HX := Lib.hid hXe
  have HXS := Lib.hid hXs
  have HXL := Lib.hid hXl
  clear hXe hXs hXl hb1
  generalize hdg : (⟨#[48, 49, 50, 51, 52, 53, 54, 55, 56, 57, 97, 98, 99, 100, 101, 102]⟩ : ByteArray) = d
  have hd16 : 16 ≤ d.size := by rw [← hdg]; decide
  have HDD := Lib.hid (show Digs d by rw [← hdg]; exact digs_low)
  have HDG := Lib.hid hdg
  clear hdg hdec
  go_loopw [7, 8] (fun sv i wr => ∃ (j : Nat) (z : ByteArray), i = .int .i64 j ∧ sv = .string z ∧ PtsRel d X B w j z wr) (fun _ i _ => 2 - (intOf i).toNat)
  case atStart => exact ⟨0, ⟨#[]⟩, rfl, rfl, by omega, by decide, rfl, hX, hbW⟩
  case round =>
    clear hX hbW
    obtain ⟨j, z, rfl, rfl, hj, hz, hzl, hX, hbel⟩ := hrel
    have hj2 : j ≤ 2 := by have := HXL.out; omega
    by_cases hlt : j < 2
    · have hlt' : (j : Int) < 2 := by omega
      have hjx : j < X.length := by rw [HXL.out]; exact hlt
      have hcell := hX.cell j hjx
      have hx65 := HXS.out X[j] (List.getElem_mem hjx)
      obtain ⟨x, hxe⟩ : ∃ x, x = X[j] := ⟨_, rfl⟩
      rw [← hxe] at hcell hx65
      have HXE := Lib.hid hxe
      have HZL := Lib.hid hzl
      have HXX := Lib.hid hX
      have HX65 := Lib.hid hx65
      clear hxe hzl hX hx65 hj
      go_wp2_with fail
      have b0 : (0 : Int) ≤ (j : Int) := by omega
      obtain ⟨a1, ha1⟩ : ∃ a1 : Nat, a1 = x / 4096 := ⟨_, rfl⟩
      obtain ⟨a2, ha2⟩ : ∃ a2 : Nat, a2 = x / 256 % 16 := ⟨_, rfl⟩
      obtain ⟨a3, ha3⟩ : ∃ a3 : Nat, a3 = x / 16 % 16 := ⟨_, rfl⟩
      obtain ⟨a4, ha4⟩ : ∃ a4 : Nat, a4 = x % 16 := ⟨_, rfl⟩
      have hl1 : a1 < 16 := by have := HX65.out; omega
      have hl2 : a2 < 16 := by omega
      have hl3 : a3 < 16 := by omega
      have hl4 : a4 < 16 := by omega
      have c1 : (x : Int) / 4096 = (a1 : Int) := by omega
      have c3 : bits .and .i64 ((x : Int) / 256) 15 = (a2 : Int) := by
        have e := mask15 (x / 256) (by have := HX65.out; omega)
        rw [show ((x / 256 : Nat) : Int) = (x : Int) / 256 by omega] at e
        rw [e, ha2]
      have c4 : bits .and .i64 ((x : Int) / 16) 15 = (a3 : Int) := by
        have e := mask15 (x / 16) (by have := HX65.out; omega)
        rw [show ((x / 16 : Nat) : Int) = (x : Int) / 16 by omega] at e
        rw [e, ha3]
      have c5 : bits .and .i64 (x : Int) 15 = (a4 : Int) := by
        have e := mask15 x (by have := HX65.out; omega)
        rw [e, ha4]
      have s1a : (0 : Int) ≤ (a1 : Int) := by omega
      have s1b : (a1 : Int) < 16 := by omega
      have s1c : IntKind.i64.wrap ((a1 : Int) + 1) = (a1 : Int) + 1 := wrap_small _ (by omega) (by omega)
      have s1d : ((a1 : Int) + 1).toNat = a1 + 1 := by omega
      have s1e : (a1 : Int) + 1 ≤ (d.size : Int) := by omega
      have s1g : a1 + 1 ≤ d.size := by omega
      have s1f := ext_one d a1 hl1 hd16
      have s2a : (0 : Int) ≤ (a2 : Int) := by omega
      have s2b : (a2 : Int) < 16 := by omega
      have s2c : IntKind.i64.wrap ((a2 : Int) + 1) = (a2 : Int) + 1 := wrap_small _ (by omega) (by omega)
      have s2d : ((a2 : Int) + 1).toNat = a2 + 1 := by omega
      have s2e : (a2 : Int) + 1 ≤ (d.size : Int) := by omega
      have s2g : a2 + 1 ≤ d.size := by omega
      have s2f := ext_one d a2 hl2 hd16
      have s3a : (0 : Int) ≤ (a3 : Int) := by omega
      have s3b : (a3 : Int) < 16 := by omega
      have s3c : IntKind.i64.wrap ((a3 : Int) + 1) = (a3 : Int) + 1 := wrap_small _ (by omega) (by omega)
      have s3d : ((a3 : Int) + 1).toNat = a3 + 1 := by omega
      have s3e : (a3 : Int) + 1 ≤ (d.size : Int) := by omega
      have s3g : a3 + 1 ≤ d.size := by omega
      have s3f := ext_one d a3 hl3 hd16
      have s4a : (0 : Int) ≤ (a4 : Int) := by omega
      have s4b : (a4 : Int) < 16 := by omega
      have s4c : IntKind.i64.wrap ((a4 : Int) + 1) = (a4 : Int) + 1 := wrap_small _ (by omega) (by omega)
      have s4d : ((a4 : Int) + 1).toNat = a4 + 1 := by omega
      have s4e : (a4 : Int) + 1 ≤ (d.size : Int) := by omega
      have s4g : a4 + 1 ≤ d.size := by omega
      have s4f := ext_one d a4 hl4 hd16
      have n0 : ¬ 9223372036854775805 < z.size := by omega
      have n1 : ¬ 9223372036854775804 < z.size := by omega
      have n2 : ¬ 9223372036854775803 < z.size := by omega
      have n3 : ¬ 9223372036854775802 < z.size := by omega
      have n4 : ¬ 9223372036854775801 < z.size := by omega
      have HA := Lib.hid (⟨ha1, ha2, ha3, ha4⟩ : a1 = x / 4096 ∧ a2 = x / 256 % 16 ∧ a3 = x / 16 % 16 ∧ a4 = x % 16)
      have HL := Lib.hid (⟨hl1, hl2, hl3, hl4⟩ : a1 < 16 ∧ a2 < 16 ∧ a3 < 16 ∧ a4 < 16)
      clear ha1 ha2 ha3 ha4 hl1 hl2 hl3 hl4
      go_quiet (fail)
      have R := pts_step hjx hz HZL.out HXX.out hbel HXE.out HA.out HL.out hd16 nq
      go_wp2
      go_roundw
      case rel => exact ⟨j + 1, _, by go_num, rfl, R⟩
      case measure => simp [intOf]; omega
    · have hjn : j = 2 := by omega
      subst hjn
      have hk65 := HBIG.out
      have hk11 := HK.out
      have hzk : z.data.toList = escB d (55296 + (k - 65536) / 1024) ++ escB d (56320 + (k - 65536) % 1024) := by rw [hzl, HX.out]; simp
      have hzs : z.size = 12 := by
        have h1 := escB_len HDD.out (x := 55296 + (k - 65536) / 1024) (by omega)
        have h2 := escB_len HDD.out (x := 56320 + (k - 65536) % 1024) (by omega)
        have h3 := congrArg List.length hzk
        rw [List.length_append, h1, h2, Array.length_toList] at h3; exact h3
      have hq : ((⟨#[34]⟩ : ByteArray) ++ z ++ ⟨#[34]⟩).data.toList = 34 :: (escB d (55296 + (k - 65536) / 1024) ++ escB d (56320 + (k - 65536) % 1024)) ++ [34] := by rw [← hzk]; simp
      have HSU := Lib.hid (show uSur k = false by simp only [uSur, Bool.and_eq_false_iff, decide_eq_false_iff_not]; omega)
      have HN := Lib.hid (show uUnq ((⟨#[34]⟩ : ByteArray) ++ z ++ ⟨#[34]⟩).data.toList = some ((⟨(uBytes k).toArray⟩ : ByteArray).data.toList, 14) by
        rw [hq]
        have := two_pair HDD.out (m := k - 65536) (by omega)
        rw [show 65536 + (k - 65536) = k by omega] at this
        exact this)
      have HZS := Lib.hid hzs
      clear hk65 hk11 hzk hzs hq hzl hX hj2 hlt hj
      go_wp2_with fail
      refine (unquote_at _ ⟨(uBytes k).toArray⟩ 14 _ (by simp only [ByteArray.size_append]; have : (⟨#[34]⟩ : ByteArray).size = 1 := rfl; omega) HN.out).mono ?_
      rintro e w2 ⟨rfl, hb2⟩
      have hB2 := hbel.trans (hb2.mono hbel.size)
      clear hb2 hbel
      generalize hc0 : (k : Int) = c0
      have HC0 := Lib.hid hc0
      clear hc0
      have hz8 : ((14 : Int) == (z.size : Int) + 2) = true := by have := HZS.out; rw [this]; rfl
      go_wp2_with fail
      · exfalso
        have h1 : (55296 : Int) ≤ c0 := by assumption
        have h2 : c0 < 57344 := by assumption
        have h3 := HC0.out
        have h4 := HSU.out
        simp only [uSur, Bool.and_eq_false_iff, decide_eq_false_iff_not] at h4
        omega
      all_goals
        refine (pts_runes ⟨(uBytes k).toArray⟩ 1 _ (by show (uBytes k).toArray.size ≤ maxLen; have := uBytes_len k; rw [List.size_toArray]; unfold maxLen; omega) (by unfold uRunesI; rw [show (⟨(uBytes k).toArray⟩ : ByteArray).data.toList = uBytes k from rfl, uRunes_bytes k (by have := HK.out; omega) HSU.out]; rfl)).mono ?_
        rintro e w3 ⟨rfl, hb3⟩
        have hB3 := hB2.trans (hb3.mono hB2.size)
        clear hb3 hB2
        go_wp2
        go_ret
        refine ⟨ret_b ?_, hB3⟩
        have e : wrap32 c0 = (k : Int) := by rw [← HC0.out]; unfold wrap32; have := HK.out; omega
        rw [e, uBytes_is k (by have := HK.out; omega) HSU.out]
        simp


theorem points_true (c : Int) (g : Bool) (w : World) (_hc : (Lit.int .i64 c).wf = true) :
    Calls Try.prog 7 #[.int .i64 c, .bool g] w fun e w' => e = .returned (.bool true) ∧ Below w.heap.size w w' := by
  obtain ⟨k, hk, hke⟩ := pts_is c
  by_cases hb : k < 65536
  · cases g with
    | true => exact pts_t0 c w k hk hke hb
    | false => exact pts_f0 c w k hk hke hb
  · cases g with
    | true => exact pts_t1 c w k hk hke (by omega)
    | false => exact pts_f1 c w k hk hke (by omega)

theorem points_own : ownKnob Try.prog.godebug = none := by kernel_rfl

set_option maxRecDepth 100000 in
theorem points_lifted (os : Os) (started : os.Started) (H : Type) (enc : TypeId × Value → H) :
    ReturnsInHanded {} Try.checked os 7 .any (Rows.utfPointsSpec.pre6 enc Try.prog Try.f7 Rows.utfPointsRow.domain false) (Rows.utfPointsSpec.post enc Try.prog Try.f7 false true false false) := by
  refine returnsInHanded_of_change (C := Try.checked) points_own started (by kernel_rfl) Try.func7
    (ChangeSpec.witness6 (enc := enc) (C := Try.checked) false ⟨#[], #[.int .i64 0, .bool false], []⟩ 8 (by kernel_rfl) (by kernel_rfl) (by kernel_rfl) (by kernel_rfl)) ?_
  intro W base args ds gs before hval0 hW hcnd _
  have hval : ∀ (j : Nat) t v, Try.f7.params[j]? = some t → args[j]? = some v → Value.okWide Try.prog W .any base t v := hval0
  have hW' := hW
  obtain ⟨p, q, hA0, hV, rfl, hfz, hnd⟩ := hW
  have hA : DataW.TrodAll enc Try.prog W 0 (fun _ => true) true Try.f7.params.toList args.toList ds p := hA0
  rw [Try.params7] at hA hval
  obtain ⟨v0, vs0, d0, ds0, p0, q0, hargs, rfl, rfl, h0, r0⟩ := trodAll_cons hA
  obtain ⟨v1, vs1, d1, ds1, p1, q1, rfl, rfl, rfl, h1, r1⟩ := trodAll_cons r0
  obtain ⟨rfl, rfl, rfl⟩ := trodAll_nil r1
  obtain rfl : args = #[v0, v1] := by cases args; simp_all
  obtain ⟨rfl, rfl⟩ := trodVars_none hV
  obtain ⟨a0, rfl, rfl, rfl, w0⟩ := open_int Try.underlying3 (hval 0 3 v0 rfl rfl) h0
  obtain ⟨a1, rfl, rfl, rfl⟩ := open_bool Try.underlying4 (hval 1 4 v1 rfl rfl) h1
  clear hA0 hval0
  simp only [List.append_nil] at hW'
  refine (points_true a0 a1 W w0).mono fun e W' ⟨he, bel⟩ => ?_
  subst he
  exact ⟨_, rfl, _, _, _, [], [], [], hW', trodAll_mk1 (shut_bool Try.underlying4 _), (trodAll_cons_mk (shut_int Try.underlying3 w0) (trodAll_cons_mk (shut_bool Try.underlying4 _) trodAll_mk0)), rfl, bel.frame _, fun h => by cases h⟩

theorem points_holds : Rows.UtfPointsSaid :=
  OpenClaim.holds_of_wide 7 Try.f7 rfl rfl rfl rfl rfl rfl rfl ⟨rfl, rfl, rfl, rfl, rfl⟩ rfl rfl rfl rfl rfl (by kernel_rfl) Try.func7 (by kernel_rfl)
    (of_decide_eq_true (by kernel_rfl)) (by unfold Func.isWrapper; first | (rw [if_pos (by decide +kernel)]; kernel_rfl) | (rw [if_neg (by decide +kernel)]; exact ⟨rfl, rfl⟩))
    (fun os started H enc _ => points_lifted os started H enc)
#print axioms points_holds

end Go.Proofs.Ytomdkkmfgeajgaa
