/-
  What package b64 puts.
  Conditions: none.
-/
import Derived.Test.YtnbonoallcjlbaaBaC
namespace Go.Proofs.Ytnbonoallcjlbaa
open Go.RowKit

/-- The sixes that m bits of lf still hold. -/
def em (m : Nat) (lf : Nat) : List Nat :=
  if lf = 12 then [m / 64 % 64, m % 64] else if lf = 10 then [m / 16 % 64] else if lf = 8 then [m / 4 % 64] else if lf = 6 then [m % 64] else []
theorem em_len (m lf : Nat) : (em m lf).length ≤ 2 := by
  unfold em
  repeat' split
  all_goals simp
theorem wraps_u32 (n : Int) (h₀ : 0 ≤ n) (h₁ : n < 2 ^ 32) : IntKind.u32.wrap n = n := by rw [IntKind.wrap_u32]; omega
theorem or8 (m x : Nat) (hx : x < 256) : bits .or .u32 ((m : Int) * 256 % 4294967296) (x : Int) = ((m * 256 % 4294967296 + x : Nat) : Int) := by
  rw [bits_join .u32 32 (by decide) wraps_u32 8 _ _ (by omega) (by omega) (by omega) (by omega) (by omega) (by omega)]
  omega
theorem ex_step (lf m M : Nat) (x : UInt8) (r : List UInt8) (hlf : lf = 0 ∨ lf = 2 ∨ lf = 4) (hM : m * 256 % 4294967296 + x.toNat = M) : ex lf (m % 2 ^ lf) (x :: r) = em M (lf + 8) ++ ex ((lf + 8) % 6) (M % 2 ^ ((lf + 8) % 6)) r := by
  have hx := x.toNat_lt
  rcases hlf with rfl | rfl | rfl
  · show x.toNat / 4 :: ex 2 (x.toNat % 4) r = (M / 4 % 64) :: ex 2 (M % 2 ^ 2) r
    rw [show M / 4 % 64 = x.toNat / 4 by omega, show M % 2 ^ 2 = x.toNat % 4 by omega]
  · show (m % 2 ^ 2 * 16 + x.toNat / 16) :: ex 4 (x.toNat % 16) r = (M / 16 % 64) :: ex 4 (M % 2 ^ 4) r
    rw [show M / 16 % 64 = m % 2 ^ 2 * 16 + x.toNat / 16 by omega, show M % 2 ^ 4 = x.toNat % 16 by omega]
  · show (m % 2 ^ 4 * 4 + x.toNat / 64) :: x.toNat % 64 :: ex 0 0 r = (M / 64 % 64) :: M % 64 :: ex 0 (M % 2 ^ 0) r
    rw [show M / 64 % 64 = m % 2 ^ 4 * 4 + x.toNat / 64 by omega, show M % 64 = x.toNat % 64 by omega, ex_en, ex_en]
theorem end_step {u : Bool} {lf lf' m M k : Nat} {x : UInt8} {acc a' T l : List UInt8} (hlf : lf = 0 ∨ lf = 2 ∨ lf = 4) (hM : m * 256 % 4294967296 + x.toNat = M) (hk : k < l.length) (hx : l[k] = x) (hgo : acc ++ (ex lf (m % 2 ^ lf) (l.drop k)).map (sg u) = T) (hlf' : lf' = (lf + 8) % 6) (ha : a' = acc ++ (em M (lf + 8)).map (sg u)) :
    a' ++ (ex lf' (M % 2 ^ lf') (l.drop (k + 1))).map (sg u) = T := by
  rw [List.drop_eq_getElem_cons hk, hx, ex_step lf m M x _ hlf hM] at hgo
  subst hlf'
  rw [ha, ← hgo, List.map_append, List.append_assoc]
/-- The inner loop's place. -/
def Inn (u : Bool) (s : ByteArray) (b B : Nat) (w : World) (M lf : Nat) (acc : List UInt8) (lf' : Nat) (a' : List UInt8) (wq : World) : Prop :=
  (lf' = 12 ∨ lf' = 10 ∨ lf' = 8 ∨ lf' = 6 ∨ lf' = 4 ∨ lf' = 2 ∨ lf' = 0) ∧ lf' % 6 = (lf + 8) % 6 ∧ TB wq b B s a' ∧ BelowX B b w wq ∧ a' ++ (em M lf').map (sg u) = acc ++ (em M (lf + 8)).map (sg u)
set_option maxRecDepth 100000 in
set_option maxHeartbeats 2000000 in
theorem eachSix_any (u : Bool) (s : ByteArray) (b B : Nat) (v : Value) (l xs : List UInt8) (w : World) (hs : s = ⟨(al u).toArray⟩) (hb : b < B) (hB : B ≤ w.heap.size) (hlen : l.length + xs.length ≤ 100000) (hl : Bys w v l) (hlow : ∀ g off len cap, 0 < len → v = .slice (some ⟨g, off, none⟩) len cap → g < B ∧ g ≠ b) (h : TB w b B s xs) :
    Calls Try.prog 19 #[v, .func (.func 20) #[.pointer (some ⟨b, 0, none⟩)] #[]] w fun e w' => e = .returned (.tuple #[]) ∧ TB w' b B s (xs ++ put u l) ∧ BelowX B b w w' := by
  obtain ⟨ao, cap, rfl, _, hao⟩ := hl
  have HAO := Lib.hid hao
  have HT := Lib.hid h
  have HS := Lib.hid hs
  have HLOW := Lib.hid hlow
  have HLEN := Lib.hid hlen
  have hll : l.length ≤ 100000 := by omega
  clear hao h hs hlow hlen
  go_enter Try.func19, Try.ntmps19
  go_wp2_with fail
  go_loopw [4, 5, 10] (fun bv lv iv wr => ∃ (m lf k : Nat) (acc : List UInt8), bv = .int .u32 m ∧ lv = .int .i64 lf ∧ iv = .int .i64 k ∧ k ≤ l.length ∧ m < 4294967296 ∧ (lf = 0 ∨ lf = 2 ∨ lf = 4) ∧ TB wr b B s acc ∧ acc.length ≤ xs.length + 2 * k ∧ BelowX B b w wr ∧ acc ++ (ex lf (m % 2 ^ lf) (l.drop k)).map (sg u) = xs ++ put u l) (fun _ _ i _ => l.length - (intOf i).toNat)
  case atStart => exact ⟨0, 0, 0, xs, rfl, rfl, rfl, Nat.zero_le _, by decide, .inl rfl, HT.out, by simp, BelowX.refl _ _ _, by rw [List.drop_zero]; simp only [Nat.zero_mod]; rw [ex_en]; rfl⟩
  case round =>
    obtain ⟨m, lf, k, acc, rfl, rfl, rfl, hk, hm, hlf, htb, hacc, hbel, hgo⟩ := hrel
    have HGO := Lib.hid hgo
    have HTB := Lib.hid htb
    have HBEL := Lib.hid hbel
    have HLF := Lib.hid hlf
    have HACC := Lib.hid hacc
    clear hgo htb hbel hlf hacc HT
    by_cases hlt : k < l.length
    · have hlt' : (k : Int) < (l.length : Int) := by omega
      obtain ⟨g, off, rfl, hg, hcell⟩ : ∃ g off, ao = some ⟨g, off, none⟩ ∧ g < w.heap.size ∧ ∀ i (h : i < l.length), w.cell? ⟨g, off + i, none⟩ = some (.int .u8 (l[i].toNat : Int)) := by
        rcases HAO.out with rfl | h
        · simp at hlt
        · exact h
      have hce : wr.cell? ⟨g, off + k, none⟩ = some (.int .u8 (l[k].toNat : Int)) := by
        have := HLOW.out g off _ _ (by omega) rfl
        rw [World.cell?_of_block (HBEL.out.block g this.1 this.2)]
        exact hcell k hlt
      clear hcell HAO HLOW
      generalize hx : l[k] = x at hce
      have HX := Lib.hid hx
      have hx8 := x.toNat_lt
      clear hx
      have hor := or8 m x.toNat hx8
      obtain ⟨M, hM⟩ : ∃ M, m * 256 % 4294967296 + x.toNat = M := ⟨_, rfl⟩
      rw [hM] at hor
      have HM := Lib.hid hM
      have hM2 : M < 4294967296 := by omega
      have hlf4 : lf ≤ 4 := by have := HLF.out; omega
      clear hM
      go_wp2_with fail
      go_loopw [5] (fun lv wq => ∃ (lf' : Nat) (a' : List UInt8), lv = .int .i64 lf' ∧ Inn u s b B w M lf acc lf' a' wq) (fun lv _ => (intOf lv).toNat)
      case atStart => exact ⟨lf + 8, acc, rfl, by have := HLF.out; omega, rfl, HTB.out, HBEL.out, rfl⟩
      case round =>
        obtain ⟨lf', a', rfl, hin⟩ := hrel
        obtain ⟨hl7, hmod, htb, hbel, heq⟩ := hin
        have HEQ := Lib.hid heq
        have HTB' := Lib.hid htb
        have HBEL' := Lib.hid hbel
        have HMOD := Lib.hid hmod
        have HLA := Lib.hid (show a'.length ≤ 1000000 by
          have h1 := congrArg List.length heq
          have h2 := em_len M (lf + 8)
          have h3 := HACC.out
          have h4 := HLEN.out
          simp only [List.length_append, List.length_map] at h1
          omega)
        have HBW := Lib.hid (show B ≤ wr.heap.size from Nat.le_trans hB hbel.size)
        clear htb hbel heq hmod hor
        rcases hl7 with rfl | rfl | rfl | rfl | rfl | rfl | rfl
        · have HEM := Lib.hid (show em M 12 = (M / 64 % 64) :: em M 6 from rfl)
          go_wp2_with fail
          refine (add_any u s b B (M / 64 % 64) _ a' wr HS.out (by omega) (by omega) hb HBW.out HLA.out HTB'.out).mono ?_
          rintro e w1 ⟨rfl, htb1, hbel1⟩
          have HTB1 := Lib.hid htb1
          have HBEL1 := Lib.hid (HBEL'.out.trans hbel1)
          clear htb1 hbel1
          go_wp2
          go_roundw
          case rel =>
            refine ⟨6, _, rfl, by decide, HMOD.out, HTB1.out, HBEL1.out, ?_⟩
            rw [← HEQ.out, HEM.out, List.map_cons, List.append_assoc]; rfl
          case measure => simp [intOf]
        · have HEM := Lib.hid (show em M 10 = (M / 16 % 64) :: em M 4 from rfl)
          go_wp2_with fail
          refine (add_any u s b B (M / 16 % 64) _ a' wr HS.out (by omega) (by omega) hb HBW.out HLA.out HTB'.out).mono ?_
          rintro e w1 ⟨rfl, htb1, hbel1⟩
          have HTB1 := Lib.hid htb1
          have HBEL1 := Lib.hid (HBEL'.out.trans hbel1)
          clear htb1 hbel1
          go_wp2
          go_roundw
          case rel =>
            refine ⟨4, _, rfl, by decide, HMOD.out, HTB1.out, HBEL1.out, ?_⟩
            rw [← HEQ.out, HEM.out, List.map_cons, List.append_assoc]; rfl
          case measure => simp [intOf]
        · have HEM := Lib.hid (show em M 8 = (M / 4 % 64) :: em M 2 from rfl)
          go_wp2_with fail
          refine (add_any u s b B (M / 4 % 64) _ a' wr HS.out (by omega) (by omega) hb HBW.out HLA.out HTB'.out).mono ?_
          rintro e w1 ⟨rfl, htb1, hbel1⟩
          have HTB1 := Lib.hid htb1
          have HBEL1 := Lib.hid (HBEL'.out.trans hbel1)
          clear htb1 hbel1
          go_wp2
          go_roundw
          case rel =>
            refine ⟨2, _, rfl, by decide, HMOD.out, HTB1.out, HBEL1.out, ?_⟩
            rw [← HEQ.out, HEM.out, List.map_cons, List.append_assoc]; rfl
          case measure => simp [intOf]
        · have HEM := Lib.hid (show em M 6 = (M % 64) :: em M 0 from rfl)
          go_wp2_with fail
          refine (add_any u s b B (M % 64) _ a' wr HS.out (by omega) (by omega) hb HBW.out HLA.out HTB'.out).mono ?_
          rintro e w1 ⟨rfl, htb1, hbel1⟩
          have HTB1 := Lib.hid htb1
          have HBEL1 := Lib.hid (HBEL'.out.trans hbel1)
          clear htb1 hbel1
          go_wp2
          go_roundw
          case rel =>
            refine ⟨0, _, rfl, by decide, HMOD.out, HTB1.out, HBEL1.out, ?_⟩
            rw [← HEQ.out, HEM.out, List.map_cons, List.append_assoc]; rfl
          case measure => simp [intOf]
        · have HEM := Lib.hid (show em M 4 = [] from rfl)
          have HA := Lib.hid (show a' = acc ++ (em M (lf + 8)).map (sg u) by rw [← HEQ.out, HEM.out]; simp)
          go_wp2
          go_roundw
          case rel =>
            refine ⟨M, 4, k + 1, a', rfl, rfl, rfl, hlt, hM2, by decide, HTB'.out, ?_, HBEL'.out, end_step HLF.out HM.out hlt HX.out HGO.out HMOD.out HA.out⟩
            have h2 := em_len M (lf + 8)
            have h3 := HACC.out
            rw [HA.out]
            simp only [List.length_append, List.length_map]
            omega
          case measure => simp [intOf]; omega
        · have HEM := Lib.hid (show em M 2 = [] from rfl)
          have HA := Lib.hid (show a' = acc ++ (em M (lf + 8)).map (sg u) by rw [← HEQ.out, HEM.out]; simp)
          go_wp2
          go_roundw
          case rel =>
            refine ⟨M, 2, k + 1, a', rfl, rfl, rfl, hlt, hM2, by decide, HTB'.out, ?_, HBEL'.out, end_step HLF.out HM.out hlt HX.out HGO.out HMOD.out HA.out⟩
            have h2 := em_len M (lf + 8)
            have h3 := HACC.out
            rw [HA.out]
            simp only [List.length_append, List.length_map]
            omega
          case measure => simp [intOf]; omega
        · have HEM := Lib.hid (show em M 0 = [] from rfl)
          have HA := Lib.hid (show a' = acc ++ (em M (lf + 8)).map (sg u) by rw [← HEQ.out, HEM.out]; simp)
          go_wp2
          go_roundw
          case rel =>
            refine ⟨M, 0, k + 1, a', rfl, rfl, rfl, hlt, hM2, by decide, HTB'.out, ?_, HBEL'.out, end_step HLF.out HM.out hlt HX.out HGO.out HMOD.out HA.out⟩
            have h2 := em_len M (lf + 8)
            have h3 := HACC.out
            rw [HA.out]
            simp only [List.length_append, List.length_map]
            omega
          case measure => simp [intOf]; omega
    · have hlt' : ¬ (k : Int) < (l.length : Int) := by omega
      have HD := Lib.hid (show l.drop k = [] from List.drop_eq_nil_of_le (by omega))
      have HBW := Lib.hid (show B ≤ wr.heap.size from Nat.le_trans hB HBEL.out.size)
      have HLA := Lib.hid (show acc.length ≤ 1000000 by
        have h3 := HACC.out
        have h4 := HLEN.out
        omega)
      clear HAO HLOW
      rcases HLF.out with rfl | rfl | rfl
      · have HA := Lib.hid (show acc = xs ++ put u l by rw [← HGO.out, HD.out]; simp [ex])
        go_wp2
        go_end0
        exact ⟨rfl, HA.out ▸ HTB.out, HBEL.out⟩
      · have HA := Lib.hid (show acc ++ [sg u (m % 4 * 16)] = xs ++ put u l by rw [← HGO.out, HD.out]; simp [ex])
        go_wp2_with fail
        refine (add_any u s b B (m % 4 * 16) _ acc wr HS.out (by omega) (by omega) hb HBW.out HLA.out HTB.out).mono ?_
        rintro e w1 ⟨rfl, htb1, hbel1⟩
        rw [HA.out] at htb1
        have HTB1 := Lib.hid htb1
        have HBEL1 := Lib.hid (HBEL.out.trans hbel1)
        clear htb1 hbel1
        go_wp2
        go_end0
        exact ⟨rfl, HTB1.out, HBEL1.out⟩
      · have HA := Lib.hid (show acc ++ [sg u (m % 16 * 4)] = xs ++ put u l by rw [← HGO.out, HD.out]; simp [ex])
        go_wp2_with fail
        refine (add_any u s b B (m % 16 * 4) _ acc wr HS.out (by omega) (by omega) hb HBW.out HLA.out HTB.out).mono ?_
        rintro e w1 ⟨rfl, htb1, hbel1⟩
        rw [HA.out] at htb1
        have HTB1 := Lib.hid htb1
        have HBEL1 := Lib.hid (HBEL.out.trans hbel1)
        clear htb1 hbel1
        go_wp2
        go_end0
        exact ⟨rfl, HTB1.out, HBEL1.out⟩
end Go.Proofs.Ytnbonoallcjlbaa
