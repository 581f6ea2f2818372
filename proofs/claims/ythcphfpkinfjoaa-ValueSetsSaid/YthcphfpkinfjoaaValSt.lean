/-
  Go's stable sort of members by their keys, in place, of any number of them.
  Conditions: none.
-/
import Derived.Test.YthcphfpkinfjoaaValSmD
import Derived.Test.YthcphfpkinfjoaaValC
namespace Go.Proofs.Ythcphfpkinfjoaa
open Go.RowKit

theorem mergesBelow (enc : Nat → Nat → Value) (key : Nat → ByteArray) (N : Nat) (hE : Mems enc key N) (g cap len : Nat) (hN : len ≤ 1000000) : ∀ n, MergesBelow enc key N g cap len n := by
  intro n
  induction n with
  | zero => intro X Y h; omega
  | succ n ih =>
    intro X Y hn hX hY sX sY hXY
    by_cases hlt : X.length + Y.length < n
    · exact ih X Y hlt hX hY sX sY hXY
    · have e : n = X.length + Y.length := by omega
      subst e
      intro P Q w hlt hrow hlen a m b ha hm hb
      by_cases hX1 : X.length = 1
      · match X, hX1 with
        | [x], _ =>
          exact symMerge_A enc key N hE g cap len P x Y Q w (by simpa using hlt) (by simpa using hrow) (by simpa using hlen) hN sY (fun y hy => hXY x (by simp) y hy) a m b ha (by simpa using hm) (by simpa using hb)
      · by_cases hY1 : Y.length = 1
        · match Y, hY1 with
          | [y], _ =>
            exact symMerge_B enc key N hE g cap len P X y Q w (by simpa using hlt) (by simpa using hrow) (by simpa using hlen) hN sX (fun x hx => hXY x hx y (by simp)) hX1 a m b ha hm (by simpa using hb)
        · by_cases hgt : (X.length + Y.length) / 2 < X.length
          · exact symMerge_C1 enc key N hE g cap len P X Y Q w hlt hrow hlen hN sX sY hXY (by omega) (by omega) hgt ih a m b ha hm hb
          · exact symMerge_C2 enc key N hE g cap len P X Y Q w hlt hrow hlen hN sX sY hXY (by omega) (by omega) hgt ih a m b ha hm hb

/-- The merge, its bounds as they stand at a call. -/
theorem merge_at (enc : Nat → Nat → Value) (key : Nat → ByteArray) (N : Nat) (hE : Mems enc key N) (g cap len : Nat) (hN : len ≤ 1000000) (X Y P Q : List Nat) (w : World) (hX : 0 < X.length) (hY : 0 < Y.length) (sX : X.Pairwise (sl key)) (sY : Y.Pairwise (sl key)) (hXY : ∀ x ∈ X, ∀ y ∈ Y, x < y)
    (hlt : ∀ z ∈ P ++ (X ++ (Y ++ Q)), z < N) (hrow : RowOwn w g cap enc (P ++ (X ++ (Y ++ Q)))) (hlen : (P ++ (X ++ (Y ++ Q))).length = len) (av mv bv : Int) (ha : av = P.length) (hm : mv = P.length + X.length) (hb : bv = P.length + X.length + Y.length) :
    Calls Try.prog 87 #[.slice (some ⟨g, 0, none⟩) len cap, .int .i64 av, .int .i64 mv, .int .i64 bv, .func (.func 37) #[] #[]] w fun e w' => e = .returned (.tuple #[]) ∧ But g w w' ∧ ∃ Z, Z.Perm (X ++ Y) ∧ Z.Pairwise (sl key) ∧ RowOwn w' g cap enc (P ++ (Z ++ Q)) := by
  obtain rfl : av = ((P.length : Nat) : Int) := ha
  obtain rfl : mv = ((P.length + X.length : Nat) : Int) := by omega
  obtain rfl : bv = ((P.length + X.length + Y.length : Nat) : Int) := by omega
  exact mergesBelow enc key N hE g cap len hN (X.length + Y.length + 1) X Y (by omega) hX hY sX sY hXY P Q w hlt hrow hlen _ _ _ rfl rfl rfl
theorem isort_at (enc : Nat → Nat → Value) (key : Nat → ByteArray) (N : Nat) (hE : Mems enc key N) (g cap len : Nat) (hN : len ≤ 1000000) (P Q : List Nat) (lo n : Nat) (w : World) (hlt : ∀ x ∈ P ++ (List.range' lo n ++ Q), x < N) (hrow : RowOwn w g cap enc (P ++ (List.range' lo n ++ Q))) (hlen : (P ++ (List.range' lo n ++ Q)).length = len)
    (av bv : Int) (ha : av = P.length) (hb : bv = P.length + n) :
    Calls Try.prog 86 #[.slice (some ⟨g, 0, none⟩) len cap, .int .i64 av, .int .i64 bv, .func (.func 37) #[] #[]] w fun e w' => e = .returned (.tuple #[]) ∧ But g w w' ∧ ∃ S, SortedOf key lo n S ∧ RowOwn w' g cap enc (P ++ (S ++ Q)) := by
  have h := isort_any enc key N hE g cap P (List.range' lo n) Q w (by simpa using hlt) (by simpa using hrow) (by simp at hlen ⊢; omega) List.pairwise_lt_range' av bv ha (by simpa using hb)
  have e : (P ++ List.range' lo n ++ Q).length = len := by rw [← hlen]; simp
  rw [e] at h
  refine h.mono ?_
  rintro e' w' ⟨h1, h2, S, h3, h4, h5⟩
  exact ⟨h1, h2, S, ⟨h3, h4⟩, by simpa using h5⟩

/-- What the sort holds between its passes. -/
def Pass (enc : Nat → Nat → Value) (key : Nat → ByteArray) (g cap n bs : Nat) (w wr : World) : Prop := ∃ d, Blks key bs 0 d ∧ d.length = n ∧ RowOwn wr g cap enc d ∧ But g w wr
def PassA (enc : Nat → Nat → Value) (key : Nat → ByteArray) (g cap n a : Nat) (w wr : World) : Prop := ∃ D, Pres key 20 a D ∧ a ≤ n ∧ RowOwn wr g cap enc (D ++ List.range' a (n - a)) ∧ But g w wr
def PassB (enc : Nat → Nat → Value) (key : Nat → ByteArray) (g cap n bs a : Nat) (w wr : World) : Prop := ∃ D R, Pres key (2 * bs) a D ∧ Blks key bs a R ∧ a + R.length = n ∧ RowOwn wr g cap enc (D ++ R) ∧ But g w wr

set_option maxRecDepth 100000 in
set_option maxHeartbeats 2000000 in
theorem stable_any (enc : Nat → Nat → Value) (key : Nat → ByteArray) (n : Nat) (hE : Mems enc key n) (g cap : Nat) (w : World) (hrow : RowOwn w g cap enc (List.range n)) (hn : n ≤ 1000000) :
    Calls Try.prog 61 #[.slice (some ⟨g, 0, none⟩) n cap, .int .i64 n, .func (.func 37) #[] #[]] w fun e w' => e = .returned (.tuple #[]) ∧ But g w w' ∧ ∃ S, Sorted key n S ∧ RowOwn w' g cap enc S := by
  have HE := Lib.hid hE
  have HROW := Lib.hid hrow
  clear hE hrow
  go_enter Try.func61, Try.ntmps61
  go_wp2_with fail
  go_loopw [7, 8] (fun av bv wr => ∃ a : Nat, a ≤ n ∧ av = .int .i64 a ∧ bv = .int .i64 (a + 20 : Nat) ∧ PassA enc key g cap n a w wr) (fun a _ _ => n - (intOf a).toNat)
  case atStart => exact ⟨0, Nat.zero_le _, rfl, rfl, [], .nil, Nat.zero_le _, by have := HROW.out; rw [List.range_eq_range'] at this; simpa using this, But.refl _ _⟩
  case round =>
    obtain ⟨a, han, rfl, rfl, hp⟩ := hrel
    have HP := Lib.hid hp
    clear hp
    obtain ⟨b, hb⟩ : ∃ b, b = a + 20 := ⟨_, rfl⟩
    rw [← hb]
    have HB := Lib.hid hb
    have hb9 : b ≤ 1000020 := by omega
    have hab : a ≤ b := by omega
    by_cases hbn : b ≤ n
    · have ha20 : a + 20 ≤ n := by omega
      clear hb
      obtain ⟨D, hD, _, hr, hbt⟩ := HP.out
      have HD := Lib.hid hD
      have HBT := Lib.hid hbt
      have e0 : List.range' a (n - a) = List.range' a 20 ++ List.range' b (n - b) := by
        rw [HB.out, show n - a = 20 + (n - (a + 20)) by omega, List.range'_append_1]
      have HR := Lib.hid (show RowOwn wr g cap enc (D ++ (List.range' a 20 ++ List.range' b (n - b))) by rw [← e0]; exact hr)
      have HDL := Lib.hid hD.len
      have HMEM := Lib.hid (show ∀ x ∈ D ++ (List.range' a 20 ++ List.range' b (n - b)), x < n by
        intro x hx
        rw [← e0] at hx
        rcases List.mem_append.1 hx with hx | hx
        · have := hD.mem x hx; omega
        · rw [List.mem_range'_1] at hx; omega)
      clear hD hbt hr e0 HP
      go_wp2_with fail
      refine (isort_at enc key n HE.out g cap n hn D (List.range' b (n - b)) a 20 wr HMEM.out HR.out (by have := HDL.out; have := HB.out; simp; omega) _ _ (by rw [HDL.out]) (by rw [HDL.out, HB.out]; omega)).mono ?_
      rintro e w1 ⟨rfl, hb1, S, hS, hr1⟩
      have HS := Lib.hid hS
      have HR1 := Lib.hid hr1
      have HB1 := Lib.hid (HBT.out.trans hb1)
      clear hS hr1 hb1
      go_wp2
      go_roundw
      case measure => have := HB.out; simp [intOf]; omega
      case rel => exact ⟨b, hbn, rfl, by go_num, D ++ S, by rw [HB.out]; exact .snoc a D S HD.out HS.out, hbn, by have := HR1.out; simpa using this, HB1.out⟩
    · clear hb
      obtain ⟨D, hD, _, hr, hbt⟩ := HP.out
      have HD := Lib.hid hD
      have HBT := Lib.hid hbt
      have HDL := Lib.hid hD.len
      have HR := Lib.hid (show RowOwn wr g cap enc (D ++ (List.range' a (n - a) ++ [])) by simpa using hr)
      have HMEM := Lib.hid (show ∀ x ∈ D ++ (List.range' a (n - a) ++ []), x < n by
        intro x hx
        rw [List.append_nil] at hx
        rcases List.mem_append.1 hx with hx | hx
        · have := hD.mem x hx; omega
        · rw [List.mem_range'_1] at hx; omega)
      clear hD hbt hr HP
      go_wp2_with fail
      refine (isort_at enc key n HE.out g cap n hn D [] a (n - a) wr HMEM.out HR.out (by have := HDL.out; simp; omega) _ _ (by rw [HDL.out]) (by rw [HDL.out]; omega)).mono ?_
      rintro e w1 ⟨rfl, hb1, S, hS, hr1⟩
      have HPA := Lib.hid (show Pass enc key g cap n 20 w w1 from ⟨D ++ S, HD.out.blks _ (.last a (n - a) S (by have := HB.out; omega) hS), by have h1 := HDL.out; have h2 := hS.len; simp; omega, by simpa using hr1, HBT.out.trans hb1⟩)
      clear hS hr1 hb1
      go_wp2_with fail
      go_loopw [6] (fun bv wq => ∃ bs : Nat, 0 < bs ∧ bs ≤ 2000000 ∧ bv = .int .i64 bs ∧ Pass enc key g cap n bs w wq) (fun b _ => 2000000 - (intOf b).toNat)
      case atStart => exact ⟨20, by omega, by omega, rfl, HPA.out⟩
      case round =>
        obtain ⟨bs, hbs0, hbs9, rfl, hp⟩ := hrel
        have HP := Lib.hid hp
        clear hp HPA
        by_cases hbs : bs < n
        · go_wp2_with fail
          have hbs1 : bs ≤ 1000000 := by omega
          go_loopw [7, 8] (fun av bv wq => ∃ a : Nat, a ≤ n ∧ av = .int .i64 a ∧ bv = .int .i64 (a + 2 * bs : Nat) ∧ PassB enc key g cap n bs a w wq) (fun a _ _ => n - (intOf a).toNat)
          case atStart =>
            obtain ⟨d, h1, h2, h3, h4⟩ := HP.out
            exact ⟨0, Nat.zero_le _, rfl, by go_num, [], d, .nil, h1, by omega, h3, h4⟩
          case round =>
            obtain ⟨a, han, rfl, rfl, hp⟩ := hrel
            have HPB := Lib.hid hp
            clear hp HP
            obtain ⟨b, hb⟩ : ∃ b, b = a + 2 * bs := ⟨_, rfl⟩
            rw [← hb]
            have HB := Lib.hid hb
            have hb9 : b ≤ 4000000 := by omega
            by_cases hbn : b ≤ n
            · clear hb
              obtain ⟨D, R, hD, hR, hl, hr, hbt⟩ := HPB.out
              obtain ⟨S1, S2, R2, hRe, hS1, hS2, hR2⟩ := hR.two hbs0 (by have := HB.out; omega)
              have HD := Lib.hid hD
              have HS1 := Lib.hid hS1
              have HS2 := Lib.hid hS2
              have HR2 := Lib.hid hR2
              have HBT := Lib.hid hbt
              have HDL := Lib.hid (show D.length = a ∧ S1.length = bs ∧ S2.length = bs ∧ a + (bs + (bs + R2.length)) = n from ⟨hD.len, hS1.len, hS2.len, by rw [← hl, hRe]; simp [hS1.len, hS2.len]⟩)
              have HRW := Lib.hid (show RowOwn wr g cap enc (D ++ (S1 ++ (S2 ++ R2))) by rw [← hRe]; exact hr)
              have HMEM := Lib.hid (show ∀ x ∈ D ++ (S1 ++ (S2 ++ R2)), x < n by
                intro x hx
                rw [← hRe] at hx
                rcases List.mem_append.1 hx with hx | hx
                · have := hD.mem x hx; omega
                · have := hR.mem x hx; omega)
              clear hD hR hl hr hbt hRe hS1 hS2 hR2 HPB
              go_wp2_with fail
              refine (merge_at enc key n HE.out g cap n hn S1 S2 D R2 wr (by have := HDL.out; omega) (by have := HDL.out; omega) HS1.out.2 HS2.out.2 (fun x hx y hy => by have := HS1.out.mem hx; have := HS2.out.mem hy; omega) HMEM.out HRW.out (by have := HDL.out; simp; omega) _ _ _ (by have := HDL.out; omega) (by have := HDL.out; omega) (by have := HDL.out; have := HB.out; omega)).mono ?_
              rintro e w2 ⟨rfl, hb2, Z, hp2, hs2, hr2⟩
              have HZ := Lib.hid (HS1.out.join HS2.out hp2 hs2)
              have HRZ := Lib.hid hr2
              have HBZ := Lib.hid (HBT.out.trans hb2)
              clear hp2 hs2 hr2 hb2
              go_wp2
              go_roundw
              case measure => have := HB.out; simp [intOf]; omega
              case rel =>
                have h1 := HZ.out
                rw [← Nat.two_mul] at h1
                have h2 := HZ.out.len
                have h3 := HDL.out
                exact ⟨b, hbn, rfl, by go_num, D ++ Z, R2, by rw [HB.out]; exact .snoc a D Z HD.out h1, by rw [HB.out]; exact HR2.out, by have := HB.out; omega, by have := HRZ.out; simpa using this, HBZ.out⟩
            · obtain ⟨m, hm⟩ : ∃ m, m = a + bs := ⟨_, rfl⟩
              have HM := Lib.hid hm
              have hm2 : (a : Int) + (bs : Int) = (m : Int) := by omega
              have hm9 : m ≤ 2000000 := by omega
              clear hb hm
              by_cases hmn : m < n
              · obtain ⟨D, R, hD, hR, hl, hr, hbt⟩ := HPB.out
                obtain ⟨S1, S2, hRe, hS1, hS2⟩ := hR.oneMore (by have := HM.out; omega) (by have := HB.out; omega)
                have HD := Lib.hid hD
                have HS1 := Lib.hid hS1
                have HS2 := Lib.hid hS2
                have HBT := Lib.hid hbt
                have HDL := Lib.hid (show D.length = a ∧ S1.length = bs ∧ a + (bs + S2.length) = n from ⟨hD.len, hS1.len, by rw [← hl, hRe]; simp [hS1.len]⟩)
                have HRW := Lib.hid (show RowOwn wr g cap enc (D ++ (S1 ++ (S2 ++ []))) by rw [List.append_nil, ← hRe]; exact hr)
                have HMEM := Lib.hid (show ∀ x ∈ D ++ (S1 ++ (S2 ++ [])), x < n by
                  intro x hx
                  rw [List.append_nil, ← hRe] at hx
                  rcases List.mem_append.1 hx with hx | hx
                  · have := hD.mem x hx; omega
                  · have := hR.mem x hx; omega)
                clear hD hR hl hr hbt hRe hS1 hS2 HPB
                go_wp2_with fail
                refine (merge_at enc key n HE.out g cap n hn S1 S2 D [] wr (by have := HDL.out; omega) (by have := HDL.out; have := HM.out; omega) HS1.out.2 HS2.out.2 (fun x hx y hy => by have := HS1.out.mem hx; have := HS2.out.mem hy; omega) HMEM.out HRW.out (by have := HDL.out; simp; omega) _ _ _ (by have := HDL.out; omega) (by have := HDL.out; have := HM.out; omega) (by have := HDL.out; omega)).mono ?_
                rintro e w2 ⟨rfl, hb2, Z, hp2, hs2, hr2⟩
                have HZ := Lib.hid (HS1.out.join HS2.out hp2 hs2)
                have HRZ := Lib.hid hr2
                have HBZ := Lib.hid (HBT.out.trans hb2)
                clear hp2 hs2 hr2 hb2
                go_wp2
                go_roundw
                case measure => simp [intOf]; omega
                case rel =>
                  have h2 := HZ.out.len
                  have h3 := HDL.out
                  have h4 := HB.out
                  exact ⟨2 * bs, by omega, by omega, by go_num, D ++ Z, HD.out.blks _ (.last a _ Z (by omega) HZ.out), by simp; omega, by have := HRZ.out; simpa using this, HBZ.out⟩
              · obtain ⟨D, R, hD, hR, hl, hr, hbt⟩ := HPB.out
                have h2 := HM.out
                have h4 := HB.out
                have HPN := Lib.hid (show Pass enc key g cap n (2 * bs) w wr from ⟨D ++ R, hD.blks _ (.last a _ R (by omega) (hR.short (by omega))), by simp [hD.len]; omega, hr, hbt⟩)
                clear hD hR hl hr hbt HPB h2 h4
                go_wp2
                go_roundw
                case measure => simp [intOf]; omega
                case rel => exact ⟨2 * bs, by omega, by omega, by go_num, HPN.out⟩
        · go_wp2
          go_end0
          obtain ⟨d, h1, h2, h3, h4⟩ := HP.out
          have h5 := h1.short (by omega)
          exact ⟨rfl, h4, d, ⟨by rw [List.range_eq_range', ← h2]; exact h5.1, h5.2⟩, h3⟩

set_option maxRecDepth 100000 in
theorem sortStable_any (enc : Nat → Nat → Value) (key : Nat → ByteArray) (n : Nat) (hE : Mems enc key n) (g cap : Nat) (w : World) (hrow : RowOwn w g cap enc (List.range n)) (hn : n ≤ 1000000) :
    Calls Try.prog 36 #[.slice (some ⟨g, 0, none⟩) n cap, .func (.func 37) #[] #[]] w fun e w' => e = .returned (.tuple #[]) ∧ But g w w' ∧ ∃ S, Sorted key n S ∧ RowOwn w' g cap enc S := by
  have HS := Lib.hid (stable_any enc key n hE g cap w hrow hn)
  clear hE hrow
  go_enter Try.func36, Try.ntmps36
  go_wp2_with fail
  refine HS.out.mono ?_
  rintro e w1 ⟨rfl, h1⟩
  have HF := Lib.hid h1
  clear h1
  go_wp2
  go_end0
  exact ⟨rfl, HF.out⟩
end Go.Proofs.Ythcphfpkinfjoaa
