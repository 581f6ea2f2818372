/-
  The parser over a text (a block of three cells), and its small steps: white space, one byte, a token of one byte.
  The parser's steps that read numbers: digits, a run of signs, what it says.
  What a run of signs says as a number; the parser's step 'number'.
  Conditions: none.
-/
import Derived.Test.YthcphfpkinfjoaaPaV
import Derived.Test.YthcphfpkinfjoaaValAw
import Derived.Lib.Bytealg
namespace Go.Proofs.Ythcphfpkinfjoaa
open Go.RowKit

/-- Block b is a parser of s, of whose bytes l is left, within d brackets. -/
def PCur (w : World) (b : Nat) (s : ByteArray) (l : List UInt8) (d : Nat) : Prop :=
  l.length ≤ s.size ∧ s.data.toList.drop (s.size - l.length) = l ∧ w.heap[b]? = some (.cells #[.string s, .int .i64 ((s.size - l.length : Nat) : Int), .int .i64 (d : Int)] 81 (0, 0))
theorem PCur.lt {w : World} {b : Nat} {s : ByteArray} {l : List UInt8} {d : Nat} (h : PCur w b s l d) : b < w.heap.size := lt_of_block h.2.2
theorem PCur.cells {w : World} {b : Nat} {s : ByteArray} {l : List UInt8} {d : Nat} (h : PCur w b s l d) :
    w.cell? ⟨b, 0, none⟩ = some (.string s) ∧ w.cell? ⟨b, 1, none⟩ = some (.int .i64 ((s.size - l.length : Nat) : Int)) ∧ w.cell? ⟨b, 2, none⟩ = some (.int .i64 (d : Int)) ∧ w.frozen? ⟨b, 1, none⟩ = false ∧ w.frozen? ⟨b, 2, none⟩ = false := by
  obtain ⟨_, _, h⟩ := h
  refine ⟨?_, ?_, ?_, ?_, ?_⟩ <;> simp [World.cell?, World.frozen?, h]
theorem PCur.at {w : World} {b : Nat} {s : ByteArray} {l : List UInt8} {d : Nat} (h : PCur w b s l d) : curAt w b = s.size - l.length := by
  unfold curAt; rw [h.cells.2.1]; simp
theorem PCur.same {w w' : World} {b : Nat} {s : ByteArray} {l : List UInt8} {d : Nat} (h : PCur w b s l d) (hb : w'.heap[b]? = w.heap[b]?) : PCur w' b s l d := ⟨h.1, h.2.1, hb.trans h.2.2⟩
theorem PCur.byte {w : World} {b : Nat} {s : ByteArray} {c : UInt8} {l : List UInt8} {d : Nat} (h : PCur w b s (c :: l) d) : ∃ hk : s.size - (c :: l).length < s.size, s[s.size - (c :: l).length] = c := by
  obtain ⟨h1, h2, _⟩ := h
  simp only [List.length_cons] at h1 h2 ⊢
  have hk : s.size - (l.length + 1) < s.size := by omega
  refine ⟨hk, ?_⟩
  have h4 : (s.data.toList.drop (s.size - (l.length + 1)))[0]? = some c := by rw [h2]; rfl
  rw [List.getElem?_drop] at h4
  have h5 : s.data.toList[s.size - (l.length + 1)]? = some (s[s.size - (l.length + 1)]) := by
    rw [List.getElem?_eq_getElem (by simpa using hk)]; rfl
  simpa [h5] using h4
/-- The block is a parser's still. -/
def PLive (w : World) (b : Nat) (s : ByteArray) (d : Nat) : Prop := ∃ l, PCur w b s l d
theorem PCur.live {w : World} {b : Nat} {s : ByteArray} {l : List UInt8} {d : Nat} (h : PCur w b s l d) : PLive w b s d := ⟨l, h⟩
theorem PLive.same {w w' : World} {b : Nat} {s : ByteArray} {d : Nat} (h : PLive w b s d) (hb : w'.heap[b]? = w.heap[b]?) : PLive w' b s d := by
  obtain ⟨l, h⟩ := h; exact ⟨l, h.same hb⟩
theorem PLive.lt {w : World} {b : Nat} {s : ByteArray} {d : Nat} (h : PLive w b s d) : b < w.heap.size := by
  obtain ⟨l, h⟩ := h; exact h.lt
/-- The place is moved on. -/
theorem PCur.move {w : World} {b : Nat} {s : ByteArray} {l : List UInt8} {d : Nat} (h : PCur w b s l d) (k : Nat) (hk : k ≤ l.length) (z : Int) (hz : z = ((s.size - l.length : Nat) : Int) + (k : Int)) :
    PCur (w.setCell ⟨b, 1, none⟩ (.int .i64 z)) b s (l.drop k) d := by
  obtain ⟨h1, h2, h3⟩ := h
  have hl : (l.drop k).length = l.length - k := List.length_drop
  refine ⟨by omega, ?_, ?_⟩
  · rw [hl, show s.size - (l.length - k) = (s.size - l.length) + k by omega, ← List.drop_drop, h2]
  · rw [setCell_cells _ h3, hl]
    have e : ((s.size - (l.length - k) : Nat) : Int) = z := by omega
    rw [e]; rfl
theorem PCur.deep {w : World} {b : Nat} {s : ByteArray} {l : List UInt8} {d : Nat} (h : PCur w b s l d) (d' : Nat) (z : Int) (hz : z = (d' : Int)) : PCur (w.setCell ⟨b, 2, none⟩ (.int .i64 z)) b s l d' := by
  obtain ⟨h1, h2, h3⟩ := h
  refine ⟨h1, h2, ?_⟩
  rw [setCell_cells _ h3, hz]; rfl
theorem only_set {w : World} {b i : Nat} (v : Value) : Only b w (w.setCell ⟨b, i, none⟩ v) := by
  refine ⟨rfl, rfl, rfl, ?_, fun k hk => setCell_other v hk⟩
  show (w.heap.modify b _).size = _; rw [Array.size_modify]
theorem only_drewN {w w' : World} {b : Nat} (h : Only b w w') (n : Nat) : Only b w (w'.drewN n) := ⟨h.os, h.tape, h.output, h.size, h.block⟩
theorem PCur.drewN {w : World} {b : Nat} {s : ByteArray} {l : List UInt8} {d : Nat} (h : PCur w b s l d) (n : Nat) : PCur (w.drewN n) b s l d := h

theorem Calls.quiet_same {P : Program} {f : FuncId} {args : Array Value} {w : World} {n : Nat} {v : Value} (h : Calls P f args (w.drewN n) fun e w' => e = .returned v ∧ w.drewN n = w') :
    Calls P f args (w.drewN n) fun e w'' => e = .returned v ∧ ∃ m, w'' = w.drewN m := h.mono fun _ _ ⟨he, hm⟩ => ⟨he, n, hm.symm⟩

set_option maxRecDepth 100000 in
set_option maxHeartbeats 400000 in
theorem isSpace_any (c : UInt8) (x : Int) (w : World) (hx : x = (c.toNat : Int)) :
    Calls Try.prog 73 #[.int .u8 x] w fun e w' => e = .returned (.bool (pBlank c)) ∧ w = w' := by
  subst hx
  unfold pBlank
  by_cases h1 : c.toNat = 32
  · have e1 : ((c.toNat : Int) == 32) = true := by simp; omega
    have H := Lib.hid (show (decide (c.toNat = 32) || decide (c.toNat = 9) || decide (c.toNat = 10) || decide (c.toNat = 13)) = true by simp [h1])
    rw [H.out]; clear h1
    go_enter Try.func73, Try.ntmps73
    go_wp2
    go_ret
    exact ⟨rfl, rfl⟩
  have e1 : ((c.toNat : Int) == 32) = false := by simp; omega
  by_cases h2 : c.toNat = 9
  · have e2 : ((c.toNat : Int) == 9) = true := by simp; omega
    have H := Lib.hid (show (decide (c.toNat = 32) || decide (c.toNat = 9) || decide (c.toNat = 10) || decide (c.toNat = 13)) = true by simp [h2])
    rw [H.out]; clear h1 h2
    go_enter Try.func73, Try.ntmps73
    go_wp2
    go_ret
    exact ⟨rfl, rfl⟩
  have e2 : ((c.toNat : Int) == 9) = false := by simp; omega
  by_cases h3 : c.toNat = 10
  · have e3 : ((c.toNat : Int) == 10) = true := by simp; omega
    have H := Lib.hid (show (decide (c.toNat = 32) || decide (c.toNat = 9) || decide (c.toNat = 10) || decide (c.toNat = 13)) = true by simp [h3])
    rw [H.out]; clear h1 h2 h3
    go_enter Try.func73, Try.ntmps73
    go_wp2
    go_ret
    exact ⟨rfl, rfl⟩
  have e3 : ((c.toNat : Int) == 10) = false := by simp; omega
  by_cases h4 : c.toNat = 13
  · have e4 : ((c.toNat : Int) == 13) = true := by simp; omega
    have H := Lib.hid (show (decide (c.toNat = 32) || decide (c.toNat = 9) || decide (c.toNat = 10) || decide (c.toNat = 13)) = true by simp [h4])
    rw [H.out]; clear h1 h2 h3 h4
    go_enter Try.func73, Try.ntmps73
    go_wp2
    go_ret
    exact ⟨rfl, rfl⟩
  have e4 : ((c.toNat : Int) == 13) = false := by simp; omega
  have H := Lib.hid (show (decide (c.toNat = 32) || decide (c.toNat = 9) || decide (c.toNat = 10) || decide (c.toNat = 13)) = false by simp [h1, h2, h3, h4])
  rw [H.out]; clear h1 h2 h3 h4
  go_enter Try.func73, Try.ntmps73
  go_wp2
  go_ret
  exact ⟨rfl, rfl⟩
theorem isSpace_is (c : UInt8) (v : Bool) (x : Int) (w : World) (hx : x = (c.toNat : Int)) (h : pBlank c = v) :
    Calls Try.prog 73 #[.int .u8 x] w fun e w' => e = .returned (.bool v) ∧ w = w' := by
  subst h; exact isSpace_any c x w hx

set_option maxRecDepth 100000 in
set_option maxHeartbeats 1000000 in
theorem atEnd_any (b : Nat) (s : ByteArray) (l : List UInt8) (d : Nat) (w : World) (hs : s.size ≤ maxLen) (h : PCur w b s l d) :
    Calls Try.prog 50 #[.pointer (some ⟨b, 0, none⟩)] w fun e w' => e = .returned (.bool (pSkip l).isEmpty) ∧ PCur w' b s (pSkip l) d ∧ Only b w w' := by
  unfold maxLen at hs
  have HP := Lib.hid h
  clear h
  go_enter Try.func50, Try.ntmps50
  go_wp2_with fail
  go_loopw [] (fun wr => ∃ l', PCur wr b s l' d ∧ Only b w wr ∧ pSkip l' = pSkip l) (fun wr => s.size - curAt wr b)
  case atStart => exact ⟨l, HP.out, Only.refl _ _, rfl⟩
  case round =>
    obtain ⟨l', hc, ho, hsk⟩ := hrel
    have HSK := Lib.hid hsk
    have HO := Lib.hid ho
    have HC := Lib.hid hc
    clear hsk ho HP
    cases l' with
    | nil =>
      obtain ⟨c0, c1, c2, f1, f2⟩ := hc.cells
      clear hc
      simp only [List.length_nil, Nat.sub_zero] at c1
      go_wp2
      go_quiet (fail)
      go_wp2
      go_quiet (fail)
      go_wp2
      go_ret
      rw [← HSK.out]
      exact ⟨by simp [pSkip], HC.out, only_drewN (only_drewN HO.out _) _⟩
    | cons c t =>
      obtain ⟨hk, hb⟩ := hc.byte
      obtain ⟨c0, c1, c2, f1, f2⟩ := hc.cells
      clear hc
      have HAT := Lib.hid HC.out.at
      generalize hkk : s.size - (c :: t).length = k at hk hb c1 HAT
      have HKK := Lib.hid hkk
      have hk' : (k : Int) < (s.size : Int) := by omega
      clear hkk
      cases hbl : pBlank c with
      | true =>
        have HI := Lib.hid (fun w => isSpace_is c true (s[k].toNat : Int) w (by rw [hb]) hbl)
        have HM := Lib.hid (fun n => (HC.out.drewN n).move 1 (by simp) ((k : Int) + 1) (by rw [HKK.out]; rfl))
        have HS := Lib.hid (show pSkip t = pSkip l by rw [← HSK.out]; simp [pSkip, hbl])
        clear hb hbl
        go_wp2
        go_quiet (first | (go_at_call 73; refine Calls.quiet_same (HI.out _)))
        go_wp2
        go_roundw
        case rel => exact ⟨t, HM.out _, HO.out.trans ((only_drewN (Only.refl _ _) _).trans (only_set _)), HS.out⟩
        case measure =>
          have e1 := HAT.out
          have e3 := HKK.out
          have e4 := HC.out.1
          rw [(HM.out _).at, e1]
          simp only [List.length_cons, List.drop_succ_cons, List.drop_zero] at e3 e4 ⊢
          omega
      | false =>
        have HI := Lib.hid (fun w => isSpace_is c false (s[k].toNat : Int) w (by rw [hb]) hbl)
        have HS := Lib.hid (show pSkip l = c :: t by rw [← HSK.out]; simp [pSkip, hbl])
        have hne : ((k : Int) == (s.size : Int)) = false := beq_eq_false_iff_ne.2 (by omega)
        clear hb hbl
        go_wp2
        go_quiet (first | (go_at_call 73; refine Calls.quiet_same (HI.out _)))
        go_wp2
        go_quiet (fail)
        go_wp2
        go_ret
        rw [HS.out]
        exact ⟨rfl, HC.out, only_drewN (only_drewN HO.out _) _⟩
/-- The byte that is next; 0: none. -/
def pHead (l : List UInt8) : Nat := match pSkip l with
  | [] => 0
  | c :: _ => c.toNat
set_option maxRecDepth 100000 in
set_option maxHeartbeats 1000000 in
theorem peek_any (b : Nat) (s : ByteArray) (l : List UInt8) (d : Nat) (w : World) (hs : s.size ≤ maxLen) (h : PCur w b s l d) :
    Calls Try.prog 72 #[.pointer (some ⟨b, 0, none⟩)] w fun e w' => e = .returned (.int .u8 (pHead l : Nat)) ∧ PCur w' b s (pSkip l) d ∧ Only b w w' := by
  have hs' := hs
  unfold maxLen at hs'
  have HS := Lib.hid hs
  clear hs
  have HP := Lib.hid h
  clear h
  go_enter Try.func72, Try.ntmps72
  go_wp2_with fail
  refine (atEnd_any b s l d w HS.out HP.out).mono ?_
  rintro e w1 ⟨rfl, hc, ho⟩
  have HC := Lib.hid hc
  have HC0 := Lib.hid hc
  have HO := Lib.hid ho
  clear ho
  cases hl : pSkip l with
  | nil =>
    rw [hl] at HC
    have HL := Lib.hid (show pHead l = 0 by unfold pHead; rw [hl])
    clear hc hl
    simp only [List.isEmpty_nil]
    go_wp2
    go_ret
    exact ⟨by rw [HL.out]; rfl, HC0.out, HO.out⟩
  | cons c t =>
    rw [hl] at hc HC
    have HL := Lib.hid (show pHead l = c.toNat by unfold pHead; rw [hl])
    obtain ⟨hk, hb⟩ := hc.byte
    obtain ⟨c0, c1, c2, f1, f2⟩ := hc.cells
    clear hc hl
    generalize s.size - (c :: t).length = k at hk hb c1
    have hk' : (k : Int) < (s.size : Int) := by omega
    have HB := Lib.hid hb
    clear hb
    simp only [List.isEmpty_cons]
    go_wp2
    go_quiet (fail)
    go_wp2
    go_ret
    exact ⟨by rw [HB.out, HL.out]; rfl, HC0.out, only_drewN HO.out _⟩
theorem peek_is (b : Nat) (s : ByteArray) (l : List UInt8) (d : Nat) (w : World) (x : Nat) (hs : s.size ≤ maxLen) (h : PCur w b s l d) (hx : pHead l = x) :
    Calls Try.prog 72 #[.pointer (some ⟨b, 0, none⟩)] w fun e w' => e = .returned (.int .u8 (x : Int)) ∧ PCur w' b s (pSkip l) d ∧ Only b w w' := by
  subst hx; exact peek_any b s l d w hs h
set_option maxRecDepth 100000 in
set_option maxHeartbeats 1000000 in
theorem take_no (b : Nat) (s : ByteArray) (l : List UInt8) (d : Nat) (w : World) (x : Nat) (z : Int) (hz : z = (x : Int)) (hs : s.size ≤ maxLen) (h : PCur w b s l d) (hx : pHead l ≠ x) :
    Calls Try.prog 133 #[.pointer (some ⟨b, 0, none⟩), .int .u8 z] w fun e w' => e = .returned (.bool false) ∧ PCur w' b s (pSkip l) d ∧ Only b w w' := by
  subst hz
  have HS := Lib.hid hs
  have HP := Lib.hid h
  obtain ⟨y, hy⟩ : ∃ y, pHead l = y := ⟨_, rfl⟩
  rw [hy] at hx
  have HY := Lib.hid hy
  have hne : ((y : Int) != (x : Int)) = true := by simp; omega
  clear hs h hy hx
  go_enter Try.func133, Try.ntmps133
  go_wp2_with fail
  refine (peek_is b s l d w y HS.out HP.out HY.out).mono ?_
  rintro e w1 ⟨rfl, hc, ho⟩
  have HC := Lib.hid hc
  have HO := Lib.hid ho
  clear hc ho
  go_wp2
  go_ret
  exact ⟨rfl, HC.out, HO.out⟩
set_option maxRecDepth 100000 in
set_option maxHeartbeats 1000000 in
theorem take_yes (b : Nat) (s : ByteArray) (l t : List UInt8) (c : UInt8) (d : Nat) (w : World) (z : Int) (hz : z = (c.toNat : Int)) (hs : s.size ≤ maxLen) (h : PCur w b s l d) (hx : pSkip l = c :: t) :
    Calls Try.prog 133 #[.pointer (some ⟨b, 0, none⟩), .int .u8 z] w fun e w' => e = .returned (.bool true) ∧ PCur w' b s t d ∧ Only b w w' := by
  subst hz
  have hs' := hs
  unfold maxLen at hs'
  have HS := Lib.hid hs
  have HP := Lib.hid h
  have HX := Lib.hid hx
  have hne : ((c.toNat : Int) != (c.toNat : Int)) = false := by simp
  have HY := Lib.hid (show pHead l = c.toNat by unfold pHead; rw [hx])
  clear hs h hx
  go_enter Try.func133, Try.ntmps133
  go_wp2_with fail
  refine (peek_is b s l d w c.toNat HS.out HP.out HY.out).mono ?_
  rintro e w1 ⟨rfl, hc, ho⟩
  rw [HX.out] at hc
  have HC := Lib.hid hc
  have HO := Lib.hid ho
  clear ho
  obtain ⟨hk, hb⟩ := hc.byte
  obtain ⟨c0, c1, c2, f1, f2⟩ := hc.cells
  clear hc hb
  have HM := Lib.hid (HC.out.move 1 (by simp) (((s.size - (c :: t).length : Nat) : Int) + 1) (by rfl))
  generalize s.size - (c :: t).length = k at hk c1 HM
  have hk' : (k : Int) < (s.size : Int) := by omega
  go_wp2
  go_ret
  exact ⟨rfl, HM.out, HO.out.trans (only_set _)⟩
end Go.Proofs.Ythcphfpkinfjoaa

namespace Go.Proofs.Ythcphfpkinfjoaa
open Go.RowKit

set_option maxRecDepth 100000 in
set_option maxHeartbeats 400000 in
theorem isDigit_any (c : UInt8) (x : Int) (w : World) (hx : x = (c.toNat : Int)) :
    Calls Try.prog 94 #[.int .u8 x] w fun e w' => e = .returned (.bool (pDig c)) ∧ w = w' := by
  subst hx
  by_cases h1 : 48 ≤ c.toNat
  · by_cases h2 : c.toNat ≤ 57
    · have H := Lib.hid (show pDig c = true by simp [pDig, h1, h2])
      have h1' : (48 : Int) ≤ (c.toNat : Int) := by omega
      have h2' : (c.toNat : Int) ≤ 57 := by omega
      rw [H.out]; clear h1 h2
      go_enter Try.func94, Try.ntmps94
      go_wp2
      go_ret
      exact ⟨rfl, rfl⟩
    · have H := Lib.hid (show pDig c = false by simp [pDig, h2])
      have h1' : (48 : Int) ≤ (c.toNat : Int) := by omega
      have h2' : ¬ (c.toNat : Int) ≤ 57 := by omega
      rw [H.out]; clear h1 h2
      go_enter Try.func94, Try.ntmps94
      go_wp2
      go_ret
      exact ⟨rfl, rfl⟩
  · have H := Lib.hid (show pDig c = false by simp [pDig, h1])
    have h1' : ¬ (48 : Int) ≤ (c.toNat : Int) := by omega
    rw [H.out]; clear h1
    go_enter Try.func94, Try.ntmps94
    go_wp2
    go_ret
    exact ⟨rfl, rfl⟩
theorem isDigit_is (c : UInt8) (v : Bool) (x : Int) (w : World) (hx : x = (c.toNat : Int)) (h : pDig c = v) :
    Calls Try.prog 94 #[.int .u8 x] w fun e w' => e = .returned (.bool v) ∧ w = w' := by
  subst h; exact isDigit_any c x w hx

def signs : ByteArray := ⟨#[43, 45, 46, 101, 69]⟩
theorem sign_all : ∀ k : Fin 256, (pDig (UInt8.ofNat k.val) || decide (0 ≤ Lib.indexByte signs.data.toList (UInt8.ofNat k.val))) = pSign (UInt8.ofNat k.val) := by decide +kernel
theorem sign_at (c : UInt8) : (pDig c || decide (0 ≤ Lib.indexByte signs.data.toList c)) = pSign c := by
  have := sign_all ⟨c.toNat, c.toNat_lt⟩
  simpa using this
set_option maxRecDepth 100000 in
set_option maxHeartbeats 1000000 in
theorem indexByte0_any (s : ByteArray) (c : Int) (w : World) :
    Calls Try.prog 147 #[.string s, .int .u8 c] w fun e w' => e = .returned (.int .i64 (Lib.indexByte s.data.toList c.toNat.toUInt8)) ∧ w = w' := by
  go_enter Try.func147, Try.ntmps147
  go_wp2
  rw [run_callFunc_extern Try.func152 (by kernel_rfl) (by kernel_rfl) (by kernel_rfl) (e := Extern.BytealgIndexByte.indexByte) (by kernel_rfl), Lib.run_indexByteString]
  simp only [Result.andThen]
  rw [Oper.upon_value]
  go_wp2
  go_ret
  exact ⟨rfl, rfl⟩
set_option maxRecDepth 100000 in
set_option maxHeartbeats 1000000 in
theorem indexByte_any (s : ByteArray) (c : UInt8) (x : Int) (w : World) (z : Int) (hx : x = (c.toNat : Int)) (hz : Lib.indexByte s.data.toList c = z) :
    Calls Try.prog 135 #[.string s, .int .u8 x] w fun e w' => e = .returned (.int .i64 z) ∧ w = w' := by
  have H := Lib.hid (show Lib.indexByte s.data.toList x.toNat.toUInt8 = z by subst hx; rw [← hz]; congr 1; simp)
  clear hx hz
  go_enter Try.func135, Try.ntmps135
  go_wp2_with fail
  refine (indexByte0_any s x w).mono ?_
  rintro e w1 ⟨rfl, rfl⟩
  rw [H.out]
  go_wp2
  go_ret
  exact ⟨rfl, rfl⟩
set_option maxRecDepth 100000 in
set_option maxHeartbeats 1000000 in
theorem isOf_is (c : UInt8) (v : Bool) (x : Int) (w : World) (hx : x = (c.toNat : Int)) (h : pSign c = v) :
    Calls Try.prog 113 #[.int .u8 x] w fun e w' => e = .returned (.bool v) ∧ w = w' := by
  have HX := Lib.hid hx
  have hsg := sign_at c
  rw [h] at hsg
  clear hx h
  cases hd : pDig c with
  | true =>
    rw [hd] at hsg
    have HV := Lib.hid (show v = true by simpa using hsg.symm)
    have HD := Lib.hid hd
    clear hsg hd
    rw [HV.out]
    go_enter Try.func113, Try.ntmps113
    go_wp2_with fail
    refine (isDigit_is c true x w HX.out HD.out).mono ?_
    rintro e w1 ⟨rfl, rfl⟩
    go_wp2
    go_ret
    exact ⟨rfl, rfl⟩
  | false =>
    rw [hd] at hsg
    simp only [Bool.false_or] at hsg
    obtain ⟨z, hz⟩ : ∃ z, Lib.indexByte signs.data.toList c = z := ⟨_, rfl⟩
    rw [hz] at hsg
    have HZ := Lib.hid hz
    have HD := Lib.hid hd
    clear hd hz
    go_enter Try.func113, Try.ntmps113
    go_wp2_with fail
    refine (isDigit_is c false x w HX.out HD.out).mono ?_
    rintro e w1 ⟨rfl, rfl⟩
    go_wp2_with fail
    refine (indexByte_any signs c x w z HX.out HZ.out).mono ?_
    rintro e w1 ⟨rfl, rfl⟩
    have HSG := Lib.hid hsg
    clear hsg
    go_wp2
    go_ret
    exact ⟨by rw [← HSG.out]; rfl, rfl⟩

/-! ### Beginnings of texts -/
theorem ext_list0 (s : ByteArray) (k n : Nat) : (s.extract k (k + n)).data.toList = (s.data.toList.drop k).take n := by
  rw [ByteArray.data_extract, Array.toList_extract, List.extract_eq_take_drop]
  congr 1; omega
theorem prefix_ext (p s : ByteArray) : (s.extract 0 p.size = p) ↔ p.data.toList.isPrefixOf s.data.toList = true := by
  have e : (s.extract 0 p.size).data.toList = s.data.toList.take p.size := by
    have := ext_list0 s 0 p.size
    rw [Nat.zero_add, List.drop_zero] at this
    exact this
  rw [List.isPrefixOf_iff_prefix, List.prefix_iff_eq_take]
  have hl : p.data.toList.length = p.size := Array.length_toList
  rw [hl, ← e]
  constructor
  · intro h; rw [h]
  · intro h
    exact (Go.WideShapes.bytes_inj h).symm
theorem prefix_short (p s : ByteArray) (h : s.size < p.size) : p.data.toList.isPrefixOf s.data.toList = false := by
  rw [Bool.eq_false_iff]
  intro h1
  rw [List.isPrefixOf_iff_prefix] at h1
  have := h1.length_le
  rw [Array.length_toList, Array.length_toList] at this
  have e1 : p.data.size = p.size := rfl
  have e2 : s.data.size = s.size := rfl
  omega
theorem bytes_toList {a b : ByteArray} (h : a.toList = b.toList) : a = b := by
  rw [ByteArray.toList_eq, ByteArray.toList_eq] at h; exact Go.WideShapes.bytes_inj h
set_option maxRecDepth 100000 in
set_option maxHeartbeats 1000000 in
theorem hasPrefix0_is (s p : ByteArray) (v : Bool) (w : World) (h : p.data.toList.isPrefixOf s.data.toList = v) :
    Calls Try.prog 137 #[.string s, .string p] w fun e w' => e = .returned (.bool v) ∧ w = w' := by
  by_cases hl : p.size ≤ s.size
  · have hl' : (p.size : Int) ≤ (s.size : Int) := by omega
    have HX := Lib.hid (show ((s.extract 0 p.size).toList == p.toList) = v by rw [← h, Bool.eq_iff_iff, beq_iff_eq, ← prefix_ext p s]; exact ⟨fun h => bytes_toList h, fun h => by rw [h]⟩)
    clear h
    go_enter Try.func137, Try.ntmps137
    go_wp2
    go_ret
    exact ⟨by rw [← HX.out]; rfl, rfl⟩
  · have hl' : ¬ (p.size : Int) ≤ (s.size : Int) := by omega
    have HV := Lib.hid (show v = false by rw [← h]; exact prefix_short p s (by omega))
    clear h
    rw [HV.out]
    go_enter Try.func137, Try.ntmps137
    go_wp2
    go_ret
    exact ⟨rfl, rfl⟩
set_option maxRecDepth 100000 in
set_option maxHeartbeats 1000000 in
theorem hasPrefix_is (s p : ByteArray) (v : Bool) (w : World) (h : p.data.toList.isPrefixOf s.data.toList = v) :
    Calls Try.prog 115 #[.string s, .string p] w fun e w' => e = .returned (.bool v) ∧ w = w' := by
  have H := Lib.hid h
  clear h
  go_enter Try.func115, Try.ntmps115
  go_wp2_with fail
  refine (hasPrefix0_is s p v w H.out).mono ?_
  rintro e w1 ⟨rfl, rfl⟩
  go_wp2
  go_ret
  exact ⟨rfl, rfl⟩
def Cut (s ds : ByteArray) (neg : Bool) : Prop := (neg = true ∧ s.data.toList = 45 :: ds.data.toList) ∨ (neg = false ∧ ds = s ∧ ∀ t, s.data.toList ≠ 45 :: t)
def minus : ByteArray := ⟨#[45]⟩
set_option maxRecDepth 100000 in
set_option maxHeartbeats 1000000 in
theorem cut0_is (s ds : ByteArray) (neg : Bool) (w : World) (h : Cut s ds neg) :
    Calls Try.prog 148 #[.string s, .string minus] w fun e w' => e = .returned (.tuple #[.string ds, .bool neg]) ∧ w = w' := by
  rcases h with ⟨rfl, h⟩ | ⟨rfl, rfl, h⟩
  · have HP := Lib.hid (show minus.data.toList.isPrefixOf s.data.toList = true by rw [h]; rfl)
    have hsz : s.size = ds.size + 1 := by
      have : s.data.toList.length = s.size := Array.length_toList
      rw [← this, h, List.length_cons, Array.length_toList]; rfl
    have h1 : (1 : Int) ≤ (s.size : Int) := by omega
    have hm : minus.size = 1 := rfl
    have HE := Lib.hid (show s.extract 1 s.size = ds by
      apply Go.WideShapes.bytes_inj
      have := ext_list0 s 1 ds.size
      rw [show 1 + ds.size = s.size by omega, h] at this
      rw [this]
      simp only [List.drop_succ_cons, List.drop_zero]
      rw [List.take_of_length_le (by rw [Array.length_toList]; exact Nat.le_refl _)])
    clear h hsz
    go_enter Try.func148, Try.ntmps148
    go_wp2_with fail
    refine (hasPrefix0_is s minus true w HP.out).mono ?_
    rintro e w1 ⟨rfl, rfl⟩
    go_wp2
    refine bodyPost_ret (v := .tuple #[.string ds, .bool true]) (by simp [results, Try.results148, go_sem, HE.out]) rfl ?_
    exact ⟨rfl, rfl⟩
  · have HP := Lib.hid (show minus.data.toList.isPrefixOf ds.data.toList = false by
      rw [Bool.eq_false_iff]
      intro h1
      rw [List.isPrefixOf_iff_prefix] at h1
      obtain ⟨t, ht⟩ := h1
      exact h t ht.symm)
    clear h
    go_enter Try.func148, Try.ntmps148
    go_wp2_with fail
    refine (hasPrefix0_is ds minus false w HP.out).mono ?_
    rintro e w1 ⟨rfl, rfl⟩
    go_wp2
    refine bodyPost_ret (v := .tuple #[.string ds, .bool false]) (by simp [results, Try.results148, go_sem]) rfl ?_
    exact ⟨rfl, rfl⟩
set_option maxRecDepth 100000 in
set_option maxHeartbeats 1000000 in
theorem cut_is (s ds : ByteArray) (neg : Bool) (w : World) (h : Cut s ds neg) :
    Calls Try.prog 136 #[.string s, .string minus] w fun e w' => e = .returned (.tuple #[.string ds, .bool neg]) ∧ w = w' := by
  have H := Lib.hid h
  clear h
  go_enter Try.func136, Try.ntmps136
  go_wp2_with fail
  refine (cut0_is s ds neg w H.out).mono ?_
  rintro e w1 ⟨rfl, rfl⟩
  go_wp2
  refine bodyPost_ret (v := .tuple #[.string ds, .bool neg]) (by simp [results, Try.results136, go_sem]) rfl ?_
  exact ⟨rfl, rfl⟩
theorem cut_exists (s : ByteArray) : ∃ ds neg, Cut s ds neg := by
  by_cases h : ∃ t, s.data.toList = 45 :: t
  · obtain ⟨t, ht⟩ := h
    exact ⟨⟨t.toArray⟩, true, .inl ⟨rfl, by rw [ht]⟩⟩
  · exact ⟨s, false, .inr ⟨rfl, rfl, fun t ht => h ⟨t, ht⟩⟩⟩
theorem cut_int {s ds : ByteArray} {neg : Bool} (h : Cut s ds neg) (h0 : s.data.toList ≠ [48]) : pInt s.data.toList = pDec neg ds.data.toList := by
  rcases h with ⟨rfl, h⟩ | ⟨rfl, rfl, h⟩
  · rw [h]; simp [pInt]
  · cases hl : ds.data.toList with
    | nil => rfl
    | cons c t =>
      simp only [pInt]
      rw [if_neg (fun h1 => h0 (by rw [hl, h1.2]; congr 1; exact UInt8.toNat_inj.1 h1.1)), if_neg (fun h1 => h t (by rw [hl]; congr 1; exact UInt8.toNat_inj.1 h1))]
def IntOf (o : Option Int) (e : Ending) : Prop := e = .returned (.tuple #[.int .i64 (o.getD 0), .bool o.isSome])
end Go.Proofs.Ythcphfpkinfjoaa

namespace Go.Proofs.Ythcphfpkinfjoaa
open Go.RowKit

theorem pDigs_bad {n : Nat} {c : UInt8} {t : List UInt8} (h : pDig c = false) : pDigs n (c :: t) = none := by simp [pDigs, h]
theorem pDigs_much {n : Nat} {c : UInt8} {t : List UInt8} (h : pDig c = true) (h1 : 9007199254740991 < n * 10 + (c.toNat - 48)) : pDigs n (c :: t) = none := by simp [pDigs, h, h1]
theorem pDigs_step {n : Nat} {c : UInt8} {t : List UInt8} (h : pDig c = true) (h1 : ¬ 9007199254740991 < n * 10 + (c.toNat - 48)) : pDigs n (c :: t) = pDigs (n * 10 + (c.toNat - 48)) t := by simp [pDigs, h, h1]
theorem pDigs_le : ∀ (l : List UInt8) (n m : Nat), n ≤ 9007199254740991 → pDigs n l = some m → m ≤ 9007199254740991
  | [], n, m, hn, h => by simp only [pDigs, Option.some.injEq] at h; omega
  | c :: t, n, m, hn, h => by
    simp only [pDigs] at h
    split at h
    · split at h
      · cases h
      · exact pDigs_le t _ m (by omega) h
    · cases h
theorem pDec_bound {neg : Bool} {l : List UInt8} {n : Int} (h : pDec neg l = some n) : -9007199254740991 ≤ n ∧ n ≤ 9007199254740991 := by
  cases l with
  | nil => cases h
  | cons c t =>
    simp only [pDec] at h
    split at h
    · cases h
    · cases hd : pDigs 0 (c :: t) with
      | none => rw [hd] at h; cases h
      | some m =>
        rw [hd] at h
        have := pDigs_le _ _ _ (by omega) hd
        simp only [Option.map_some, Option.some.injEq] at h
        split at h <;> omega
theorem pInt_bound {l : List UInt8} {n : Int} (h : pInt l = some n) : -9007199254740991 ≤ n ∧ n ≤ 9007199254740991 := by
  cases l with
  | nil => cases h
  | cons c t =>
    simp only [pInt] at h
    split at h
    · injection h with h; omega
    split at h
    · exact pDec_bound h
    · exact pDec_bound h
theorem wf_int {n : Int} (h : -9007199254740991 ≤ n ∧ n ≤ 9007199254740991) : (Lit.int .i64 n).wf = true := by
  have h1 : IntKind.i64.min = -9223372036854775808 := by decide
  have h2 : IntKind.i64.max = 9223372036854775807 := by decide
  simp only [Lit.wf, h1, h2, Bool.and_eq_true, decide_eq_true_iff]; omega
theorem pDig_ge {c : UInt8} (h : pDig c = true) : 48 ≤ c.toNat ∧ c.toNat ≤ 57 := by simpa [pDig] using h

set_option maxRecDepth 100000 in
set_option maxHeartbeats 2000000 in
theorem integer_any (s : ByteArray) (w : World) (hs : s.size ≤ maxLen) :
    Calls Try.prog 114 #[.string s] w fun e w' => IntOf (pInt s.data.toList) e ∧ w = w' := by
  unfold maxLen at hs
  by_cases h0 : s.data.toList = [48]
  · have HO := Lib.hid (show pInt s.data.toList = some 0 by rw [h0]; rfl)
    have e0 : (s.toList == [48]) = true := by rw [beq_iff_eq, ByteArray.toList_eq, h0]
    clear h0
    go_enter Try.func114, Try.ntmps114
    go_wp2
    refine bodyPost_ret (v := .tuple #[.int .i64 0, .bool true]) (by simp [results, Try.results114, go_sem]) rfl ?_
    exact ⟨by rw [HO.out]; rfl, rfl⟩
  obtain ⟨ds, neg, hcut⟩ := cut_exists s
  have HI := Lib.hid (cut_int hcut h0)
  have HCUT := Lib.hid hcut
  have e0 : (s.toList == [48]) = false := by
    rw [beq_eq_false_iff_ne]; intro h; rw [ByteArray.toList_eq] at h; exact h0 h
  have hds : ds.size ≤ 2 ^ 63 - 1 := by
    rcases hcut with ⟨_, h⟩ | ⟨_, rfl, _⟩
    · have h1 : s.data.toList.length = s.size := Array.length_toList
      rw [h, List.length_cons, Array.length_toList] at h1
      have : ds.data.size = ds.size := rfl
      omega
    · exact hs
  clear hcut h0 hs
  rw [HI.out]
  go_enter Try.func114, Try.ntmps114
  go_wp2_with fail
  refine (cut_is s ds neg w HCUT.out).mono ?_
  rintro e w1 ⟨rfl, rfl⟩
  clear e0
  by_cases hz : ds.size = 0
  · have e1 : (ds.toList == []) = true := by
      rw [beq_iff_eq, ByteArray.toList_eq, List.eq_nil_of_length_eq_zero (l := ds.data.toList) (by rw [Array.length_toList]; exact hz)]
    have HN := Lib.hid (show pDec neg ds.data.toList = none by rw [List.eq_nil_of_length_eq_zero (l := ds.data.toList) (by rw [Array.length_toList]; exact hz)]; rfl)
    clear hz
    go_wp2
    refine bodyPost_ret (v := .tuple #[.int .i64 0, .bool false]) (by simp [results, Try.results114, go_sem]) rfl ?_
    exact ⟨by rw [HN.out]; rfl, rfl⟩
  have h0 : 0 < ds.size := by omega
  have h0' : (0 : Int) < (ds.size : Int) := by omega
  have hc := list_cons ds h0
  have e1 : (ds.toList == []) = false := by
    rw [beq_eq_false_iff_ne]; intro h; rw [ByteArray.toList_eq, hc] at h; cases h
  by_cases h48 : ds[0].toNat = 48
  · have e2 : ((ds[0].toNat : Int) == 48) = true := by simp; omega
    have HN := Lib.hid (show pDec neg ds.data.toList = none by rw [hc]; simp only [pDec]; rw [if_pos h48])
    clear hc h48 hz
    go_wp2
    refine bodyPost_ret (v := .tuple #[.int .i64 0, .bool false]) (by simp [results, Try.results114, go_sem]) rfl ?_
    exact ⟨by rw [HN.out]; rfl, rfl⟩
  have e2 : ((ds[0].toNat : Int) == 48) = false := by simp; omega
  have HD := Lib.hid (show pDec neg ds.data.toList = (pDigs 0 ds.data.toList).map fun (n : Nat) => if neg = true then -(n : Int) else (n : Int) by rw [hc]; simp only [pDec]; rw [if_neg h48])
  clear hc h48 hz
  go_wp2_with fail
  go_loopw [6, 24] (fun nv iv wr => ∃ n k : Nat, nv = .int .i64 n ∧ iv = .int .i64 k ∧ k ≤ ds.size ∧ n ≤ 9007199254740991 ∧ wr = w ∧ pDigs n (ds.data.toList.drop k) = pDigs 0 ds.data.toList) (fun _ i _ => ds.size - (intOf i).toNat)
  case atStart => exact ⟨0, 0, rfl, rfl, by omega, by omega, rfl, rfl⟩
  case round =>
    obtain ⟨n, k, rfl, rfl, hk, hn, rfl, hpd⟩ := hrel
    have HN := Lib.hid hn
    have HP := Lib.hid hpd
    clear hn hpd e1 e2
    by_cases hlt : k < ds.size
    · have hlt' : (k : Int) < (ds.size : Int) := by omega
      have HDR := Lib.hid (drop_at ds k hlt)
      cases hd : pDig ds[k] with
      | false =>
        have HI2 := Lib.hid (isDigit_is ds[k] false (ds[k].toNat : Int) wr rfl hd)
        have HE := Lib.hid (show pDec neg ds.data.toList = none by rw [HD.out, ← HP.out, HDR.out, pDigs_bad hd]; rfl)
        clear hd
        go_wp2_with fail
        refine HI2.out.mono ?_
        rintro e w2 ⟨rfl, rfl⟩
        go_wp2
        refine bodyPost_ret (v := .tuple #[.int .i64 0, .bool false]) (by simp [results, Try.results114, go_sem]) rfl ?_
        exact ⟨by rw [HE.out]; rfl, rfl⟩
      | true =>
        have HI2 := Lib.hid (isDigit_is ds[k] true (ds[k].toNat : Int) wr rfl hd)
        have HG := Lib.hid (pDig_ge hd)
        have HDG := Lib.hid hd
        have HW := Lib.hid (show wrap64 (wrap64 ((n : Int) * 10) + ((ds[k].toNat : Int) - 48) % 256) = ((n * 10 + (ds[k].toNat - 48) : Nat) : Int) by
          have h1 := HG.out
          have h2 := HN.out
          rw [wrap64_id ((n : Int) * 10) (by omega), wrap64_id _ (by omega)]
          omega)
        clear hd
        by_cases hm : 9007199254740991 < n * 10 + (ds[k].toNat - 48)
        · have HE := Lib.hid (show pDec neg ds.data.toList = none by rw [HD.out, ← HP.out, HDR.out, pDigs_much HDG.out hm]; rfl)
          have hgt : 9007199254740991 < wrap64 (wrap64 ((n : Int) * 10) + ((ds[k].toNat : Int) - 48) % 256) := by rw [HW.out]; omega
          clear hm
          go_wp2_with fail
          refine HI2.out.mono ?_
          rintro e w2 ⟨rfl, rfl⟩
          go_wp2
          refine bodyPost_ret (v := .tuple #[.int .i64 0, .bool false]) (by simp [results, Try.results114, go_sem]) rfl ?_
          exact ⟨by rw [HE.out]; rfl, rfl⟩
        · have HE := Lib.hid (show pDigs (n * 10 + (ds[k].toNat - 48)) (ds.data.toList.drop (k + 1)) = pDigs 0 ds.data.toList by rw [← HP.out, HDR.out, pDigs_step HDG.out hm])
          have hgt : ¬ 9007199254740991 < wrap64 (wrap64 ((n : Int) * 10) + ((ds[k].toNat : Int) - 48) % 256) := by rw [HW.out]; omega
          have HM := Lib.hid (show n * 10 + (ds[k].toNat - 48) ≤ 9007199254740991 by omega)
          clear hm
          go_wp2_with fail
          refine HI2.out.mono ?_
          rintro e w2 ⟨rfl, rfl⟩
          go_wp2
          go_roundw
          case rel => exact ⟨n * 10 + (ds[k].toNat - 48), k + 1, by rw [HW.out], by go_num, by omega, HM.out, trivial, HE.out⟩
          case measure => simp [intOf]; omega
    · have HE := Lib.hid (show pDec neg ds.data.toList = some (if neg = true then -(n : Int) else (n : Int)) by
        have h1 := HP.out
        rw [List.drop_of_length_le (by rw [Array.length_toList]; show ds.size ≤ k; omega)] at h1
        rw [HD.out, ← h1]; rfl)
      have HW := Lib.hid (show wrap64 (-(n : Int)) = -(n : Int) by have h2 := HN.out; exact wrap64_id _ (by omega))
      cases neg with
      | true =>
        go_wp2
        refine bodyPost_ret (v := .tuple #[.int .i64 (-(n : Int)), .bool true]) (by simp [results, Try.results114, go_sem, HW.out]) rfl ?_
        exact ⟨by rw [HE.out]; rfl, rfl⟩
      | false =>
        go_wp2
        refine bodyPost_ret (v := .tuple #[.int .i64 (n : Int), .bool true]) (by simp [results, Try.results114, go_sem]) rfl ?_
        exact ⟨by rw [HE.out]; rfl, rfl⟩
theorem integer_some (s : ByteArray) (n : Int) (w : World) (hs : s.size ≤ maxLen) (h : pInt s.data.toList = some n) :
    Calls Try.prog 114 #[.string s] w fun e w' => e = .returned (.tuple #[.int .i64 n, .bool true]) ∧ w = w' :=
  (integer_any s w hs).mono fun e w' ⟨h1, h2⟩ => ⟨by unfold IntOf at h1; rw [h] at h1; exact h1, h2⟩
theorem integer_none (s : ByteArray) (w : World) (hs : s.size ≤ maxLen) (h : pInt s.data.toList = none) :
    Calls Try.prog 114 #[.string s] w fun e w' => e = .returned (.tuple #[.int .i64 0, .bool false]) ∧ w = w' :=
  (integer_any s w hs).mono fun e w' ⟨h1, h2⟩ => ⟨by unfold IntOf at h1; rw [h] at h1; exact h1, h2⟩

theorem Calls.quiet_same2 {P : Program} {f : FuncId} {args : Array Value} {w : World} {m n : Nat} {v : Value} (h : Calls P f args (w.drewN (m + n)) fun e w' => e = .returned v ∧ w.drewN (m + n) = w') :
    Calls P f args (w.drewN (m + n)) fun e w'' => e = .returned v ∧ ∃ k, w'' = w.drewN (m + k) := h.mono fun _ _ ⟨he, hm⟩ => ⟨he, n, hm.symm⟩
/-- What a step of the parser leaves: what was read, in new memory, or an error. -/
def vZ : Value := .agg #[.int .i64 0, .int .i64 0, .string ⟨#[]⟩, .slice none 0 0, .slice none 0 0]
def PGot (b : Nat) (s : ByteArray) (d : Nat) (w : World) (r : PR VT) (e : Ending) (w' : World) : Prop :=
  Exc (fun x => x = b) w w' ∧ match r with
    | .ok (t, l) => ∃ y, e = .returned (.tuple #[y, .int .i64 0]) ∧ VIn (fun x => w.heap.size ≤ x ∧ x < w'.heap.size) w' t y ∧ PCur w' b s l d
    | .error c => e = .returned (.tuple #[vZ, .int .i64 (c : Int)]) ∧ c ≠ 0 ∧ PLive w' b s d
theorem PGot.no {b : Nat} {s : ByteArray} {d : Nat} {w w' : World} {r : PR VT} {c : Nat} (h : r = .error c) (hc : c ≠ 0) (hx : Exc (fun x => x = b) w w') (hp : PLive w' b s d) : PGot b s d w r (.returned (.tuple #[vZ, .int .i64 (c : Int)])) w' := by
  subst h; exact ⟨hx, rfl, hc, hp⟩
theorem PGot.yes {b : Nat} {s : ByteArray} {d : Nat} {w w' : World} {r : PR VT} {t : VT} {l : List UInt8} {y : Value} (h : r = .ok (t, l)) (hx : Exc (fun x => x = b) w w') (hv : VIn (fun x => w.heap.size ≤ x ∧ x < w'.heap.size) w' t y) (hp : PCur w' b s l d) : PGot b s d w r (.returned (.tuple #[y, .int .i64 0])) w' := by
  subst h; exact ⟨hx, y, rfl, hv, hp⟩
theorem Exc.only {b : Nat} {w w1 w2 : World} (h : Exc (fun x => x = b) w w1) (ho : Only b w1 w2) : Exc (fun x => x = b) w w2 :=
  h.trans ⟨ho.os, ho.tape, ho.output, Nat.le_of_eq ho.size.symm, fun k _ hs => ho.block k hs⟩
theorem Exc.ofOnly {b : Nat} {w w2 : World} (ho : Only b w w2) : Exc (fun x => x = b) w w2 := (Exc.refl _ w).only ho
theorem pPast_len : ∀ l, (pPast l).length ≤ l.length
  | [] => Nat.le_refl _
  | c :: t => by
    simp only [pPast]
    split
    · exact Nat.le_succ_of_le (pPast_len t)
    · exact Nat.le_refl _
theorem pRun_take (l : List UInt8) : pRun l = l.take (l.length - (pPast l).length) := by
  have h := pRun_past l
  have h1 : l.length = (pRun l).length + (pPast l).length := by rw [← List.length_append, h]
  generalize pPast l = q at h h1
  generalize pRun l = r at h h1
  rw [← h, List.take_left' (by rw [List.length_append]; omega)]
/-- What lies between two places of the text. -/
theorem PCur.cut {w : World} {b : Nat} {s : ByteArray} {l l' : List UInt8} {d : Nat} (h : PCur w b s l d) (hl : l'.length ≤ l.length) : (s.extract (s.size - l.length) (s.size - l'.length)).data.toList = l.take (l.length - l'.length) := by
  have h1 := h.1
  have := ext_list0 s (s.size - l.length) (l.length - l'.length)
  rw [show s.size - l.length + (l.length - l'.length) = s.size - l'.length by omega, h.2.1] at this
  exact this
theorem box5 {w : World} {b : Nat} {c0 c1 c2 c3 c4 : Value} {t : TypeId} (h : w.heap[b]? = some (.cells #[c0, c1, c2, c3, c4] t (0, 0))) :
    w.frozen? ⟨b, 0, none⟩ = false ∧ w.frozen? ⟨b, 1, none⟩ = false ∧ w.frozen? ⟨b, 2, none⟩ = false ∧ w.frozen? ⟨b, 3, none⟩ = false ∧ w.frozen? ⟨b, 4, none⟩ = false := by
  simp [World.frozen?, h]

theorem put5_only {w : World} {b : Nat} (c0 c1 c2 c3 c4 : Value) : Only b w (((((w.setCell ⟨b, 0, none⟩ c0).setCell ⟨b, 1, none⟩ c1).setCell ⟨b, 2, none⟩ c2).setCell ⟨b, 3, none⟩ c3).setCell ⟨b, 4, none⟩ c4) :=
  ((((only_set c0).trans (only_set c1)).trans (only_set c2)).trans (only_set c3)).trans (only_set c4)
/-- Behind a store into a box that is new. -/
theorem Exc.box {b M : Nat} {w w1 w2 : World} (h : Exc (fun x => x = b) w w1) (ho : Only M w1 w2) (hM : w.heap.size ≤ M) : Exc (fun x => x = b) w w2 :=
  ⟨ho.os.trans h.os, ho.tape.trans h.tape, ho.output.trans h.output, by rw [ho.size]; exact h.size, fun k hk hs => (ho.block k (by omega)).trans (h.block k hk hs)⟩
theorem Exc.drewN {S : Nat → Prop} {a b : World} (h : Exc S a b) (n : Nat) : Exc S a (b.drewN n) := ⟨h.os, h.tape, h.output, h.size, h.block⟩

set_option maxRecDepth 100000 in
set_option maxHeartbeats 2000000 in
theorem number_any (b : Nat) (s : ByteArray) (l : List UInt8) (d : Nat) (w : World) (hs : s.size ≤ maxLen) (h : PCur w b s l d) :
    Calls Try.prog 95 #[.pointer (some ⟨b, 0, none⟩)] w (PGot b s d w (pNumber l)) := by
  have hs' := hs
  unfold maxLen at hs'
  have HSZ := Lib.hid hs
  have hbw := h.lt
  have HP := Lib.hid h
  clear h hs
  go_enter Try.func95, Try.ntmps95
  obtain ⟨c0, c1, c2, f1, f2⟩ := HP.out.cells
  go_wp2_with fail
  clear c0 c1 c2 f1 f2
  generalize hW0 : w.alloc _ = W0
  have HB0 := Lib.hid (show Below w.heap.size w W0 by subst hW0; exact (Below.refl _ w).alloc (Nat.le_refl _) _)
  have HV0 := Lib.hid (show W0.heap[w.heap.size]? = some (.cells #[.int .i64 0, .int .i64 0, .string ⟨#[]⟩, .slice none 0 0, .slice none 0 0] 26 (0, 0)) by subst hW0; exact World.alloc_heap_new w _)
  have HZ0 := Lib.hid (show W0.heap.size = w.heap.size + 1 by subst hW0; simp)
  have HP0 := Lib.hid (show PCur W0 b s l d from HP.out.same (HB0.out.block b hbw))
  clear hW0
  go_loopw [] (fun wr => ∃ l', PCur wr b s l' d ∧ Only b W0 wr ∧ pPast l' = pPast l ∧ l'.length ≤ l.length) (fun wr => s.size - curAt wr b)
  case atStart => exact ⟨l, HP0.out, Only.refl _ _, rfl, Nat.le_refl _⟩
  case round =>
    obtain ⟨l', hc, ho, hsk, hll⟩ := hrel
    have HSK := Lib.hid hsk
    have HO := Lib.hid ho
    have HC := Lib.hid hc
    have HLL := Lib.hid hll
    clear hsk ho hll
    cases l' with
    | nil =>
      have HPA := Lib.hid (show ([] : List UInt8) = pPast l from HSK.out)
      obtain ⟨c0, c1, c2, f1, f2⟩ := hc.cells
      clear hc
      simp only [List.length_nil, Nat.sub_zero] at c1
      have HKK := Lib.hid (show s.size - ([] : List UInt8).length = s.size from rfl)
      go_wp2
      go_quiet (fail)
      go_wp2_with fail
      have HSL := Lib.hid (show (s.extract (s.size - l.length) s.size).data.toList = pRun l by
        have e1 := HP.out.cut HLL.out
        rw [HKK.out] at e1
        rw [pRun_take, ← HPA.out]
        exact e1)
      have HXC := Lib.hid ((Exc.of (S := fun x => x = b) HB0.out (fun k h1 h2 => by omega)).only HO.out)
      have hfa : ((s.size - l.length : Nat) : Int) ≤ (s.size : Int) := by have h1 := HLL.out; have h2 := HP.out.1; have h3 := HC.out.1; have h4 := HKK.out; omega
      have hfb : (s.size : Int) ≤ (s.size : Int) := by omega
      have HXS := Lib.hid (show (s.extract (s.size - l.length) s.size).size ≤ maxLen by rw [ByteArray.size_extract]; have := HSZ.out; omega)
      have hvm : wr.heap[w.heap.size]? = some (.cells #[.int .i64 0, .int .i64 0, .string ⟨#[]⟩, .slice none 0 0, .slice none 0 0] 26 (0, 0)) := (HO.out.block _ (by omega)).trans HV0.out
      have HVM := Lib.hid hvm
      obtain ⟨g0, g1, g2, g3, g4⟩ := box5 hvm
      obtain ⟨r0, r1, r2, r3, r4⟩ := c5of hvm
      clear hvm
      generalize s.size - l.length = f0 at HSL hfa HXS ⊢
      cases hpi : pInt (pRun l) with
      | none =>
        have HR := Lib.hid (show pNumber l = .error 3 by unfold pNumber; rw [hpi])
        have HI := Lib.hid (fun w => integer_none (s.extract f0 s.size) w HXS.out (by rw [HSL.out]; exact hpi))
        clear hpi
        go_quiet (first | (go_at_call 114; refine Calls.quiet_same2 (HI.out _)))
        go_wp2
        generalize hWX : wr.drewN _ = wx
        have hxc : Exc (fun x => x = b) w wx := by subst hWX; exact HXC.out.drewN _
        have hlv : PLive wx b s d := by subst hWX; exact HC.out.live
        have hvx : wx.heap[w.heap.size]? = some (.cells #[.int .i64 0, .int .i64 0, .string ⟨#[]⟩, .slice none 0 0, .slice none 0 0] 26 (0, 0)) := by subst hWX; exact HVM.out
        have hp5 := put5 (.int .i64 0) (.int .i64 0) (.string ⟨#[]⟩) (.slice none 0 0) (.slice none 0 0) hvx
        have ho5 := put5_only (w := wx) (b := w.heap.size) (.int .i64 0) (.int .i64 0) (.string ⟨#[]⟩) (.slice none 0 0) (.slice none 0 0)
        generalize ((((wx.setCell _ _).setCell _ _).setCell _ _).setCell _ _).setCell _ _ = W9 at hp5 ho5 ⊢
        obtain ⟨z0, z1, z2, z3, z4⟩ := c5of hp5
        refine bodyPost_ret (v := .tuple #[vZ, .int .i64 3]) (by simp [results, Try.results95, go_sem, z0, z1, z2, z3, z4, vZ]) rfl ?_
        exact PGot.no HR.out (by decide) (hxc.box ho5 (Nat.le_refl _)) (hlv.same (ho5.block b (by omega)))
      | some n =>
        have HR := Lib.hid (show pNumber l = .ok (jInt n, pPast l) by unfold pNumber; rw [hpi])
        have HBD := Lib.hid (wf_int (pInt_bound hpi))
        have HI := Lib.hid (fun w => integer_some (s.extract f0 s.size) n w HXS.out (by rw [HSL.out]; exact hpi))
        clear hpi
        go_quiet (first | (go_at_call 114; refine Calls.quiet_same2 (HI.out _)))
        go_wp2_with fail
        generalize hWX : wr.drewN _ = wx
        have hxc : Exc (fun x => x = b) w wx := by subst hWX; exact HXC.out.drewN _
        have hlv : PLive wx b s d := by subst hWX; exact HC.out.live
        have hpc : PCur wx b s [] d := by subst hWX; exact HC.out
        have hvx : wx.heap[w.heap.size]? = some (.cells #[.int .i64 0, .int .i64 0, .string ⟨#[]⟩, .slice none 0 0, .slice none 0 0] 26 (0, 0)) := by subst hWX; exact HVM.out
        clear hWX r0 r1 r2 r3 r4 g0 g1 g2 g3 g4 c0 c1 c2 f1 f2
        refine (intv_any n wx).mono ?_
        rintro e w5 ⟨rfl, hb5⟩
        have hv5 := (hb5.block w.heap.size (lt_of_block hvx)).trans hvx
        have HPC := Lib.hid (hpc.same (hb5.block b hpc.lt))
        have HX5 := Lib.hid (hxc.trans (Exc.ofAll hb5))
        have HV5 := Lib.hid hv5
        obtain ⟨g0, g1, g2, g3, g4⟩ := box5 hv5
        obtain ⟨r0, r1, r2, r3, r4⟩ := c5of hv5
        clear hb5 hv5 hvx hpc hxc
        go_wp2
        have hp5 := put5 (.int .i64 2) (.int .i64 n) (.string ⟨#[]⟩) (.slice none 0 0) (.slice none 0 0) HV5.out
        have ho5 := put5_only (w := w5) (b := w.heap.size) (.int .i64 2) (.int .i64 n) (.string ⟨#[]⟩) (.slice none 0 0) (.slice none 0 0)
        generalize ((((w5.setCell _ _).setCell _ _).setCell _ _).setCell _ _).setCell _ _ = W9 at hp5 ho5 ⊢
        obtain ⟨z0, z1, z2, z3, z4⟩ := c5of hp5
        refine bodyPost_ret (v := .tuple #[.agg #[.int .i64 2, .int .i64 n, .string ⟨#[]⟩, .slice none 0 0, .slice none 0 0], .int .i64 0]) (by simp [results, Try.results95, go_sem, z0, z1, z2, z3, z4]) rfl ?_
        exact PGot.yes HR.out (HX5.out.box ho5 (Nat.le_refl _)) (VIn.flat (by decide) HBD.out (by decide)) (by rw [← HPA.out]; exact HPC.out.same (ho5.block b (by omega)))
    | cons c t =>
      obtain ⟨hk, hb⟩ := hc.byte
      obtain ⟨c0, c1, c2, f1, f2⟩ := hc.cells
      clear hc
      have HAT := Lib.hid HC.out.at
      have hkk : s.size - (c :: t).length = s.size - (c :: t).length := rfl
      cases hbl : pSign c with
      | true =>
        generalize hkk : s.size - (c :: t).length = k at hk hb c1 HAT
        have HKK := Lib.hid hkk
        have hk' : (k : Int) < (s.size : Int) := by omega
        have HI := Lib.hid (fun w => isOf_is c true (s[k].toNat : Int) w (by rw [hb]) hbl)
        have HM := Lib.hid (fun n => (HC.out.drewN n).move 1 (by simp) ((k : Int) + 1) (by rw [HKK.out]; rfl))
        have HS := Lib.hid (show pPast t = pPast l by rw [← HSK.out]; simp [pPast, hbl])
        clear hb hbl hkk
        go_wp2
        go_quiet (first | (go_at_call 113; refine Calls.quiet_same (HI.out _)))
        go_wp2
        go_roundw
        case rel => exact ⟨t, HM.out _, HO.out.trans ((only_drewN (Only.refl _ _) _).trans (only_set _)), HS.out, by have := HLL.out; simp only [List.length_cons] at this; omega⟩
        case measure =>
          have e1 := HAT.out
          have e3 := HKK.out
          have e4 := HC.out.1
          rw [(HM.out _).at, e1]
          simp only [List.length_cons, List.drop_succ_cons, List.drop_zero] at e3 e4 ⊢
          omega
      | false =>
        have HPA := Lib.hid (show c :: t = pPast l by rw [← HSK.out]; simp [pPast, hbl])
        clear hkk
        generalize hkk : s.size - (c :: t).length = k at hk hb c1 HAT
        have HKK := Lib.hid hkk
        have hk' : (k : Int) < (s.size : Int) := by omega
        have HI0 := Lib.hid (fun w => isOf_is c false (s[k].toNat : Int) w (by rw [hb]) hbl)
        clear hb hbl hkk
        go_wp2
        go_quiet (first | (go_at_call 113; refine Calls.quiet_same (HI0.out _)))
        go_wp2_with fail
        clear HI0
        have HSL := Lib.hid (show (s.extract (s.size - l.length) k).data.toList = pRun l by
          have e1 := HP.out.cut HLL.out
          rw [HKK.out] at e1
          rw [pRun_take, ← HPA.out]
          exact e1)
        have HXC := Lib.hid ((Exc.of (S := fun x => x = b) HB0.out (fun k h1 h2 => by omega)).only HO.out)
        have hfa : ((s.size - l.length : Nat) : Int) ≤ (k : Int) := by have h1 := HLL.out; have h2 := HP.out.1; have h3 := HC.out.1; have h4 := HKK.out; omega
        have hfb : (k : Int) ≤ (s.size : Int) := by omega
        have HXS := Lib.hid (show (s.extract (s.size - l.length) k).size ≤ maxLen by rw [ByteArray.size_extract]; have := HSZ.out; omega)
        have hvm : wr.heap[w.heap.size]? = some (.cells #[.int .i64 0, .int .i64 0, .string ⟨#[]⟩, .slice none 0 0, .slice none 0 0] 26 (0, 0)) := (HO.out.block _ (by omega)).trans HV0.out
        have HVM := Lib.hid hvm
        obtain ⟨g0, g1, g2, g3, g4⟩ := box5 hvm
        obtain ⟨r0, r1, r2, r3, r4⟩ := c5of hvm
        clear hvm
        generalize s.size - l.length = f0 at HSL hfa HXS ⊢
        cases hpi : pInt (pRun l) with
        | none =>
          have HR := Lib.hid (show pNumber l = .error 3 by unfold pNumber; rw [hpi])
          have HI := Lib.hid (fun w => integer_none (s.extract f0 k) w HXS.out (by rw [HSL.out]; exact hpi))
          clear hpi
          go_quiet (first | (go_at_call 114; refine Calls.quiet_same2 (HI.out _)))
          go_wp2
          generalize hWX : wr.drewN _ = wx
          have hxc : Exc (fun x => x = b) w wx := by subst hWX; exact HXC.out.drewN _
          have hlv : PLive wx b s d := by subst hWX; exact HC.out.live
          have hvx : wx.heap[w.heap.size]? = some (.cells #[.int .i64 0, .int .i64 0, .string ⟨#[]⟩, .slice none 0 0, .slice none 0 0] 26 (0, 0)) := by subst hWX; exact HVM.out
          have hp5 := put5 (.int .i64 0) (.int .i64 0) (.string ⟨#[]⟩) (.slice none 0 0) (.slice none 0 0) hvx
          have ho5 := put5_only (w := wx) (b := w.heap.size) (.int .i64 0) (.int .i64 0) (.string ⟨#[]⟩) (.slice none 0 0) (.slice none 0 0)
          generalize ((((wx.setCell _ _).setCell _ _).setCell _ _).setCell _ _).setCell _ _ = W9 at hp5 ho5 ⊢
          obtain ⟨z0, z1, z2, z3, z4⟩ := c5of hp5
          refine bodyPost_ret (v := .tuple #[vZ, .int .i64 3]) (by simp [results, Try.results95, go_sem, z0, z1, z2, z3, z4, vZ]) rfl ?_
          exact PGot.no HR.out (by decide) (hxc.box ho5 (Nat.le_refl _)) (hlv.same (ho5.block b (by omega)))
        | some n =>
          have HR := Lib.hid (show pNumber l = .ok (jInt n, pPast l) by unfold pNumber; rw [hpi])
          have HBD := Lib.hid (wf_int (pInt_bound hpi))
          have HI := Lib.hid (fun w => integer_some (s.extract f0 k) n w HXS.out (by rw [HSL.out]; exact hpi))
          clear hpi
          go_quiet (first | (go_at_call 114; refine Calls.quiet_same2 (HI.out _)))
          go_wp2_with fail
          generalize hWX : wr.drewN _ = wx
          have hxc : Exc (fun x => x = b) w wx := by subst hWX; exact HXC.out.drewN _
          have hlv : PLive wx b s d := by subst hWX; exact HC.out.live
          have hpc : PCur wx b s (c :: t) d := by subst hWX; exact HC.out
          have hvx : wx.heap[w.heap.size]? = some (.cells #[.int .i64 0, .int .i64 0, .string ⟨#[]⟩, .slice none 0 0, .slice none 0 0] 26 (0, 0)) := by subst hWX; exact HVM.out
          clear hWX r0 r1 r2 r3 r4 g0 g1 g2 g3 g4 c0 c1 c2 f1 f2
          refine (intv_any n wx).mono ?_
          rintro e w5 ⟨rfl, hb5⟩
          have hv5 := (hb5.block w.heap.size (lt_of_block hvx)).trans hvx
          have HPC := Lib.hid (hpc.same (hb5.block b hpc.lt))
          have HX5 := Lib.hid (hxc.trans (Exc.ofAll hb5))
          have HV5 := Lib.hid hv5
          obtain ⟨g0, g1, g2, g3, g4⟩ := box5 hv5
          obtain ⟨r0, r1, r2, r3, r4⟩ := c5of hv5
          clear hb5 hv5 hvx hpc hxc
          go_wp2
          have hp5 := put5 (.int .i64 2) (.int .i64 n) (.string ⟨#[]⟩) (.slice none 0 0) (.slice none 0 0) HV5.out
          have ho5 := put5_only (w := w5) (b := w.heap.size) (.int .i64 2) (.int .i64 n) (.string ⟨#[]⟩) (.slice none 0 0) (.slice none 0 0)
          generalize ((((w5.setCell _ _).setCell _ _).setCell _ _).setCell _ _).setCell _ _ = W9 at hp5 ho5 ⊢
          obtain ⟨z0, z1, z2, z3, z4⟩ := c5of hp5
          refine bodyPost_ret (v := .tuple #[.agg #[.int .i64 2, .int .i64 n, .string ⟨#[]⟩, .slice none 0 0, .slice none 0 0], .int .i64 0]) (by simp [results, Try.results95, go_sem, z0, z1, z2, z3, z4]) rfl ?_
          exact PGot.yes HR.out (HX5.out.box ho5 (Nat.le_refl _)) (VIn.flat (by decide) HBD.out (by decide)) (by rw [← HPA.out]; exact HPC.out.same (ho5.block b (by omega)))
end Go.Proofs.Ythcphfpkinfjoaa
