/-
  Hexadecimal digits: plain, and what Hex of package sha and of the document return.
  Conditions: none.
-/
import Derived.Test.YtfjkinmmidmjaaaDoorShW
import Derived.Laws.AppendOwnNone
namespace Go.Proofs.YtfjkinmmidmjaaaDoor
open Go.RowKit

/-- append of bytes that are read, behind bytes of the call's own. -/
theorem wpList_append_bys {ops : Array Oper} {rest : List Oper} {o : Oper} {a : Act} {Q : Exit → Act → World → Prop} {w : World} (hgd : o.guard = none) (s x : Operand)
    (ho : o.op = .call { callee := .builtin .append, args := #[s, x], argTypes := #[22, 22] }) (base : Nat) (v : Value) (xs : List UInt8) (hs : a.eval s = v) (hown : Owns w base v xs)
    (sv : Value) (l : List UInt8) (hx : a.eval x = sv) (hsrc : Bys w sv l) (hnm : xs.length + l.length ≤ 1000000) (hbase : base ≤ w.heap.size)
    (h : ∀ v' w', Owns w' base v' (xs ++ l) → w.grownBy w' v.ownBlock → wpList Tryd.prog ops Q rest (a.put o.dst v') w') : wpList Tryd.prog ops Q (o :: rest) a w := by
  obtain ⟨i0, hi0, hz0, hz1, hz2⟩ := info_parts info_u8
  obtain ⟨ao, cap, rfl, hc, hor⟩ := hsrc
  cases ao with
  | none =>
    have h0 : cap = 0 := hc.2.2 rfl
    subst h0
    have hl : l = [] := List.eq_nil_of_length_eq_zero (by have := hc.1; omega)
    subst hl
    refine wpList_append_own_none hgd s x _ ho base _ i0 1 Tryd.underlying22 hi0 v xs.length (byteVals xs) hs hown hx ?_
    exact h v w (by simpa using hown) (World.grownBy.refl w _)
  | some ad =>
    refine wpList_append_own w hgd s x _ ho base _ i0 _ 1 1 Tryd.underlying22 hi0 hz0 hz1 hz2 rfl (by decide) v xs.length (byteVals xs) hs hown ad l.length cap (byteVals l) hx (by simp [byteVals]) ?_ (news_one l) (by unfold maxLen; omega) (by omega) hbase (fun v' w' h2 h3 _ => h v' w' (Owns.of_append h2 rfl rfl) h3)
    intro j u hu
    rcases hor with rfl | ⟨g, off, e, hg, hcell⟩
    · simp [byteVals] at hu
    · cases e
      have hj : j < l.length := by
        obtain ⟨h, _⟩ := List.getElem?_eq_some_iff.1 hu
        simpa [byteVals] using h
      rw [Addr.add_lit, hcell j hj, ← hu]
      simp [byteVals, List.getElem?_eq_getElem hj]
theorem owns_empty (w : World) (B : Nat) (hB : B ≤ w.heap.size) : Owns (w.alloc (.cells #[] 5)) B (.slice (some ⟨w.heap.size, 0, none⟩) 0 0) [] := by
  refine ⟨rfl, .inr ⟨w.heap.size, 0, #[], rfl, hB, ?_, Nat.le_refl _, by decide, rfl, rfl⟩⟩
  show (w.heap.push _)[w.heap.size]? = _
  simp
def hexD : ByteArray := ⟨#[48, 49, 50, 51, 52, 53, 54, 55, 56, 57, 97, 98, 99, 100, 101, 102]⟩
/-- A digit. -/
def hd (n : Nat) : UInt8 := hexD.data.toList.getD n 0
/-- The digits of bytes. -/
def hx : List UInt8 → List UInt8
  | [] => []
  | x :: r => hd (x.toNat / 16) :: hd (x.toNat % 16) :: hx r
theorem hx_app : ∀ (a b : List UInt8), hx (a ++ b) = hx a ++ hx b
  | [], _ => rfl
  | x :: r, b => by simp only [List.cons_append, hx]; rw [hx_app r b]
theorem hx_len : ∀ (a : List UInt8), (hx a).length = 2 * a.length
  | [] => rfl
  | x :: r => by simp only [hx, List.length_cons]; rw [hx_len r]; omega
theorem hd_inj : ∀ (a b : Fin 16), hd a.val = hd b.val → a = b := by decide +kernel
theorem hx_inj : ∀ (a b : List UInt8), hx a = hx b → a = b
  | [], [], _ => rfl
  | [], y :: s, h => by simp [hx] at h
  | x :: r, [], h => by simp [hx] at h
  | x :: r, y :: s, h => by
    simp only [hx, List.cons.injEq] at h
    obtain ⟨h1, h2, h3⟩ := h
    have hx8 := x.toNat_lt
    have hy8 := y.toNat_lt
    have e1 := hd_inj ⟨x.toNat / 16, by omega⟩ ⟨y.toNat / 16, by omega⟩ h1
    have e2 := hd_inj ⟨x.toNat % 16, by omega⟩ ⟨y.toNat % 16, by omega⟩ h2
    simp only [Fin.mk.injEq] at e1 e2
    have e3 : x = y := UInt8.toNat_inj.1 (by omega)
    rw [e3, hx_inj r s h3]
theorem hx_snoc (l : List UInt8) (k : Nat) (h : k < l.length) : hx (l.take (k + 1)) = hx (l.take k) ++ [hd (l[k].toNat / 16), hd (l[k].toNat % 16)] := by
  rw [List.take_add_one, List.getElem?_eq_getElem h, hx_app]
  rfl
theorem hexD_at (n : Nat) (h : n < hexD.size) : hexD[n] = hd n := by
  unfold hd
  rw [List.getD_eq_getElem?_getD]
  show hexD.data[n] = _
  rw [List.getElem?_eq_getElem (by simpa using h)]
  simp
set_option maxRecDepth 100000 in
set_option maxHeartbeats 2000000 in
theorem hexC_any (v : Value) (l : List UInt8) (w : World) (hlen : l.length ≤ 100000) (hl : Bys w v l) :
    Calls Tryd.prog 10 #[v] w fun e w' => e = .returned (.string ⟨(hx l).toArray⟩) ∧ Below w.heap.size w w' := by
  obtain ⟨ao, cap, rfl, _, hao⟩ := hl
  obtain ⟨i0, hi, hz0, hz1, hz2⟩ := info_parts info_u8
  have HAO := Lib.hid hao
  clear hao
  go_enter Tryd.func10, Tryd.ntmps10
  go_wp2_with fail
  go_loopw [3, 8] (fun ov iv wr => ∃ (k : Nat) (o : Value), ov = o ∧ iv = .int .i64 k ∧ k ≤ l.length ∧ Owns wr w.heap.size o (hx (l.take k)) ∧ Below w.heap.size w wr) (fun _ i _ => l.length - (intOf i).toNat)
  case atStart => exact ⟨0, _, rfl, rfl, Nat.zero_le _, World.ownsRow_nil _ _ _ _, Below.refl _ _⟩
  case round =>
    obtain ⟨k, ov, rfl, rfl, hk, hown, hbel⟩ := hrel
    have HBEL := Lib.hid hbel
    clear hbel
    by_cases hlt : k < l.length
    · have hlt' : (k : Int) < (l.length : Int) := by omega
      obtain ⟨g, off, rfl, hg, hcell⟩ : ∃ g off, ao = some ⟨g, off, none⟩ ∧ g < w.heap.size ∧ ∀ i (h : i < l.length), w.cell? ⟨g, off + i, none⟩ = some (.int .u8 (l[i].toNat : Int)) := by
        rcases HAO.out with rfl | h
        · simp at hlt
        · exact h
      have hce : wr.cell? ⟨g, off + k, none⟩ = some (.int .u8 (l[k].toNat : Int)) := by
        rw [World.cell?_of_block (HBEL.out.block g hg)]; exact hcell k hlt
      have HSN := Lib.hid (hx_snoc l k hlt)
      have HLX := Lib.hid (show (hx (l.take k)).length ≤ 200000 by rw [hx_len, List.length_take]; omega)
      generalize l[k] = c at hce HSN
      obtain ⟨xs, hxs⟩ : ∃ xs, hx (l.take k) = xs := ⟨_, rfl⟩
      rw [hxs] at hown HSN HLX
      have HOWN := Lib.hid hown
      have hc8 := c.toNat_lt
      have hbits : bits .and .u8 (c.toNat : Int) 15 = (c.toNat : Int) % 16 := u8_and15 _ (by omega) (by omega)
      have g1 : 0 ≤ (c.toNat : Int) / 16 := by omega
      have g2 : (c.toNat : Int) / 16 < 16 := by omega
      have g3 : 0 ≤ (c.toNat : Int) % 16 := by omega
      have g4 : (c.toNat : Int) % 16 < 16 := by omega
      have hk1 : ((c.toNat : Int) / 16).toNat < hexD.size := by show _ < 16; omega
      have hk2 : ((c.toNat : Int) % 16).toNat < hexD.size := by show _ < 16; omega
      have HD1 := Lib.hid (show hexD[((c.toNat : Int) / 16).toNat]'hk1 = hd (c.toNat / 16) by rw [hexD_at]; congr 1)
      have HD2 := Lib.hid (show hexD[((c.toNat : Int) % 16).toNat]'hk2 = hd (c.toNat % 16) by rw [hexD_at]; congr 1)
      have hsz : w.heap.size ≤ wr.heap.size := HBEL.out.size
      have hxl : xs.length ≤ 200000 := HLX.out
      clear hxs hcell hown
      go_wp2_with fail
      go_region_law ((refine step_append_lies _ (by rfl) _ _ _ (by rfl) w.heap.size 5 i0 _ 1 1 Tryd.underlying22 hi hz0 hz1 hz2 rfl (by decide) _ xs.length (byteVals xs) (by rfl) (by exact ((HOWN.out.alloc _).drew)) ⟨wr.heap.size, 0, none⟩ 2 2 (byteVals [hexD[((c.toNat : Int) / 16).toNat]'hk1, hexD[((c.toNat : Int) % 16).toNat]'hk2]) (by rfl) (by rfl) (by exact news_at wr [hexD[((c.toNat : Int) / 16).toNat]'hk1, hexD[((c.toNat : Int) % 16).toNat]'hk2]) (news_one _) (by decide) (by unfold maxLen; omega) (by omega) (by simp; omega) _ rfl ?_; intro g cap w' hown' hgrow hat hlg; clear hat hlg))
      all_goals
        have HO2 := Lib.hid (Owns.of_append hown' rfl (show hx (l.take (k + 1)) = _ by rw [HSN.out, HD1.out, HD2.out]))
        have HB2 := Lib.hid (HBEL.out.trans (Below.of_append_drew hsz HOWN.out hgrow))
        clear hown' hgrow
        go_wp2
        go_roundw
        case rel => exact ⟨k + 1, _, rfl, rfl, hlt, HO2.out, HB2.out⟩
        case measure => simp [intOf]; omega
    · have hlt' : ¬ (k : Int) < (l.length : Int) := by omega
      have hstr := hown.toStr
      rw [List.take_of_length_le (show l.length ≤ k by omega)] at hstr
      clear hown HAO
      go_wp2
      go_ret
      exact ⟨rfl, HBEL.out⟩
set_option maxRecDepth 100000 in
set_option maxHeartbeats 2000000 in
theorem hexR_any (v : Value) (l : List UInt8) (w : World) (hlen : l.length ≤ 100000) (hl : Bys w v l) :
    Calls Tryd.prog 11 #[v] w fun e w' => e = .returned (.string ⟨(hx l).toArray⟩) ∧ Below w.heap.size w w' := by
  obtain ⟨ao, cap, rfl, _, hao⟩ := hl
  obtain ⟨i0, hi, hz0, hz1, hz2⟩ := info_parts info_u8
  have HAO := Lib.hid hao
  clear hao
  go_enter Tryd.func11, Tryd.ntmps11
  go_wp2_with fail
  go_loopw [3, 4] (fun ov iv wr => ∃ (k : Nat) (o : Value), ov = o ∧ iv = .int .i64 k ∧ k ≤ l.length ∧ Owns wr w.heap.size o (hx (l.take k)) ∧ Below w.heap.size w wr) (fun _ i _ => l.length - (intOf i).toNat)
  case atStart => exact ⟨0, _, rfl, rfl, Nat.zero_le _, World.ownsRow_nil _ _ _ _, Below.refl _ _⟩
  case round =>
    obtain ⟨k, ov, rfl, rfl, hk, hown, hbel⟩ := hrel
    have HBEL := Lib.hid hbel
    clear hbel
    by_cases hlt : k < l.length
    · have hlt' : (k : Int) < (l.length : Int) := by omega
      obtain ⟨g, off, rfl, hg, hcell⟩ : ∃ g off, ao = some ⟨g, off, none⟩ ∧ g < w.heap.size ∧ ∀ i (h : i < l.length), w.cell? ⟨g, off + i, none⟩ = some (.int .u8 (l[i].toNat : Int)) := by
        rcases HAO.out with rfl | h
        · simp at hlt
        · exact h
      have hce : wr.cell? ⟨g, off + k, none⟩ = some (.int .u8 (l[k].toNat : Int)) := by
        rw [World.cell?_of_block (HBEL.out.block g hg)]; exact hcell k hlt
      have HSN := Lib.hid (hx_snoc l k hlt)
      have HLX := Lib.hid (show (hx (l.take k)).length ≤ 200000 by rw [hx_len, List.length_take]; omega)
      generalize l[k] = c at hce HSN
      obtain ⟨xs, hxs⟩ : ∃ xs, hx (l.take k) = xs := ⟨_, rfl⟩
      rw [hxs] at hown HSN HLX
      have HOWN := Lib.hid hown
      have hc8 := c.toNat_lt
      have hbits : bits .and .u8 (c.toNat : Int) 15 = (c.toNat : Int) % 16 := u8_and15 _ (by omega) (by omega)
      have g1 : 0 ≤ (c.toNat : Int) / 16 := by omega
      have g2 : (c.toNat : Int) / 16 < 16 := by omega
      have g3 : 0 ≤ (c.toNat : Int) % 16 := by omega
      have g4 : (c.toNat : Int) % 16 < 16 := by omega
      have hk1 : ((c.toNat : Int) / 16).toNat < hexD.size := by show _ < 16; omega
      have hk2 : ((c.toNat : Int) % 16).toNat < hexD.size := by show _ < 16; omega
      have HD1 := Lib.hid (show hexD[((c.toNat : Int) / 16).toNat]'hk1 = hd (c.toNat / 16) by rw [hexD_at]; congr 1)
      have HD2 := Lib.hid (show hexD[((c.toNat : Int) % 16).toNat]'hk2 = hd (c.toNat % 16) by rw [hexD_at]; congr 1)
      have hsz : w.heap.size ≤ wr.heap.size := HBEL.out.size
      have hxl : xs.length ≤ 200000 := HLX.out
      clear hxs hcell hown
      go_wp2_with fail
      go_region_law ((refine step_append_lies _ (by rfl) _ _ _ (by rfl) w.heap.size 5 i0 _ 1 1 Tryd.underlying22 hi hz0 hz1 hz2 rfl (by decide) _ xs.length (byteVals xs) (by rfl) (by exact ((HOWN.out.alloc _).drew)) ⟨wr.heap.size, 0, none⟩ 2 2 (byteVals [hexD[((c.toNat : Int) / 16).toNat]'hk1, hexD[((c.toNat : Int) % 16).toNat]'hk2]) (by rfl) (by rfl) (by exact news_at wr [hexD[((c.toNat : Int) / 16).toNat]'hk1, hexD[((c.toNat : Int) % 16).toNat]'hk2]) (news_one _) (by decide) (by unfold maxLen; omega) (by omega) (by simp; omega) _ rfl ?_; intro g cap w' hown' hgrow hat hlg; clear hat hlg))
      all_goals
        have HO2 := Lib.hid (Owns.of_append hown' rfl (show hx (l.take (k + 1)) = _ by rw [HSN.out, HD1.out, HD2.out]))
        have HB2 := Lib.hid (HBEL.out.trans (Below.of_append_drew hsz HOWN.out hgrow))
        clear hown' hgrow
        go_wp2
        go_roundw
        case rel => exact ⟨k + 1, _, rfl, rfl, hlt, HO2.out, HB2.out⟩
        case measure => simp [intOf]; omega
    · have hlt' : ¬ (k : Int) < (l.length : Int) := by omega
      have hstr := hown.toStr
      rw [List.take_of_length_le (show l.length ≤ k by omega)] at hstr
      clear hown HAO
      go_wp2
      go_ret
      exact ⟨rfl, HBEL.out⟩
end Go.Proofs.YtfjkinmmidmjaaaDoor
