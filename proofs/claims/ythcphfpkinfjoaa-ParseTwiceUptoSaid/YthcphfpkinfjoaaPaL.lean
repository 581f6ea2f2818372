/-
  Plain facts on a text read as a value: what is left grows shorter.
  The parser's step 'items': all items up to a bracket.
  The parser's step 'within': a bracket, all items, the other bracket.
  Conditions: none.
-/
import Derived.Test.YthcphfpkinfjoaaPaI
namespace Go.Proofs.Ythcphfpkinfjoaa
open Go.RowKit

theorem skip_cons {l t : List UInt8} {c : UInt8} (h : pSkip l = c :: t) : t.length < l.length := by
  have := pSkip_len l; rw [h] at this; simp only [List.length_cons] at this; omega
theorem pKey_len {ks : List ByteArray} {l r : List UInt8} {k : ByteArray} (h : pKey ks l = .ok (k, r)) : r.length < l.length := by
  unfold pKey at h
  split at h
  · cases h
  · rename_i c t hct
    split at h
    · split at h
      · cases h
      · rename_i x n hu
        split at h
        · cases h
        · simp only [Except.ok.injEq, Prod.mk.injEq] at h
          have h1 := uUnq_len hu
          have h2 := pSkip_len l
          rw [← h.2, List.length_drop]
          rw [hct] at h2
          omega
    · cases h
theorem pPast_lt {c : UInt8} {t : List UInt8} (h : pSign c = true) : (pPast (c :: t)).length < (c :: t).length := by
  simp only [pPast, h, if_true, List.length_cons]
  have := pPast_len t
  omega
theorem sign_of {c : UInt8} (h : c.toNat = 45 ∨ pDig c = true) : pSign c = true := by
  unfold pSign
  rcases h with h | h
  · simp [h]
  · simp [h]
theorem pWord_len {l r : List UInt8} {v : VT} (h : pWord l = .ok (v, r)) : r.length < l.length := by
  unfold pWord at h
  split at h
  · rename_i h1
    rw [List.isPrefixOf_iff_prefix] at h1
    have := h1.length_le
    simp only [Except.ok.injEq, Prod.mk.injEq] at h
    rw [← h.2, List.length_drop]
    simp only [wNull, List.length_cons, List.length_nil] at this
    omega
  split at h
  · rename_i h1
    rw [List.isPrefixOf_iff_prefix] at h1
    have := h1.length_le
    simp only [Except.ok.injEq, Prod.mk.injEq] at h
    rw [← h.2, List.length_drop]
    simp only [wTrue, List.length_cons, List.length_nil] at this
    omega
  split at h
  · rename_i h1
    rw [List.isPrefixOf_iff_prefix] at h1
    have := h1.length_le
    simp only [Except.ok.injEq, Prod.mk.injEq] at h
    rw [← h.2, List.length_drop]
    simp only [wFalse, List.length_cons, List.length_nil] at this
    omega
  · cases h
theorem rList_ok {q : PR (List VT)} {v : VT} {r : List UInt8} (h : rList q = .ok (v, r)) : ∃ vs, q = .ok (vs, r) ∧ v = jList vs := by
  cases q with
  | error e => cases h
  | ok p => obtain ⟨vs, r'⟩ := p; simp only [rList, Except.ok.injEq, Prod.mk.injEq] at h; obtain ⟨rfl, rfl⟩ := h; exact ⟨vs, rfl, rfl⟩
theorem rMap_ok {q : PR (List (ByteArray × VT))} {v : VT} {r : List UInt8} (h : rMap q = .ok (v, r)) : ∃ ms, q = .ok (ms, r) ∧ v = jMap (mapM ms) := by
  cases q with
  | error e => cases h
  | ok p => obtain ⟨vs, r'⟩ := p; simp only [rMap, Except.ok.injEq, Prod.mk.injEq] at h; obtain ⟨rfl, rfl⟩ := h; exact ⟨vs, rfl, rfl⟩
theorem rCons_ok {α : Type} {x : α} {q : PR (List α)} {vs : List α} {r : List UInt8} (h : rCons x q = .ok (vs, r)) : ∃ us, q = .ok (us, r) ∧ vs = x :: us := by
  cases q with
  | error e => cases h
  | ok p => obtain ⟨us, r'⟩ := p; simp only [rCons, Except.ok.injEq, Prod.mk.injEq] at h; obtain ⟨rfl, rfl⟩ := h; exact ⟨us, rfl, rfl⟩
theorem pAll_len : ∀ f, (∀ d l v r, pVal f d l = .ok (v, r) → r.length < l.length) ∧ (∀ d l vs r, pItems f d l = .ok (vs, r) → r.length < l.length) ∧ (∀ d ks l ms r, pMems f d ks l = .ok (ms, r) → r.length < l.length)
  | 0 => ⟨fun d l v r h => by simp [pVal] at h, fun d l v r h => by simp [pItems] at h, fun d ks l v r h => by simp [pMems] at h⟩
  | f + 1 => by
    obtain ⟨ih1, ih2, ih3⟩ := pAll_len f
    refine ⟨fun d l v r h => ?_, fun d l vs r h => ?_, fun d ks l ms r h => ?_⟩
    · simp only [pVal] at h
      split at h
      · cases h
      rename_i c t hct
      have ht := skip_cons hct
      have hcl : (c :: t).length ≤ l.length := by rw [← hct]; exact pSkip_len l
      split at h
      · split at h
        · cases h
        split at h
        · obtain ⟨vs, h1, _⟩ := rList_ok h
          have := ih2 _ _ _ _ h1; omega
        · rename_i x r' hx
          have hx' := skip_cons hx
          split at h
          · simp only [Except.ok.injEq, Prod.mk.injEq] at h; rw [← h.2]; omega
          · obtain ⟨vs, h1, _⟩ := rList_ok h
            have := ih2 _ _ _ _ h1; omega
      split at h
      · split at h
        · cases h
        split at h
        · obtain ⟨vs, h1, _⟩ := rMap_ok h
          have := ih3 _ _ _ _ _ h1; omega
        · rename_i x r' hx
          have hx' := skip_cons hx
          split at h
          · simp only [Except.ok.injEq, Prod.mk.injEq] at h; rw [← h.2]; omega
          · obtain ⟨vs, h1, _⟩ := rMap_ok h
            have := ih3 _ _ _ _ _ h1; omega
      split at h
      · unfold pText at h
        split at h
        · rename_i x n hu
          have h1 := uUnq_len hu
          simp only [Except.ok.injEq, Prod.mk.injEq] at h
          rw [← h.2, List.length_drop]; omega
        · cases h
      split at h
      · rename_i hs
        unfold pNumber at h
        split at h
        · simp only [Except.ok.injEq, Prod.mk.injEq] at h
          have := pPast_lt (t := t) (sign_of hs)
          rw [← h.2]; omega
        · cases h
      · have := pWord_len h; omega
    · simp only [pItems] at h
      split at h
      · cases h
      rename_i v' r1 h1
      have hl1 := ih1 _ _ _ _ h1
      split at h
      · cases h
      rename_i c t hct
      have ht := skip_cons hct
      split at h
      · simp only [Except.ok.injEq, Prod.mk.injEq] at h; rw [← h.2]; omega
      split at h
      · obtain ⟨us, h2, _⟩ := rCons_ok h
        have := ih2 _ _ _ _ h2; omega
      · cases h
    · simp only [pMems] at h
      split at h
      · cases h
      rename_i k r1 h1
      have hl1 := pKey_len h1
      split at h
      · cases h
      rename_i c t hct
      have ht := skip_cons hct
      split at h
      · split at h
        · cases h
        rename_i v' r2 h2
        have hl2 := ih1 _ _ _ _ h2
        split at h
        · cases h
        rename_i c' t' hct'
        have ht' := skip_cons hct'
        split at h
        · simp only [Except.ok.injEq, Prod.mk.injEq] at h; rw [← h.2]; omega
        split at h
        · obtain ⟨us, h3, _⟩ := rCons_ok h
          have := ih3 _ _ _ _ _ h3; omega
        · cases h
      · cases h
theorem pVal_len {f d : Nat} {l r : List UInt8} {v : VT} (h : pVal f d l = .ok (v, r)) : r.length < l.length := (pAll_len f).1 d l v r h
theorem pVal_skip (f d : Nat) (l : List UInt8) : pVal f d (pSkip l) = pVal f d l := by
  cases f with
  | zero => simp [pVal]
  | succ f => simp only [pVal, pSkip_twice]
theorem pItems_skip (f d : Nat) (l : List UInt8) : pItems f d (pSkip l) = pItems f d l := by
  cases f with
  | zero => simp [pItems]
  | succ f => simp only [pItems, pVal_skip]
theorem pKey_skip (ks : List ByteArray) (l : List UInt8) : pKey ks (pSkip l) = pKey ks l := by unfold pKey; rw [pSkip_twice]
theorem pMems_skip (f d : Nat) (ks : List ByteArray) (l : List UInt8) : pMems f d ks (pSkip l) = pMems f d ks l := by
  cases f with
  | zero => simp [pMems]
  | succ f => simp only [pMems, pKey_skip]
theorem pMems_one (f d : Nat) (ks : List ByteArray) (l : List UInt8) : pMems (f + 1) d ks l = match pOne f d ks l with
    | .error e => .error e
    | .ok (x, r) => match pSkip r with
      | [] => .error 2
      | c :: t => if c.toNat = 125 then .ok ([x], t) else if c.toNat = 44 then rCons x (pMems f d (ks ++ [x.1]) t) else .error 2 := by
  simp only [pMems, pOne]
  cases pKey ks l with
  | error e => rfl
  | ok p =>
    obtain ⟨k, r⟩ := p
    simp only
    cases pSkip r with
    | nil => rfl
    | cons c t =>
      simp only
      by_cases h : c.toNat = 58
      · rw [if_pos h, if_pos h]
        cases pVal f d t with
        | error e => rfl
        | ok q => rfl
      · rw [if_neg h, if_neg h]
def rApp {α : Type} (us : List α) : PR (List α) → PR (List α)
  | .ok (vs, u) => .ok (us ++ vs, u)
  | .error e => .error e
theorem rApp_cons {α : Type} (us : List α) (x : α) (q : PR (List α)) : rApp us (rCons x q) = rApp (us ++ [x]) q := by
  cases q with
  | error e => rfl
  | ok p => obtain ⟨vs, r⟩ := p; simp [rApp, rCons]
theorem rApp_nil {α : Type} (q : PR (List α)) : rApp [] q = q := by
  cases q with
  | error e => rfl
  | ok p => rfl
/-- Up to a bracket: nothing, or one item or more. -/
def pIn (x : Nat) {α : Type} (q : PR (List α)) (l : List UInt8) : PR (List α) := match pSkip l with
  | [] => q
  | c :: r => if c.toNat = x then .ok ([], r) else q
end Go.Proofs.Ythcphfpkinfjoaa

namespace Go.Proofs.Ythcphfpkinfjoaa
open Go.RowKit

theorem ESt.go {base b b2 : Nat} {s : ByteArray} {d : Nat} {vs : List VT} {l l' : List UInt8} {w w' : World} (h : ESt base b b2 s d vs l w) (hx : Exc (fun x => x = b) w w') (hp : PCur w' b s l' d) (hl : l'.length ≤ l.length) : ESt base b b2 s d vs l' w' := by
  obtain ⟨h0, h1, h2, h4, h5, h6, got, xs, h8, h9, h10, h11⟩ := h
  have hsz := hx.size
  exact ⟨by omega, h1, h2, h4, hp, by omega, got, xs, (hx.block b2 (by omega) (fun e => h4 e.symm)).trans h8, ownsRow_same h9 (fun k hk => hx.block k (ownsRow_lt h9 k hk).2 (fun e => by have := (ownsRow_lt h9 k hk).1; omega)), h10.keep (fun x hx' => hx.block x hx'.2.1 (by omega)) (fun x hx' => ⟨hx'.1, by omega, hx'.2.2⟩), h11⟩
theorem head_is {l : List UInt8} {x : Nat} (hx : x ≠ 0) (h : pHead l = x) : ∃ c t, pSkip l = c :: t ∧ c.toNat = x := by
  unfold pHead at h
  cases hl : pSkip l with
  | nil => rw [hl] at h; exact absurd h.symm hx
  | cons c t => rw [hl] at h; exact ⟨c, t, rfl, h⟩
theorem pOne_len {f d : Nat} {ks : List ByteArray} {l r : List UInt8} {x : ByteArray × VT} (h : pOne f d ks l = .ok (x, r)) : r.length < l.length := by
  unfold pOne at h
  split at h
  · cases h
  rename_i k r1 h1
  have hl1 := pKey_len h1
  split at h
  · cases h
  rename_i c t hct
  have ht := skip_cons hct
  split at h
  · split at h
    · cases h
    rename_i v' r2 h2
    have hl2 := pVal_len h2
    simp only [Except.ok.injEq, Prod.mk.injEq] at h
    rw [← h.2]; omega
  · cases h

def ItE (base b b2 : Nat) (s : ByteArray) (d : Nat) (w : World) (r : PR (List VT)) (e : Ending) (w' : World) : Prop :=
  Exc (fun x => x = b ∨ x = b2 ∨ base ≤ x) w w' ∧ match r with
    | .error c => e = .returned (.int .i64 (c : Int)) ∧ c ≠ 0 ∧ PLive w' b s d
    | .ok (vs, l') => e = .returned (.int .i64 0) ∧ ESt base b b2 s d vs l' w'
set_option maxRecDepth 100000 in
set_option maxHeartbeats 4000000 in
theorem itemsE_any {base b b2 : Nat} {s : ByteArray} {d f : Nat} {l : List UInt8} {w : World} (hE : ESt base b b2 s d [] l w) (hf : 2 * l.length + 1 < f) (hs : 4 * s.size + 8 ≤ 1000000)
    (hv : ∀ f' l' w, f' < f → 2 * l'.length < f' → PCur w b s l' d → Calls Try.prog 49 #[.pointer (some ⟨b, 0, none⟩)] w (PGot b s d w (pVal f' d l'))) :
    Calls Try.prog 131 #[.pointer (some ⟨b, 0, none⟩), .int .u8 93, .func (.func 110) #[.pointer (some ⟨b2, 0, none⟩)] #[]] w (ItE base b b2 s d w (pIn 93 (pItems f d l) l)) := by
  have HE := Lib.hid hE
  have HV := Lib.hid hv
  have HS := Lib.hid hs
  have HF := Lib.hid hf
  have HSM := Lib.hid (show s.size ≤ maxLen by unfold maxLen; omega)
  have HPC := Lib.hid (show PCur w b s l d from hE.2.2.2.2.1)
  clear hE hv hs hf
  go_enter Try.func131, Try.ntmps131
  go_wp2_with fail
  by_cases h93 : ¬ pHead l = 93
  case neg =>
    obtain ⟨c, t, hct, hc⟩ := head_is (by omega) (show pHead l = 93 by omega)
    have HR := Lib.hid (show pIn 93 (pItems f d l) l = .ok ([], t) by unfold pIn; rw [hct]; simp only; rw [if_pos hc])
    refine (take_yes b s l t c d w 93 (by rw [hc]; rfl) HSM.out HPC.out hct).mono ?_
    rintro e w1 ⟨rfl, hp1, ho1⟩
    have HE1 := Lib.hid (HE.out.go (Exc.ofOnly ho1) hp1 (Nat.le_of_lt (skip_cons hct)))
    have HX1 := Lib.hid ((Exc.ofOnly ho1).mono (S' := fun x => x = b ∨ x = b2 ∨ base ≤ x) (fun x _ h => .inl h))
    clear h93 hct hc hp1 ho1
    go_wp2
    go_ret
    rw [HR.out]
    exact ⟨HX1.out, rfl, HE1.out⟩
  have HIN := Lib.hid (show pIn 93 (pItems f d l) l = pItems f d l by
    unfold pIn
    unfold pHead at h93
    cases hl : pSkip l with
    | nil => rfl
    | cons c t => rw [hl] at h93; simp only at h93 ⊢; rw [if_neg h93])
  refine (take_no b s l d w 93 93 (by rfl) HSM.out HPC.out h93).mono ?_
  rintro e w1 ⟨rfl, hp1, ho1⟩
  have HE1 := Lib.hid (HE.out.go (Exc.ofOnly ho1) hp1 (pSkip_len l))
  have HX1 := Lib.hid ((Exc.ofOnly ho1).mono (S' := fun x => x = b ∨ x = b2 ∨ base ≤ x) (fun x _ h => .inl h))
  clear h93 hp1 ho1
  go_wp2_with fail
  go_loopw [] (fun wr => ∃ (vs : List VT) (l' : List UInt8) (f' : Nat), ESt base b b2 s d vs l' wr ∧ Exc (fun x => x = b ∨ x = b2 ∨ base ≤ x) w wr ∧ 2 * l'.length + 1 < f' ∧ f' ≤ f ∧ rApp vs (pItems f' d l') = pItems f d l) (fun wr => s.size - curAt wr b)
  case atStart => exact ⟨[], pSkip l, f, HE1.out, HX1.out, by have h1 := HF.out; have h2 := pSkip_len l; omega, Nat.le_refl _, by rw [rApp_nil]; exact pItems_skip f d l⟩
  case round =>
    obtain ⟨vs, l', f', hE2, hx2, hf2, hff, hra⟩ := hrel
    obtain ⟨g, rfl⟩ : ∃ g, f' = g + 1 := ⟨f' - 1, by omega⟩
    have HE2 := Lib.hid hE2
    have HX2 := Lib.hid hx2
    have HF2 := Lib.hid hf2
    have HFF := Lib.hid hff
    have HRA := Lib.hid hra
    clear hE2 hx2 hf2 hff hra
    go_wp2_with fail
    refine (enext_any HE2.out HS.out (pVal g d l') (fun w hp => HV.out g l' w (by have := HFF.out; omega) (by have := HF2.out; omega) hp)).mono ?_
    intro e w2 hN
    obtain ⟨hx, hN⟩ := hN
    have HX3 := Lib.hid (HX2.out.trans hx)
    cases hpv : pVal g d l' with
    | error c =>
      rw [hpv] at hN
      obtain ⟨rfl, hc, hlv⟩ := hN
      have hc' : ((c : Int) != 0) = true := by simp; omega
      have HR := Lib.hid (show pIn 93 (pItems f d l) l = .error c by rw [HIN.out, ← HRA.out, pItems, hpv]; rfl)
      go_wp2
      go_ret
      rw [HR.out]
      exact ⟨HX3.out, rfl, hc, hlv⟩
    | ok p =>
      obtain ⟨t, l2⟩ := p
      rw [hpv] at hN
      obtain ⟨rfl, hE3⟩ := hN
      have HPV := Lib.hid hpv
      have HL2 := Lib.hid (show l2.length < l'.length from pVal_len hpv)
      have HE3 := Lib.hid (show ESt base b b2 s d (vs ++ [t]) l2 w2 from hE3 (pVal_len hpv))
      have HP3 := Lib.hid (show PCur w2 b s l2 d from HE3.out.2.2.2.2.1)
      clear hpv hx hE3
      go_wp2_with fail
      by_cases h93 : ¬ pHead l2 = 93
      case neg =>
        obtain ⟨c, t3, hct, hc⟩ := head_is (by omega) (show pHead l2 = 93 by omega)
        have HR := Lib.hid (show pIn 93 (pItems f d l) l = .ok (vs ++ [t], t3) by rw [HIN.out, ← HRA.out, pItems, HPV.out]; simp only; rw [hct]; simp only; rw [if_pos hc]; rfl)
        refine (take_yes b s l2 t3 c d w2 93 (by rw [hc]; rfl) HSM.out HP3.out hct).mono ?_
        rintro e w3 ⟨rfl, hp3, ho3⟩
        have HE4 := Lib.hid (HE3.out.go (Exc.ofOnly ho3) hp3 (Nat.le_of_lt (skip_cons hct)))
        have HX4 := Lib.hid (HX3.out.trans ((Exc.ofOnly ho3).mono (S' := fun x => x = b ∨ x = b2 ∨ base ≤ x) (fun x _ h => .inl h)))
        clear h93 hct hc hp3 ho3
        go_wp2
        go_ret
        rw [HR.out]
        exact ⟨HX4.out, rfl, HE4.out⟩
      refine (take_no b s l2 d w2 93 93 (by rfl) HSM.out HP3.out h93).mono ?_
      rintro e w3 ⟨rfl, hp3, ho3⟩
      have HE4 := Lib.hid (HE3.out.go (Exc.ofOnly ho3) hp3 (pSkip_len l2))
      have HX4 := Lib.hid (HX3.out.trans ((Exc.ofOnly ho3).mono (S' := fun x => x = b ∨ x = b2 ∨ base ≤ x) (fun x _ h => .inl h)))
      have HP4 := Lib.hid hp3
      have H93 := Lib.hid h93
      clear h93 hp3 ho3
      go_wp2_with fail
      by_cases h44 : ¬ pHead (pSkip l2) = 44
      · have HR := Lib.hid (show pIn 93 (pItems f d l) l = .error 2 by
          rw [HIN.out, ← HRA.out, pItems, HPV.out]
          simp only
          have h1 := H93.out
          unfold pHead at h44 h1
          rw [pSkip_twice] at h44
          cases hl : pSkip l2 with
          | nil => rfl
          | cons c t3 => rw [hl] at h44 h1; simp only at h44 h1 ⊢; rw [if_neg h1, if_neg h44]; rfl)
        refine (take_no b s (pSkip l2) d w3 44 44 (by rfl) HSM.out HP4.out h44).mono ?_
        rintro e w4 ⟨rfl, hp4, ho4⟩
        have HX5 := Lib.hid (HX4.out.trans ((Exc.ofOnly ho4).mono (S' := fun x => x = b ∨ x = b2 ∨ base ≤ x) (fun x _ h => .inl h)))
        have HPL := Lib.hid hp4
        clear h44 hp4 ho4
        go_wp2
        go_ret
        rw [HR.out]
        exact ⟨HX5.out, rfl, by decide, HPL.out.live⟩
      obtain ⟨c, t3, hct, hc⟩ := head_is (by omega) (show pHead (pSkip l2) = 44 by omega)
      have HTL := Lib.hid (show t3.length < l2.length by have h1 := skip_cons hct; have h2 := pSkip_len l2; omega)
      have HR := Lib.hid (show rApp (vs ++ [t]) (pItems g d t3) = pItems f d l by
        rw [pSkip_twice] at hct
        have h1 := H93.out
        unfold pHead at h1
        rw [hct] at h1
        simp only at h1
        rw [← HRA.out, pItems, HPV.out]
        simp only
        rw [hct]
        simp only
        rw [if_neg h1, if_pos hc, rApp_cons])
      refine (take_yes b s (pSkip l2) t3 c d w3 44 (by rw [hc]; rfl) HSM.out HP4.out hct).mono ?_
      rintro e w4 ⟨rfl, hp4, ho4⟩
      have HE5 := Lib.hid (HE4.out.go (Exc.ofOnly ho4) hp4 (Nat.le_of_lt (skip_cons hct)))
      have HX5 := Lib.hid (HX4.out.trans ((Exc.ofOnly ho4).mono (S' := fun x => x = b ∨ x = b2 ∨ base ≤ x) (fun x _ h => .inl h)))
      have HM := Lib.hid (And.intro (show curAt wr b = s.size - l'.length from HE2.out.2.2.2.2.1.at) (show curAt w4 b = s.size - t3.length from hp4.at))
      have HLS := Lib.hid (show l'.length ≤ s.size from HE2.out.2.2.2.2.1.1)
      clear h44 hct hc hp4 ho4
      go_wp2
      go_roundw
      case rel => exact ⟨vs ++ [t], t3, g, HE5.out, HX5.out, by have h1 := HF2.out; have h2 := HL2.out; have h3 := HTL.out; omega, by have := HFF.out; omega, HR.out⟩
      case measure =>
        rw [HM.out.1, HM.out.2]
        have h2 := HL2.out
        have h3 := HTL.out
        have h4 := HLS.out
        omega

def ItM (base b b2 bm : Nat) (s : ByteArray) (d : Nat) (w : World) (r : PR (List (ByteArray × VT))) (e : Ending) (w' : World) : Prop :=
  Exc (fun x => x = b ∨ x = b2 ∨ x = bm ∨ base ≤ x) w w' ∧ match r with
    | .error c => e = .returned (.int .i64 (c : Int)) ∧ c ≠ 0 ∧ PLive w' b s d
    | .ok (vs, l') => e = .returned (.int .i64 0) ∧ MSt base b b2 bm s d (vs.map (·.1)) vs l' w'
set_option maxRecDepth 100000 in
set_option maxHeartbeats 4000000 in
theorem itemsM_any {base b b2 bm : Nat} {s : ByteArray} {d f : Nat} {l : List UInt8} {w : World} (hE : MSt base b b2 bm s d [] [] l w) (hf : 2 * l.length + 1 < f) (hs : 4 * s.size + 8 ≤ 1000000)
    (hv : ∀ f' l' w, f' < f → 2 * l'.length < f' → PCur w b s l' d → Calls Try.prog 49 #[.pointer (some ⟨b, 0, none⟩)] w (PGot b s d w (pVal f' d l'))) :
    Calls Try.prog 131 #[.pointer (some ⟨b, 0, none⟩), .int .u8 125, .func (.func 111) #[.pointer (some ⟨b2, 0, none⟩)] #[]] w (ItM base b b2 bm s d w (pIn 125 (pMems f d [] l) l)) := by
  have HE := Lib.hid hE
  have HV := Lib.hid hv
  have HS := Lib.hid hs
  have HF := Lib.hid hf
  have HSM := Lib.hid (show s.size ≤ maxLen by unfold maxLen; omega)
  have HPC := Lib.hid (show PCur w b s l d from hE.2.2.2.2.2.1)
  clear hE hv hs hf
  go_enter Try.func131, Try.ntmps131
  go_wp2_with fail
  by_cases h93 : ¬ pHead l = 125
  case neg =>
    obtain ⟨c, t, hct, hc⟩ := head_is (by omega) (show pHead l = 125 by omega)
    have HR := Lib.hid (show pIn 125 (pMems f d [] l) l = .ok ([], t) by unfold pIn; rw [hct]; simp only; rw [if_pos hc])
    refine (take_yes b s l t c d w 125 (by rw [hc]; rfl) HSM.out HPC.out hct).mono ?_
    rintro e w1 ⟨rfl, hp1, ho1⟩
    have HE1 := Lib.hid (HE.out.go (Exc.ofOnly ho1) hp1 (Nat.le_of_lt (skip_cons hct)))
    have HX1 := Lib.hid ((Exc.ofOnly ho1).mono (S' := fun x => x = b ∨ x = b2 ∨ x = bm ∨ base ≤ x) (fun x _ h => .inl h))
    clear h93 hct hc hp1 ho1
    go_wp2
    go_ret
    rw [HR.out]
    exact ⟨HX1.out, rfl, HE1.out⟩
  have HIN := Lib.hid (show pIn 125 (pMems f d [] l) l = pMems f d [] l by
    unfold pIn
    unfold pHead at h93
    cases hl : pSkip l with
    | nil => rfl
    | cons c t => rw [hl] at h93; simp only at h93 ⊢; rw [if_neg h93])
  refine (take_no b s l d w 125 125 (by rfl) HSM.out HPC.out h93).mono ?_
  rintro e w1 ⟨rfl, hp1, ho1⟩
  have HE1 := Lib.hid (HE.out.go (Exc.ofOnly ho1) hp1 (pSkip_len l))
  have HX1 := Lib.hid ((Exc.ofOnly ho1).mono (S' := fun x => x = b ∨ x = b2 ∨ x = bm ∨ base ≤ x) (fun x _ h => .inl h))
  clear h93 hp1 ho1
  go_wp2_with fail
  go_loopw [] (fun wr => ∃ (vs : List (ByteArray × VT)) (l' : List UInt8) (f' : Nat), MSt base b b2 bm s d (vs.map (·.1)) vs l' wr ∧ Exc (fun x => x = b ∨ x = b2 ∨ x = bm ∨ base ≤ x) w wr ∧ 2 * l'.length + 1 < f' ∧ f' ≤ f ∧ rApp vs (pMems f' d (vs.map (·.1)) l') = pMems f d [] l) (fun wr => s.size - curAt wr b)
  case atStart => exact ⟨[], pSkip l, f, HE1.out, HX1.out, by have h1 := HF.out; have h2 := pSkip_len l; omega, Nat.le_refl _, by rw [rApp_nil]; exact pMems_skip f d [] l⟩
  case round =>
    obtain ⟨vs, l', f', hE2, hx2, hf2, hff, hra⟩ := hrel
    obtain ⟨g, rfl⟩ : ∃ g, f' = g + 1 := ⟨f' - 1, by omega⟩
    have HE2 := Lib.hid hE2
    have HX2 := Lib.hid hx2
    have HF2 := Lib.hid hf2
    have HFF := Lib.hid hff
    have HRA := Lib.hid hra
    clear hE2 hx2 hf2 hff hra
    go_wp2_with fail
    refine (mnext_any (f := g) HE2.out HS.out (fun t w ht hp => HV.out g t w (by have := HFF.out; omega) (by have := HF2.out; omega) hp) (fun t v r _ h => pVal_len h)).mono ?_
    intro e w2 hN
    obtain ⟨hx, hN⟩ := hN
    have HX3 := Lib.hid (HX2.out.trans hx)
    cases hpv : pOne g d (vs.map (·.1)) l' with
    | error c =>
      rw [hpv] at hN
      obtain ⟨rfl, hc, hlv⟩ := hN
      have hc' : ((c : Int) != 0) = true := by simp; omega
      have HR := Lib.hid (show pIn 125 (pMems f d [] l) l = .error c by rw [HIN.out, ← HRA.out, pMems_one, hpv]; rfl)
      go_wp2
      go_ret
      rw [HR.out]
      exact ⟨HX3.out, rfl, hc, hlv⟩
    | ok p =>
      obtain ⟨t, l2⟩ := p
      rw [hpv] at hN
      obtain ⟨rfl, hE3⟩ := hN
      have HPV := Lib.hid hpv
      have HL2 := Lib.hid (show l2.length < l'.length from pOne_len hpv)
      have HE3 := Lib.hid (show MSt base b b2 bm s d (vs.map (·.1) ++ [t.1]) (vs ++ [t]) l2 w2 from hE3)
      have HP3 := Lib.hid (show PCur w2 b s l2 d from HE3.out.2.2.2.2.2.1)
      clear hpv hx hE3
      go_wp2_with fail
      by_cases h93 : ¬ pHead l2 = 125
      case neg =>
        obtain ⟨c, t3, hct, hc⟩ := head_is (by omega) (show pHead l2 = 125 by omega)
        have HR := Lib.hid (show pIn 125 (pMems f d [] l) l = .ok (vs ++ [t], t3) by rw [HIN.out, ← HRA.out, pMems_one, HPV.out]; simp only; rw [hct]; simp only; rw [if_pos hc]; rfl)
        refine (take_yes b s l2 t3 c d w2 125 (by rw [hc]; rfl) HSM.out HP3.out hct).mono ?_
        rintro e w3 ⟨rfl, hp3, ho3⟩
        have HE4 := Lib.hid (HE3.out.go (Exc.ofOnly ho3) hp3 (Nat.le_of_lt (skip_cons hct)))
        have HX4 := Lib.hid (HX3.out.trans ((Exc.ofOnly ho3).mono (S' := fun x => x = b ∨ x = b2 ∨ x = bm ∨ base ≤ x) (fun x _ h => .inl h)))
        clear h93 hct hc hp3 ho3
        go_wp2
        go_ret
        rw [HR.out]
        exact ⟨HX4.out, rfl, by rw [List.map_append]; exact HE4.out⟩
      refine (take_no b s l2 d w2 125 125 (by rfl) HSM.out HP3.out h93).mono ?_
      rintro e w3 ⟨rfl, hp3, ho3⟩
      have HE4 := Lib.hid (HE3.out.go (Exc.ofOnly ho3) hp3 (pSkip_len l2))
      have HX4 := Lib.hid (HX3.out.trans ((Exc.ofOnly ho3).mono (S' := fun x => x = b ∨ x = b2 ∨ x = bm ∨ base ≤ x) (fun x _ h => .inl h)))
      have HP4 := Lib.hid hp3
      have H93 := Lib.hid h93
      clear h93 hp3 ho3
      go_wp2_with fail
      by_cases h44 : ¬ pHead (pSkip l2) = 44
      · have HR := Lib.hid (show pIn 125 (pMems f d [] l) l = .error 2 by
          rw [HIN.out, ← HRA.out, pMems_one, HPV.out]
          simp only
          have h1 := H93.out
          unfold pHead at h44 h1
          rw [pSkip_twice] at h44
          cases hl : pSkip l2 with
          | nil => rfl
          | cons c t3 => rw [hl] at h44 h1; simp only at h44 h1 ⊢; rw [if_neg h1, if_neg h44]; rfl)
        refine (take_no b s (pSkip l2) d w3 44 44 (by rfl) HSM.out HP4.out h44).mono ?_
        rintro e w4 ⟨rfl, hp4, ho4⟩
        have HX5 := Lib.hid (HX4.out.trans ((Exc.ofOnly ho4).mono (S' := fun x => x = b ∨ x = b2 ∨ x = bm ∨ base ≤ x) (fun x _ h => .inl h)))
        have HPL := Lib.hid hp4
        clear h44 hp4 ho4
        go_wp2
        go_ret
        rw [HR.out]
        exact ⟨HX5.out, rfl, by decide, HPL.out.live⟩
      obtain ⟨c, t3, hct, hc⟩ := head_is (by omega) (show pHead (pSkip l2) = 44 by omega)
      have HTL := Lib.hid (show t3.length < l2.length by have h1 := skip_cons hct; have h2 := pSkip_len l2; omega)
      have HR := Lib.hid (show rApp (vs ++ [t]) (pMems g d ((vs ++ [t]).map (·.1)) t3) = pMems f d [] l by
        rw [pSkip_twice] at hct
        have h1 := H93.out
        unfold pHead at h1
        rw [hct] at h1
        simp only at h1
        rw [← HRA.out, pMems_one, HPV.out]
        simp only
        rw [hct]
        simp only
        rw [if_neg h1, if_pos hc, rApp_cons]; rw [List.map_append]; rfl)
      refine (take_yes b s (pSkip l2) t3 c d w3 44 (by rw [hc]; rfl) HSM.out HP4.out hct).mono ?_
      rintro e w4 ⟨rfl, hp4, ho4⟩
      have HE5 := Lib.hid (HE4.out.go (Exc.ofOnly ho4) hp4 (Nat.le_of_lt (skip_cons hct)))
      have HX5 := Lib.hid (HX4.out.trans ((Exc.ofOnly ho4).mono (S' := fun x => x = b ∨ x = b2 ∨ x = bm ∨ base ≤ x) (fun x _ h => .inl h)))
      have HM := Lib.hid (And.intro (show curAt wr b = s.size - l'.length from HE2.out.2.2.2.2.2.1.at) (show curAt w4 b = s.size - t3.length from hp4.at))
      have HLS := Lib.hid (show l'.length ≤ s.size from HE2.out.2.2.2.2.2.1.1)
      clear h44 hct hc hp4 ho4
      go_wp2
      go_roundw
      case rel => exact ⟨vs ++ [t], t3, g, by rw [List.map_append]; exact HE5.out, HX5.out, by have h1 := HF2.out; have h2 := HL2.out; have h3 := HTL.out; omega, by have := HFF.out; omega, HR.out⟩
      case measure =>
        rw [HM.out.1, HM.out.2]
        have h2 := HL2.out
        have h3 := HTL.out
        have h4 := HLS.out
        omega
end Go.Proofs.Ythcphfpkinfjoaa

namespace Go.Proofs.Ythcphfpkinfjoaa
open Go.RowKit

/-- Within brackets: not beyond the fiftieth. -/
def pBr {α : Type} (d : Nat) (r : PR α) : PR α := if d = 50 then .error 5 else r

theorem ESt.goD {base b b2 : Nat} {s : ByteArray} {d d' : Nat} {vs : List VT} {l l' : List UInt8} {w w' : World} (h : ESt base b b2 s d vs l w) (hx : Exc (fun x => x = b) w w') (hp : PCur w' b s l' d') (hl : l'.length ≤ l.length) : ESt base b b2 s d' vs l' w' := by
  obtain ⟨h0, h1, h2, h4, h5, h6, got, xs, h8, h9, h10, h11⟩ := h
  have hsz := hx.size
  exact ⟨by omega, h1, h2, h4, hp, by omega, got, xs, (hx.block b2 (by omega) (fun e => h4 e.symm)).trans h8, ownsRow_same h9 (fun k hk => hx.block k (ownsRow_lt h9 k hk).2 (fun e => by have := (ownsRow_lt h9 k hk).1; omega)), h10.keep (fun x hx' => hx.block x hx'.2.1 (by omega)) (fun x hx' => ⟨hx'.1, by omega, hx'.2.2⟩), h11⟩
set_option maxRecDepth 100000 in
set_option maxHeartbeats 4000000 in
theorem withinE_any {base b b2 : Nat} {s : ByteArray} {d f : Nat} {c : UInt8} {t : List UInt8} {w : World} (hE : ESt base b b2 s d [] (c :: t) w) (hd : d ≤ 50) (hf : 2 * t.length + 1 < f) (hs : 4 * s.size + 8 ≤ 1000000)
    (hv : ∀ f' d' l' w, f' < f → d' ≤ 50 → 2 * l'.length < f' → PCur w b s l' d' → Calls Try.prog 49 #[.pointer (some ⟨b, 0, none⟩)] w (PGot b s d' w (pVal f' d' l'))) :
    Calls Try.prog 109 #[.pointer (some ⟨b, 0, none⟩), .int .u8 93, .func (.func 110) #[.pointer (some ⟨b2, 0, none⟩)] #[]] w (ItE base b b2 s d w (pBr d (pIn 93 (pItems f (d + 1) t) t))) := by
  have HE := Lib.hid hE
  have HV := Lib.hid hv
  have HS := Lib.hid hs
  have HF := Lib.hid hf
  have HPC := Lib.hid (show PCur w b s (c :: t) d from hE.2.2.2.2.1)
  clear hE hv hf
  obtain ⟨c0, c1, c2, f1, f2⟩ := HPC.out.cells
  by_cases h50 : d = 50
  · have e50 : ((d : Int) == 50) = true := by simp; omega
    rw [show pBr d (pIn 93 (pItems f (d + 1) t) t) = .error 5 by unfold pBr; rw [if_pos h50]]
    clear h50 hd
    go_enter Try.func109, Try.ntmps109
    go_wp2
    go_ret
    exact ⟨Exc.refl _ _, rfl, by decide, HPC.out.live⟩
  rw [show pBr d (pIn 93 (pItems f (d + 1) t) t) = pIn 93 (pItems f (d + 1) t) t by unfold pBr; rw [if_neg h50]]
  have e50 : ((d : Int) == 50) = false := by simp; omega
  have hdd : (d : Int) ≤ 50 := by omega
  obtain ⟨hk, _⟩ := HPC.out.byte
  have HM1 := Lib.hid (HPC.out.move 1 (by simp) (((s.size - (c :: t).length : Nat) : Int) + 1) (by rfl))
  have hkb : ((s.size - (c :: t).length : Nat) : Int) < 1000000 := by omega
  generalize s.size - (c :: t).length = k at c1 HM1 hk hkb
  have HM2 := Lib.hid (HM1.out.deep (d + 1) ((d : Int) + 1) (by simp))
  go_enter Try.func109, Try.ntmps109
  go_wp2_with fail
  have HO2 := Lib.hid ((only_set (w := w) (b := b) (i := 1) (.int .i64 ((k : Int) + 1))).trans (only_set (w := w.setCell ⟨b, 1, none⟩ (.int .i64 ((k : Int) + 1))) (b := b) (i := 2) (.int .i64 ((d : Int) + 1))))
  generalize (w.setCell _ _).setCell _ _ = w2 at HM2 HO2 ⊢
  have HX2 := Lib.hid (Exc.ofOnly HO2.out)
  have HE2 := Lib.hid (HE.out.goD (l' := t) HX2.out HM2.out (by simp))
  clear c0 c1 c2 f1 f2 e50 HM1
  refine (itemsE_any (f := f) HE2.out HF.out HS.out (fun f' l' w h1 h2 h3 => HV.out f' (d + 1) l' w h1 (by omega) h2 h3)).mono ?_
  intro e w3 hI
  obtain ⟨hx3, hI⟩ := hI
  have HX3 := Lib.hid ((HX2.out.mono (S' := fun x => x = b ∨ x = b2 ∨ base ≤ x) (fun x _ h => .inl h)).trans hx3)
  cases hr : pIn 93 (pItems f (d + 1) t) t with
  | error cc =>
    rw [hr] at hI
    obtain ⟨rfl, hc, l3, hp3⟩ := hI
    obtain ⟨c0, c1, c2, f1, f2⟩ := hp3.cells
    have HP4 := Lib.hid (hp3.deep d (((d + 1 : Nat) : Int) - 1) (by simp))
    have hd1 : ((d + 1 : Nat) : Int) ≤ 51 := by omega
    have hd0 : (0 : Int) ≤ ((d + 1 : Nat) : Int) := by omega
    generalize ((d + 1 : Nat) : Int) = dz at c2 HP4 hd1 hd0
    have HRR := Lib.hid hr
    clear hp3 hx3 hr
    go_wp2
    go_ret
    rw [HRR.out]
    exact ⟨HX3.out.set _ (fun _ => .inl rfl), rfl, hc, HP4.out.live⟩
  | ok p =>
    obtain ⟨vs, l3⟩ := p
    rw [hr] at hI
    obtain ⟨rfl, hE3⟩ := hI
    have HE3 := Lib.hid hE3
    have hp3 : PCur w3 b s l3 (d + 1) := hE3.2.2.2.2.1
    obtain ⟨c0, c1, c2, f1, f2⟩ := hp3.cells
    have HP4 := Lib.hid (hp3.deep d (((d + 1 : Nat) : Int) - 1) (by simp))
    have hd1 : ((d + 1 : Nat) : Int) ≤ 51 := by omega
    have hd0 : (0 : Int) ≤ ((d + 1 : Nat) : Int) := by omega
    generalize ((d + 1 : Nat) : Int) = dz at c2 HP4 hd1 hd0
    have HRR := Lib.hid hr
    clear hp3 hx3 hE3 hr
    go_wp2
    go_ret
    rw [HRR.out]
    exact ⟨HX3.out.set _ (fun _ => .inl rfl), rfl, HE3.out.goD (Exc.ofOnly (only_set _)) HP4.out (Nat.le_refl _)⟩

theorem MSt.goD {base b b2 bm : Nat} {s : ByteArray} {d d' : Nat} {ks : List ByteArray} {vs : List (ByteArray × VT)} {l l' : List UInt8} {w w' : World} (h : MSt base b b2 bm s d ks vs l w) (hx : Exc (fun x => x = b) w w') (hp : PCur w' b s l' d') (hl : l'.length ≤ l.length) : MSt base b b2 bm s d' ks vs l' w' := by
  obtain ⟨h0, h1, h2, h3, h4, h5, h6, h7, got, xs, h8, h9, h10, h11⟩ := h
  have hsz := hx.size
  have hlt := h7.lt
  refine ⟨by omega, h1, h2, h3, h4, hp, by omega, ?_, got, xs, (hx.block b2 (by omega) (fun e => h4.1 e.symm)).trans h8, ownsRow_same h9 (fun k hk => hx.block k (ownsRow_lt h9 k hk).2 (fun e => by have := (ownsRow_lt h9 k hk).1; omega)), h10.keep (fun x hx' => hx.block x hx'.2.1 (by omega)) (fun x hx' => ⟨hx'.1, by omega, hx'.2.2⟩), h11⟩
  obtain ⟨es, clock, hb, r⟩ := h7
  exact ⟨es, clock, (hx.block bm hlt h4.2.1).trans hb, r⟩
set_option maxRecDepth 100000 in
set_option maxHeartbeats 4000000 in
theorem withinM_any {base b b2 bm : Nat} {s : ByteArray} {d f : Nat} {c : UInt8} {t : List UInt8} {w : World} (hE : MSt base b b2 bm s d [] [] (c :: t) w) (hd : d ≤ 50) (hf : 2 * t.length + 1 < f) (hs : 4 * s.size + 8 ≤ 1000000)
    (hv : ∀ f' d' l' w, f' < f → d' ≤ 50 → 2 * l'.length < f' → PCur w b s l' d' → Calls Try.prog 49 #[.pointer (some ⟨b, 0, none⟩)] w (PGot b s d' w (pVal f' d' l'))) :
    Calls Try.prog 109 #[.pointer (some ⟨b, 0, none⟩), .int .u8 125, .func (.func 111) #[.pointer (some ⟨b2, 0, none⟩)] #[]] w (ItM base b b2 bm s d w (pBr d (pIn 125 (pMems f (d + 1) [] t) t))) := by
  have HE := Lib.hid hE
  have HV := Lib.hid hv
  have HS := Lib.hid hs
  have HF := Lib.hid hf
  have HPC := Lib.hid (show PCur w b s (c :: t) d from hE.2.2.2.2.2.1)
  clear hE hv hf
  obtain ⟨c0, c1, c2, f1, f2⟩ := HPC.out.cells
  by_cases h50 : d = 50
  · have e50 : ((d : Int) == 50) = true := by simp; omega
    rw [show pBr d (pIn 125 (pMems f (d + 1) [] t) t) = .error 5 by unfold pBr; rw [if_pos h50]]
    clear h50 hd
    go_enter Try.func109, Try.ntmps109
    go_wp2
    go_ret
    exact ⟨Exc.refl _ _, rfl, by decide, HPC.out.live⟩
  rw [show pBr d (pIn 125 (pMems f (d + 1) [] t) t) = pIn 125 (pMems f (d + 1) [] t) t by unfold pBr; rw [if_neg h50]]
  have e50 : ((d : Int) == 50) = false := by simp; omega
  have hdd : (d : Int) ≤ 50 := by omega
  obtain ⟨hk, _⟩ := HPC.out.byte
  have HM1 := Lib.hid (HPC.out.move 1 (by simp) (((s.size - (c :: t).length : Nat) : Int) + 1) (by rfl))
  have hkb : ((s.size - (c :: t).length : Nat) : Int) < 1000000 := by omega
  generalize s.size - (c :: t).length = k at c1 HM1 hk hkb
  have HM2 := Lib.hid (HM1.out.deep (d + 1) ((d : Int) + 1) (by simp))
  go_enter Try.func109, Try.ntmps109
  go_wp2_with fail
  have HO2 := Lib.hid ((only_set (w := w) (b := b) (i := 1) (.int .i64 ((k : Int) + 1))).trans (only_set (w := w.setCell ⟨b, 1, none⟩ (.int .i64 ((k : Int) + 1))) (b := b) (i := 2) (.int .i64 ((d : Int) + 1))))
  generalize (w.setCell _ _).setCell _ _ = w2 at HM2 HO2 ⊢
  have HX2 := Lib.hid (Exc.ofOnly HO2.out)
  have HE2 := Lib.hid (HE.out.goD (l' := t) HX2.out HM2.out (by simp))
  clear c0 c1 c2 f1 f2 e50 HM1
  refine (itemsM_any (f := f) HE2.out HF.out HS.out (fun f' l' w h1 h2 h3 => HV.out f' (d + 1) l' w h1 (by omega) h2 h3)).mono ?_
  intro e w3 hI
  obtain ⟨hx3, hI⟩ := hI
  have HX3 := Lib.hid ((HX2.out.mono (S' := fun x => x = b ∨ x = b2 ∨ x = bm ∨ base ≤ x) (fun x _ h => .inl h)).trans hx3)
  cases hr : pIn 125 (pMems f (d + 1) [] t) t with
  | error cc =>
    rw [hr] at hI
    obtain ⟨rfl, hc, l3, hp3⟩ := hI
    obtain ⟨c0, c1, c2, f1, f2⟩ := hp3.cells
    have HP4 := Lib.hid (hp3.deep d (((d + 1 : Nat) : Int) - 1) (by simp))
    have hd1 : ((d + 1 : Nat) : Int) ≤ 51 := by omega
    have hd0 : (0 : Int) ≤ ((d + 1 : Nat) : Int) := by omega
    generalize ((d + 1 : Nat) : Int) = dz at c2 HP4 hd1 hd0
    have HRR := Lib.hid hr
    clear hp3 hx3 hr
    go_wp2
    go_ret
    rw [HRR.out]
    exact ⟨HX3.out.set _ (fun _ => .inl rfl), rfl, hc, HP4.out.live⟩
  | ok p =>
    obtain ⟨vs, l3⟩ := p
    rw [hr] at hI
    obtain ⟨rfl, hE3⟩ := hI
    have HE3 := Lib.hid hE3
    have hp3 : PCur w3 b s l3 (d + 1) := hE3.2.2.2.2.2.1
    obtain ⟨c0, c1, c2, f1, f2⟩ := hp3.cells
    have HP4 := Lib.hid (hp3.deep d (((d + 1 : Nat) : Int) - 1) (by simp))
    have hd1 : ((d + 1 : Nat) : Int) ≤ 51 := by omega
    have hd0 : (0 : Int) ≤ ((d + 1 : Nat) : Int) := by omega
    generalize ((d + 1 : Nat) : Int) = dz at c2 HP4 hd1 hd0
    have HRR := Lib.hid hr
    clear hp3 hx3 hE3 hr
    go_wp2
    go_ret
    rw [HRR.out]
    exact ⟨HX3.out.set _ (fun _ => .inl rfl), rfl, HE3.out.goD (Exc.ofOnly (only_set _)) HP4.out (Nat.le_refl _)⟩
end Go.Proofs.Ythcphfpkinfjoaa
