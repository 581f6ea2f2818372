/-
  What a text says is Good: a plain fact of the function of bytes. More fuel says the same.
  Bytes 9, 10, 13 behind a text change nothing of what it says: plain facts of the function of bytes.
  Parse of any text, by whatever fuel; blanks round a text.
  The statement ParseGood holds.
  Conditions: none.
-/
import Derived.Test.YtghkfbhmabnecaaPaL
import Derived.Test.YtghkfbhmabnecaaPaP
import Derived.Test.YtghkfbhmabnecaaRows
import Derived.Test.YtghkfbhmabnecaaPaQ
import Derived.ProofKit
import Derived.OpenShut
import Derived.ShutString
namespace Go.Proofs.Ytghkfbhmabnecaa

/-- A code point that there is. -/
def uOk (r : Nat) : Prop := r ≤ 1114111 ∧ uSur r = false
theorem uFit_ok {least r : Nat} (h : uFit least r = true) : uOk r := by
  unfold uFit at h
  simp only [Bool.and_eq_true, decide_eq_true_eq, Bool.not_eq_true'] at h
  exact ⟨h.1.2, h.2⟩
theorem sur_small {r : Nat} (h : r < 55296) : uSur r = false := by unfold uSur; simp; omega
theorem uTail_ok {n r least q : Nat} {l u : List UInt8} (h : uTail n r least l = some (q, u)) : uOk q := by
  unfold uTail at h
  split at h
  · split at h
    · rename_i hf
      simp only [Option.some.injEq, Prod.mk.injEq] at h
      rw [← h.1]; exact uFit_ok hf
    · cases h
  · cases h
theorem uPoint_ok {c : UInt8} {l u : List UInt8} {q : Nat} (h : uPoint c l = some (q, u)) : uOk q := by
  unfold uPoint at h
  split at h
  · rename_i hc
    simp only [Option.some.injEq, Prod.mk.injEq] at h
    exact ⟨by omega, sur_small (by omega)⟩
  split at h
  · cases h
  split at h
  · exact uTail_ok h
  split at h
  · exact uTail_ok h
  split at h
  · exact uTail_ok h
  · cases h
theorem uDigs_bnd : ∀ (n r : Nat) (l u : List UInt8) (q : Nat), uDigs n r l = some (q, u) → q < (r + 1) * 16 ^ n
  | 0, r, l, u, q, h => by simp only [uDigs, Option.some.injEq, Prod.mk.injEq] at h; rw [← h.1]; simp
  | _ + 1, _, [], _, _, h => by simp [uDigs] at h
  | n + 1, r, c :: t, u, q, h => by
    simp only [uDigs] at h
    split at h
    · rename_i d hd
      have h1 := uDigs_bnd n _ t u q h
      have h2 := uDigit_lt hd
      rw [Nat.pow_succ]
      have h3 : (r * 16 + d + 1) * 16 ^ n ≤ (r * 16 + 16) * 16 ^ n := Nat.mul_le_mul_right _ (by omega)
      have h4 : (r * 16 + 16) * 16 ^ n = (r + 1) * (16 ^ n * 16) := by rw [show r * 16 + 16 = (r + 1) * 16 by omega, Nat.mul_assoc, Nat.mul_comm 16]
      omega
    · cases h
theorem uNum_ok {l u : List UInt8} {q : Nat} (h : uNum l = some (q, u)) : uOk q := by
  unfold uNum at h
  split at h
  · rename_i r u' hr
    have hr' := uDigs_bnd 4 0 l u' r hr
    split at h
    · rename_i hs
      unfold uSur at hs
      simp only [Bool.and_eq_true, decide_eq_true_eq] at hs
      split at h
      · cases h
      split at h
      · rename_i q' v hq
        simp only [Option.some.injEq, Prod.mk.injEq] at h
        unfold uLow at hq
        split at hq
        · split at hq
          · split at hq
            · split at hq
              · rename_i hb
                simp only [Option.some.injEq, Prod.mk.injEq] at hq
                refine ⟨by omega, ?_⟩
                unfold uSur; simp; omega
              · cases hq
            · cases hq
          · cases hq
        · cases hq
      · cases h
    · rename_i hs
      simp only [Option.some.injEq, Prod.mk.injEq] at h
      rw [← h.1]
      exact ⟨by omega, by simpa using hs⟩
  · cases h
theorem uEsc_ok {l u : List UInt8} {q : Nat} (h : uEsc l = some (q, u)) : uOk q := by
  cases l with
  | nil => cases h
  | cons c t =>
    simp only [uEsc] at h
    split at h
    · rename_i hc
      simp only [Option.some.injEq, Prod.mk.injEq] at h
      exact ⟨by omega, sur_small (by omega)⟩
    split at h
    · simp only [Option.some.injEq, Prod.mk.injEq] at h; rw [← h.1]; exact ⟨by omega, by decide⟩
    split at h
    · simp only [Option.some.injEq, Prod.mk.injEq] at h; rw [← h.1]; exact ⟨by omega, by decide⟩
    split at h
    · simp only [Option.some.injEq, Prod.mk.injEq] at h; rw [← h.1]; exact ⟨by omega, by decide⟩
    split at h
    · simp only [Option.some.injEq, Prod.mk.injEq] at h; rw [← h.1]; exact ⟨by omega, by decide⟩
    split at h
    · simp only [Option.some.injEq, Prod.mk.injEq] at h; rw [← h.1]; exact ⟨by omega, by decide⟩
    split at h
    · exact uNum_ok h
    · cases h
theorem uSym_ok {c : UInt8} {l u : List UInt8} {q : Nat} (h : uSym c l = some (q, u)) : uOk q := by
  unfold uSym at h
  split at h
  · exact uEsc_ok h
  · exact uPoint_ok h
theorem ofNat_p {n : Nat} (h : n < 256) : (UInt8.ofNat n).toNat = n := by rw [UInt8.toNat_ofNat']; omega
theorem uRunes_pt (k : Nat) (h1 : k ≤ 1114111) (h2 : uSur k = false) : uRunes (uBytes k) = some 1 := by
  have key : ∀ (c : UInt8) (t : List UInt8) (r : Nat), uPoint c t = some (r, []) → uRunes (c :: t) = some 1 := fun c t r h => by rw [uRunes_point h]; rfl
  have hfit : ∀ least, least ≤ k → uFit least k = true := fun least h => by
    simp only [uFit, h2, Bool.and_eq_true, decide_eq_true_eq, Bool.not_false, and_true]; omega
  unfold uBytes
  split
  · rename_i a
    refine key _ _ k ?_
    unfold uPoint
    rw [ofNat_p (by omega), if_pos a]
  rename_i a
  split
  · rename_i b
    refine key _ _ k ?_
    unfold uPoint
    rw [ofNat_p (by omega), if_neg (by omega), if_neg (by omega), if_pos (by omega)]
    unfold uTail
    simp only [uCont, ofNat_p (show 128 + k % 64 < 256 by omega)]
    rw [if_pos (by omega), show (192 + k / 64) % 32 * 64 + (128 + k % 64) % 64 = k by omega]
    simp only
    rw [if_pos (hfit _ (by omega))]
  rename_i b
  split
  · rename_i c
    refine key _ _ k ?_
    unfold uPoint
    rw [ofNat_p (by omega), if_neg (by omega), if_neg (by omega), if_neg (by omega), if_pos (by omega)]
    unfold uTail
    simp only [uCont, ofNat_p (show 128 + k % 64 < 256 by omega), ofNat_p (show 128 + k / 64 % 64 < 256 by omega)]
    rw [if_pos (by omega), if_pos (by omega), show ((224 + k / 4096) % 16 * 64 + (128 + k / 64 % 64) % 64) * 64 + (128 + k % 64) % 64 = k by omega]
    simp only
    rw [if_pos (hfit _ (by omega))]
  · rename_i c
    refine key _ _ k ?_
    unfold uPoint
    rw [ofNat_p (by omega), if_neg (by omega), if_neg (by omega), if_neg (by omega), if_neg (by omega), if_pos (by omega)]
    unfold uTail
    simp only [uCont, ofNat_p (show 128 + k % 64 < 256 by omega), ofNat_p (show 128 + k / 64 % 64 < 256 by omega), ofNat_p (show 128 + k / 4096 % 64 < 256 by omega)]
    rw [if_pos (by omega), if_pos (by omega), if_pos (by omega), show (((240 + k / 262144) % 8 * 64 + (128 + k / 4096 % 64) % 64) * 64 + (128 + k / 64 % 64) % 64) * 64 + (128 + k % 64) % 64 = k by omega]
    simp only
    rw [if_pos (hfit _ (by omega))]

theorem uBodyF_good : ∀ (f : Nat) (l x r : List UInt8), uBodyF f l = some (x, r) → ∃ n, uRunes x = some n
  | _, [], _, _, h => by simp [uBodyF] at h
  | 0, _ :: _, _, _, h => by simp [uBodyF] at h
  | f + 1, c :: t, x, r, h => by
    simp only [uBodyF] at h
    split at h
    · cases h
    split at h
    · simp only [Option.some.injEq, Prod.mk.injEq] at h
      obtain ⟨rfl, rfl⟩ := h
      exact ⟨0, rfl⟩
    split at h
    · rename_i q u hq
      simp only [Option.map_eq_some_iff, Prod.mk.injEq] at h
      obtain ⟨⟨y, z⟩, h1, h2, h3⟩ := h
      obtain ⟨n, hn⟩ := uBodyF_good f u y z h1
      have h5 := uSym_ok hq
      subst h2
      exact ⟨_, uRunes_join (uRunes_pt q h5.1 h5.2) hn⟩
    · cases h
theorem uUnq_good {l x : List UInt8} {n : Nat} (h : uUnq l = some (x, n)) : gS ⟨x.toArray⟩ = true := by
  cases l with
  | nil => cases h
  | cons c t =>
    simp only [uUnq] at h
    split at h
    · simp only [Option.map_eq_some_iff, Prod.mk.injEq] at h
      obtain ⟨⟨y, z⟩, h1, h2, h3⟩ := h
      obtain ⟨k, hk⟩ := uBodyF_good _ _ _ _ h1
      subst h2
      unfold gS
      simp only at hk ⊢
      rw [hk]; rfl
    · cases h
theorem pKey_good {ks : List ByteArray} {l r : List UInt8} {k : ByteArray} (h : pKey ks l = .ok (k, r)) : gS k = true := by
  unfold pKey at h
  split at h
  · cases h
  · split at h
    · split at h
      · cases h
      · rename_i x n hu
        split at h
        · cases h
        · simp only [Except.ok.injEq, Prod.mk.injEq] at h
          rw [← h.1]; exact uUnq_good hu
    · cases h
theorem depL_bnd {n : Nat} : ∀ (l : List VT), (∀ v ∈ l, dep v ≤ n) → depL l ≤ n
  | [], _ => by simp [depL]
  | t :: r, h => by
    simp only [depL]
    have h1 := h t (by simp)
    have h2 := depL_bnd r (fun v hv => h v (by simp [hv]))
    omega
theorem mayL_of : ∀ (l : List VT), (∀ v ∈ l, May v) → MayL l
  | [], _ => by simp [MayL]
  | t :: r, h => by
    simp only [MayL]
    exact ⟨h t (by simp), mayL_of r (fun v hv => h v (by simp [hv]))⟩
theorem list_good {d : Nat} {vs : List VT} (hd : d < 50) (h : ∀ v ∈ vs, d + 1 + dep v ≤ 50 ∧ May v) : d + dep (jList vs) ≤ 50 ∧ May (jList vs) := by
  constructor
  · have := depL_bnd (n := 50 - (d + 1)) vs (fun v hv => by have := (h v hv).1; omega)
    simp only [jList, dep, if_true]; omega
  · simp only [jList, May]
    refine ⟨?_, fun _ => mayL_of vs (fun v hv => (h v hv).2), fun h => absurd h (by decide)⟩
    unfold NodeOK
    right; right; right; right; left
    exact ⟨rfl, rfl, by decide +kernel, rfl⟩
theorem map_good {d : Nat} {ms : List (ByteArray × VT)} (hd : d < 50) (h : ∀ x ∈ ms, d + 1 + dep x.2 ≤ 50 ∧ May x.2 ∧ gS x.1 = true) : d + dep (jMap (mapM ms)) ≤ 50 ∧ May (jMap (mapM ms)) := by
  have hm : ∀ x ∈ mapM ms, x ∈ ms := fun x hx => isMap_mem (mapM_isMap ms) hx
  constructor
  · have := depM_bnd (B := 50 - (d + 1)) (L := mapM ms) (fun x hx => by have := (h x (hm x hx)).1; omega)
    simp [jMap, dep]; omega
  · unfold jMap
    rw [may_mapT]
    exact ⟨(mapM_isMap ms).1, fun x hx => (h x (hm x hx)).2.2, fun x hx => (h x (hm x hx)).2.1⟩
theorem may_flat {k n : Int} {s : ByteArray} (h : NodeOK (.mk k n s [] [])) : May (.mk k n s [] []) := by
  rw [May]; exact ⟨h, fun _ => by simp [MayL], fun _ => by simp [MayM]⟩
theorem pWord_good {l r : List UInt8} {v : VT} (h : pWord l = .ok (v, r)) : dep v = 0 ∧ May v := by
  unfold pWord at h
  split at h
  · simp only [Except.ok.injEq, Prod.mk.injEq] at h; rw [← h.1]; exact ⟨by decide, may_flat (by unfold NodeOK; left; decide +kernel)⟩
  split at h
  · simp only [Except.ok.injEq, Prod.mk.injEq] at h; rw [← h.1]; exact ⟨by decide, may_flat (by unfold NodeOK; right; left; decide +kernel)⟩
  split at h
  · simp only [Except.ok.injEq, Prod.mk.injEq] at h; rw [← h.1]; exact ⟨by decide, may_flat (by unfold NodeOK; right; left; decide +kernel)⟩
  · cases h
theorem pNumber_good {l r : List UInt8} {v : VT} (h : pNumber l = .ok (v, r)) : dep v = 0 ∧ May v := by
  unfold pNumber at h
  split at h
  · rename_i n hn
    simp only [Except.ok.injEq, Prod.mk.injEq] at h
    rw [← h.1]
    have := pInt_bound hn
    refine ⟨by simp [jInt, dep], may_flat (by unfold NodeOK; right; right; left; exact ⟨rfl, this.1, this.2, by decide +kernel, rfl, rfl⟩)⟩
  · cases h
theorem pText_good {l r : List UInt8} {v : VT} (h : pText l = .ok (v, r)) : dep v = 0 ∧ May v := by
  unfold pText at h
  split at h
  · rename_i x n hu
    simp only [Except.ok.injEq, Prod.mk.injEq] at h
    rw [← h.1]
    refine ⟨by simp [jText, dep], may_flat (by unfold NodeOK; right; right; right; left; exact ⟨rfl, rfl, uUnq_good hu, rfl, rfl⟩)⟩
  · cases h
theorem pAll_good : ∀ f, (∀ d l v r, d ≤ 50 → pVal f d l = .ok (v, r) → d + dep v ≤ 50 ∧ May v) ∧ (∀ d l vs r, d ≤ 50 → pItems f d l = .ok (vs, r) → ∀ v ∈ vs, d + dep v ≤ 50 ∧ May v) ∧ (∀ d ks l ms r, d ≤ 50 → pMems f d ks l = .ok (ms, r) → ∀ x ∈ ms, d + dep x.2 ≤ 50 ∧ May x.2 ∧ gS x.1 = true)
  | 0 => ⟨fun d l v r _ h => by simp [pVal] at h, fun d l v r _ h => by simp [pItems] at h, fun d ks l v r _ h => by simp [pMems] at h⟩
  | f + 1 => by
    obtain ⟨ih1, ih2, ih3⟩ := pAll_good f
    refine ⟨fun d l v r hd h => ?_, fun d l vs r hd h => ?_, fun d ks l ms r hd h => ?_⟩
    · simp only [pVal] at h
      split at h
      · cases h
      rename_i c t hct
      split at h
      · split at h
        · cases h
        rename_i h50
        split at h
        · obtain ⟨vs, h1, rfl⟩ := rList_ok h
          exact list_good (by omega) (ih2 _ _ _ _ (by omega) h1)
        · split at h
          · simp only [Except.ok.injEq, Prod.mk.injEq] at h; rw [← h.1]; exact list_good (by omega) (fun v hv => by cases hv)
          · obtain ⟨vs, h1, rfl⟩ := rList_ok h
            exact list_good (by omega) (ih2 _ _ _ _ (by omega) h1)
      split at h
      · split at h
        · cases h
        rename_i h50
        split at h
        · obtain ⟨ms, h1, rfl⟩ := rMap_ok h
          exact map_good (by omega) (ih3 _ _ _ _ _ (by omega) h1)
        · split at h
          · simp only [Except.ok.injEq, Prod.mk.injEq] at h; rw [← h.1]; exact map_good (ms := []) (by omega) (fun v hv => by cases hv)
          · obtain ⟨ms, h1, rfl⟩ := rMap_ok h
            exact map_good (by omega) (ih3 _ _ _ _ _ (by omega) h1)
      split at h
      · have := pText_good h; exact ⟨by omega, this.2⟩
      split at h
      · have := pNumber_good h; exact ⟨by omega, this.2⟩
      · have := pWord_good h; exact ⟨by omega, this.2⟩
    · simp only [pItems] at h
      split at h
      · cases h
      rename_i v' r1 h1
      have hv := ih1 _ _ _ _ hd h1
      split at h
      · cases h
      split at h
      · simp only [Except.ok.injEq, Prod.mk.injEq] at h
        rw [← h.1]
        intro v hv'
        rw [List.mem_singleton] at hv'
        rw [hv']; exact hv
      split at h
      · obtain ⟨us, h2, rfl⟩ := rCons_ok h
        intro v hv'
        rcases List.mem_cons.1 hv' with rfl | hv'
        · exact hv
        · exact ih2 _ _ _ _ hd h2 v hv'
      · cases h
    · simp only [pMems] at h
      split at h
      · cases h
      rename_i k r1 h1
      have hk := pKey_good h1
      split at h
      · cases h
      split at h
      · split at h
        · cases h
        rename_i v' r2 h2
        have hv := ih1 _ _ _ _ hd h2
        split at h
        · cases h
        split at h
        · simp only [Except.ok.injEq, Prod.mk.injEq] at h
          rw [← h.1]
          intro x hx
          rw [List.mem_singleton] at hx
          rw [hx]; exact ⟨hv.1, hv.2, hk⟩
        split at h
        · obtain ⟨us, h3, rfl⟩ := rCons_ok h
          intro x hx
          rcases List.mem_cons.1 hx with rfl | hx
          · exact ⟨hv.1, hv.2, hk⟩
          · exact ih3 _ _ _ _ _ hd h3 x hx
        · cases h
      · cases h
/-- What is read is Good. -/
theorem pParse_good {l : List UInt8} {most : Int} {t : VT} (h : pParse l most = .ok t) : GoodV t := by
  unfold pParse at h
  split at h
  · cases h
  unfold pAll at h
  split at h
  · cases h
  rename_i v r hv
  split at h
  · simp only [Except.ok.injEq] at h
    subst h
    rw [goodV_iff]
    have := (pAll_good _).1 0 _ _ _ (by omega) hv
    exact ⟨by omega, this.2⟩
  · cases h
end Go.Proofs.Ytghkfbhmabnecaa

namespace Go.Proofs.Ytghkfbhmabnecaa

def pCtl (x : UInt8) : Prop := x.toNat = 9 ∨ x.toNat = 10 ∨ x.toNat = 13
def Ctl (B : List UInt8) : Prop := ∀ x ∈ B, pCtl x
theorem Ctl.tail {b : UInt8} {B : List UInt8} (h : Ctl (b :: B)) : Ctl B := fun x hx => h x (by simp [hx])
theorem Ctl.head {b : UInt8} {B : List UInt8} (h : Ctl (b :: B)) : pCtl b := h b (by simp)
theorem ctl_blank {x : UInt8} (h : pCtl x) : pBlank x = true := by
  unfold pBlank; rcases h with h | h | h <;> simp [h]
theorem ctl_skip : ∀ {B : List UInt8}, Ctl B → pSkip B = []
  | [], _ => rfl
  | b :: B, h => by simp only [pSkip]; rw [if_pos (ctl_blank h.head)]; exact ctl_skip h.tail
theorem pSkip_app {B : List UInt8} (h : Ctl B) : ∀ l, pSkip (l ++ B) = match pSkip l with
    | [] => []
    | c :: t => c :: (t ++ B)
  | [] => ctl_skip h
  | c :: t => by
    rw [List.cons_append]
    simp only [pSkip]
    split
    · exact pSkip_app h t
    · rfl
def oApp {α : Type} (B : List UInt8) : Option (α × List UInt8) → Option (α × List UInt8)
  | some (v, r) => some (v, r ++ B)
  | none => none
theorem uCont_app {B : List UInt8} (h : Ctl B) : ∀ (n r : Nat) (l : List UInt8), uCont n r (l ++ B) = oApp B (uCont n r l)
  | 0, r, l => by simp [uCont, oApp]
  | n + 1, r, [] => by
    rw [List.nil_append]
    cases B with
    | nil => rfl
    | cons b B =>
      have := h.head
      unfold pCtl at this
      simp only [uCont]
      rw [if_neg (by omega)]; rfl
  | n + 1, r, c :: t => by
    rw [List.cons_append]
    simp only [uCont]
    split
    · exact uCont_app h n _ t
    · rfl
theorem uTail_app {B : List UInt8} (h : Ctl B) (n r least : Nat) (l : List UInt8) : uTail n r least (l ++ B) = oApp B (uTail n r least l) := by
  unfold uTail
  rw [uCont_app h]
  cases uCont n r l with
  | none => rfl
  | some p =>
    obtain ⟨q, t⟩ := p
    simp only [oApp]
    split <;> rfl
theorem uPoint_app {B : List UInt8} (h : Ctl B) (c : UInt8) (l : List UInt8) : uPoint c (l ++ B) = oApp B (uPoint c l) := by
  unfold uPoint
  split
  · rfl
  split
  · rfl
  split
  · exact uTail_app h _ _ _ _
  split
  · exact uTail_app h _ _ _ _
  split
  · exact uTail_app h _ _ _ _
  · rfl
theorem ctl_digit {x : UInt8} (h : pCtl x) : uDigit x.toNat = none := by
  unfold uDigit
  unfold pCtl at h
  rw [if_neg (by omega), if_neg (by omega), if_neg (by omega)]
theorem uDigs_app {B : List UInt8} (h : Ctl B) : ∀ (n r : Nat) (l : List UInt8), uDigs n r (l ++ B) = oApp B (uDigs n r l)
  | 0, r, l => by simp [uDigs, oApp]
  | n + 1, r, [] => by
    rw [List.nil_append]
    cases B with
    | nil => rfl
    | cons b B => simp only [uDigs, ctl_digit h.head]; rfl
  | n + 1, r, c :: t => by
    rw [List.cons_append]
    simp only [uDigs]
    split
    · exact uDigs_app h n _ t
    · rfl
theorem uLow_app {B : List UInt8} (h : Ctl B) (l : List UInt8) : uLow (l ++ B) = oApp B (uLow l) := by
  match l with
  | [] =>
    rw [List.nil_append]
    match B, h with
    | [], _ => rfl
    | [_], _ => rfl
    | b :: b2 :: B, h =>
      have := h.head
      unfold pCtl at this
      simp only [uLow]
      rw [if_neg (by omega)]; rfl
  | [a] =>
    match B, h with
    | [], _ => rfl
    | b :: B, h =>
      have := h.head
      unfold pCtl at this
      show uLow (a :: b :: B) = _
      simp only [uLow]
      rw [if_neg (by omega)]; rfl
  | a :: b :: t =>
    show uLow (a :: b :: (t ++ B)) = _
    simp only [uLow]
    split
    · rw [uDigs_app h]
      cases uDigs 4 0 t with
      | none => rfl
      | some p =>
        obtain ⟨r, u⟩ := p
        simp only [oApp]
        split <;> rfl
    · rfl
theorem uNum_app {B : List UInt8} (h : Ctl B) (l : List UInt8) : uNum (l ++ B) = oApp B (uNum l) := by
  unfold uNum
  rw [uDigs_app h]
  cases uDigs 4 0 l with
  | none => rfl
  | some p =>
    obtain ⟨r, u⟩ := p
    simp only [oApp]
    split
    · split
      · rfl
      · rw [uLow_app h]
        cases uLow u with
        | none => rfl
        | some p => rfl
    · rfl
theorem uEsc_app {B : List UInt8} (h : Ctl B) (l : List UInt8) : uEsc (l ++ B) = oApp B (uEsc l) := by
  cases l with
  | nil =>
    rw [List.nil_append]
    cases B with
    | nil => rfl
    | cons b B =>
      have := h.head
      unfold pCtl at this
      simp only [uEsc]
      rw [if_neg (by omega), if_neg (by omega), if_neg (by omega), if_neg (by omega), if_neg (by omega), if_neg (by omega), if_neg (by omega)]; rfl
  | cons c t =>
    rw [List.cons_append]
    simp only [uEsc]
    repeat' split
    all_goals first | rfl | exact uNum_app h t
theorem uSym_app {B : List UInt8} (h : Ctl B) (c : UInt8) (l : List UInt8) : uSym c (l ++ B) = oApp B (uSym c l) := by
  unfold uSym
  split
  · exact uEsc_app h l
  · exact uPoint_app h c l
theorem uBody_app {B : List UInt8} (h : Ctl B) : ∀ (n : Nat) (l : List UInt8), l.length ≤ n → uBody (l ++ B) = oApp B (uBody l)
  | n, [], _ => by
    rw [List.nil_append]
    cases B with
    | nil => rfl
    | cons b B =>
      have := h.head
      unfold pCtl at this
      rw [uBody_cons, if_pos (by omega)]; rfl
  | 0, c :: t, hl => by simp at hl
  | n + 1, c :: t, hl => by
    rw [List.cons_append, uBody_cons, uBody_cons]
    split
    · rfl
    split
    · rfl
    rw [uSym_app h]
    cases hq : uSym c t with
    | none => rfl
    | some p =>
      obtain ⟨q, u⟩ := p
      have h1 := uSym_len hq
      simp only [List.length_cons] at hl
      simp only [oApp]
      rw [uBody_app h n u (by omega)]
      cases uBody u with
      | none => rfl
      | some p => rfl
theorem uUnq_app {B : List UInt8} (h : Ctl B) (l : List UInt8) : uUnq (l ++ B) = uUnq l := by
  cases l with
  | nil =>
    rw [List.nil_append]
    cases B with
    | nil => rfl
    | cons b B =>
      have := h.head
      unfold pCtl at this
      simp only [uUnq]
      rw [if_neg (by omega)]
  | cons c t =>
    rw [List.cons_append]
    simp only [uUnq]
    split
    · rw [uBody_app h t.length t (Nat.le_refl _)]
      cases hb : uBody t with
      | none => rfl
      | some p =>
        obtain ⟨x, r⟩ := p
        have := (uBodyF_len _ _ _ _ hb).2
        simp only [oApp, Option.map_some, Option.some.injEq, Prod.mk.injEq, true_and, List.length_append]
        omega
    · rfl
theorem drop_app {l B : List UInt8} {n : Nat} (h : n ≤ l.length) : (l ++ B).drop n = l.drop n ++ B := by
  rw [List.drop_append_of_le_length h]
theorem ctl_sign {x : UInt8} (h : pCtl x) : pSign x = false := by
  unfold pSign pDig; rcases h with h | h | h <;> simp [h]
theorem pRun_app {B : List UInt8} (h : Ctl B) : ∀ l, pRun (l ++ B) = pRun l
  | [] => by
    rw [List.nil_append]
    cases B with
    | nil => rfl
    | cons b B => simp [pRun, ctl_sign h.head]
  | c :: t => by
    rw [List.cons_append]
    simp only [pRun]
    split
    · rw [pRun_app h t]
    · rfl
theorem pPast_app {B : List UInt8} (h : Ctl B) : ∀ l, pPast (l ++ B) = pPast l ++ B
  | [] => by
    rw [List.nil_append]
    cases B with
    | nil => rfl
    | cons b B => simp [pPast, ctl_sign h.head]
  | c :: t => by
    rw [List.cons_append]
    simp only [pPast]
    split
    · rw [pPast_app h t]
    · rfl
def eApp {α : Type} (B : List UInt8) : PR α → PR α
  | .ok (v, r) => .ok (v, r ++ B)
  | .error e => .error e
theorem pNumber_app {B : List UInt8} (h : Ctl B) (l : List UInt8) : pNumber (l ++ B) = eApp B (pNumber l) := by
  unfold pNumber
  rw [pRun_app h, pPast_app h]
  cases pInt (pRun l) <;> rfl
theorem pText_app {B : List UInt8} (h : Ctl B) (l : List UInt8) : pText (l ++ B) = eApp B (pText l) := by
  unfold pText
  rw [uUnq_app h]
  cases hu : uUnq l with
  | none => rfl
  | some p =>
    obtain ⟨x, n⟩ := p
    simp only [eApp]
    rw [drop_app (uUnq_len hu).2.1]
theorem prefix_app {B : List UInt8} (h : Ctl B) : ∀ (w l : List UInt8), (∀ x ∈ w, ¬ pCtl x) → w.isPrefixOf (l ++ B) = w.isPrefixOf l
  | [], l, _ => by simp
  | a :: w, [], hw => by
    rw [List.nil_append]
    cases B with
    | nil => rfl
    | cons b B =>
      have h1 : a ≠ b := fun e => hw a (by simp) (by rw [e]; exact h.head)
      simp [List.isPrefixOf, h1]
  | a :: w, c :: l, hw => by
    rw [List.cons_append]
    simp only [List.isPrefixOf]
    rw [prefix_app h w l (fun x hx => hw x (by simp [hx]))]
theorem pWord_app {B : List UInt8} (h : Ctl B) (l : List UInt8) : pWord (l ++ B) = eApp B (pWord l) := by
  unfold pWord
  rw [prefix_app h wNull l (by simp [wNull, pCtl]), prefix_app h wTrue l (by simp [wTrue, pCtl]), prefix_app h wFalse l (by simp [wFalse, pCtl])]
  split
  · rename_i h1
    rw [List.isPrefixOf_iff_prefix] at h1
    rw [drop_app (show 4 ≤ l.length from h1.length_le)]; rfl
  split
  · rename_i h1
    rw [List.isPrefixOf_iff_prefix] at h1
    rw [drop_app (show 4 ≤ l.length from h1.length_le)]; rfl
  split
  · rename_i h1
    rw [List.isPrefixOf_iff_prefix] at h1
    rw [drop_app (show 5 ≤ l.length from h1.length_le)]; rfl
  · rfl
theorem pKey_app {B : List UInt8} (h : Ctl B) (ks : List ByteArray) (l : List UInt8) : pKey ks (l ++ B) = eApp B (pKey ks l) := by
  unfold pKey
  rw [pSkip_app h]
  cases pSkip l with
  | nil => rfl
  | cons c t =>
    simp only
    split
    · rw [← List.cons_append, uUnq_app h]
      cases hu : uUnq (c :: t) with
      | none => rfl
      | some p =>
        obtain ⟨x, n⟩ := p
        simp only
        split
        · rfl
        · rw [drop_app (uUnq_len hu).2.1]; rfl
    · rfl
theorem rList_app (B : List UInt8) (q : PR (List VT)) : rList (eApp B q) = eApp B (rList q) := by
  cases q with
  | error e => rfl
  | ok p => rfl
theorem rMap_app (B : List UInt8) (q : PR (List (ByteArray × VT))) : rMap (eApp B q) = eApp B (rMap q) := by
  cases q with
  | error e => rfl
  | ok p => rfl
theorem rCons_app {α : Type} (B : List UInt8) (x : α) (q : PR (List α)) : rCons x (eApp B q) = eApp B (rCons x q) := by
  cases q with
  | error e => rfl
  | ok p => rfl
theorem pAll_app {B : List UInt8} (h : Ctl B) : ∀ f, (∀ d l, pVal f d (l ++ B) = eApp B (pVal f d l)) ∧ (∀ d l, pItems f d (l ++ B) = eApp B (pItems f d l)) ∧ (∀ d ks l, pMems f d ks (l ++ B) = eApp B (pMems f d ks l))
  | 0 => ⟨fun d l => by simp [pVal, eApp], fun d l => by simp [pItems, eApp], fun d ks l => by simp [pMems, eApp]⟩
  | f + 1 => by
    obtain ⟨ih1, ih2, ih3⟩ := pAll_app h f
    refine ⟨fun d l => ?_, fun d l => ?_, fun d ks l => ?_⟩
    · simp only [pVal]
      rw [pSkip_app h]
      cases pSkip l with
      | nil => rfl
      | cons c t =>
        simp only
        rw [← List.cons_append, pText_app h, pNumber_app h, pWord_app h, pSkip_app h, ih2, ih3, rList_app, rMap_app]
        split
        · split
          · rfl
          · cases pSkip t with
            | nil => rfl
            | cons x r =>
              simp only
              split <;> rfl
        split
        · split
          · rfl
          · cases pSkip t with
            | nil => rfl
            | cons x r =>
              simp only
              split <;> rfl
        split
        · rfl
        split
        · rfl
        · rfl
    · simp only [pItems]
      rw [ih1]
      cases pVal f d l with
      | error e => rfl
      | ok p =>
        obtain ⟨v, r⟩ := p
        simp only [eApp]
        rw [pSkip_app h]
        cases pSkip r with
        | nil => rfl
        | cons c t =>
          simp only
          rw [ih2, rCons_app]
          split
          · rfl
          split
          · rfl
          · rfl
    · simp only [pMems]
      rw [pKey_app h]
      cases pKey ks l with
      | error e => rfl
      | ok p =>
        obtain ⟨k, r⟩ := p
        simp only [eApp]
        rw [pSkip_app h]
        cases pSkip r with
        | nil => rfl
        | cons c t =>
          simp only
          split
          · rw [ih1]
            cases pVal f d t with
            | error e => rfl
            | ok p =>
              obtain ⟨v, r⟩ := p
              simp only [eApp]
              rw [pSkip_app h]
              cases pSkip r with
              | nil => rfl
              | cons c t =>
                simp only
                rw [ih3, rCons_app]
                split
                · rfl
                split
                · rfl
                · rfl
          · rfl
end Go.Proofs.Ytghkfbhmabnecaa

namespace Go.Proofs.Ytghkfbhmabnecaa
open Go.RowKit

def pAllF (F : Nat) (l : List UInt8) : Except Nat VT := match pVal F 0 l with
  | .error e => .error e
  | .ok (v, r) => match pSkip r with
    | [] => .ok v
    | _ :: _ => .error 2
def pParseF (F : Nat) (l : List UInt8) (most : Int) : Except Nat VT := if max most 0 < (l.length : Int) then .error 6 else pAllF F l
theorem pAllF_round {B : List UInt8} (h : Ctl B) (F : Nat) (l : List UInt8) : pAllF F (32 :: (l ++ B)) = pAllF F l := by
  have h1 : pVal F 0 (32 :: (l ++ B)) = eApp B (pVal F 0 l) := by
    rw [← (pAll_app h F).1 0 l, ← pVal_skip F 0 (32 :: (l ++ B)), ← pVal_skip F 0 (l ++ B)]
    rfl
  unfold pAllF
  rw [h1]
  cases pVal F 0 l with
  | error e => rfl
  | ok p =>
    obtain ⟨v, r⟩ := p
    simp only [eApp]
    rw [pSkip_app h]
    cases pSkip r <;> rfl
theorem pAllF_good {F : Nat} {l : List UInt8} {t : VT} (h : pAllF F l = .ok t) : GoodV t := by
  unfold pAllF at h
  split at h
  · cases h
  rename_i v r hv
  split at h
  · simp only [Except.ok.injEq] at h
    subst h
    rw [goodV_iff]
    have := (pAll_good _).1 0 _ _ _ (by omega) hv
    exact ⟨by omega, this.2⟩
  · cases h

set_option maxRecDepth 100000 in
set_option maxHeartbeats 2000000 in
theorem parse_anyF (F : Nat) (s : ByteArray) (most : Int) (w : World) (hs : 4 * s.size + 8 ≤ 1000000) (hF : 2 * s.size < F) :
    Calls Try.prog 28 #[.string s, .int .i64 most] w (Parsed w (pParseF F s.data.toList most)) := by
  have HS := Lib.hid hs
  have HFF := Lib.hid hF
  clear hF
  have hln : s.data.toList.length = s.size := Array.length_toList
  by_cases hm : max most 0 < (s.size : Int)
  · have HR := Lib.hid (show pParseF F s.data.toList most = .error 6 by unfold pParseF; rw [hln, if_pos hm])
    clear hln
    go_enter Try.func28, Try.ntmps28
    go_wp2
    refine bodyPost_ret (v := .tuple #[vZ, .int .i64 6]) (by simp [results, Try.results28, go_sem, vZ]) rfl ?_
    exact Parsed.no HR.out (by decide) (by repeat' first | exact Below.refl _ _ | (refine Below.setCell ?_ (by simp) _) | (refine Below.alloc ?_ (by simp) _))
  · have HRR := Lib.hid (show pParseF F s.data.toList most = pAllF F s.data.toList by unfold pParseF; rw [hln, if_neg hm])
    have HLN := Lib.hid hln
    clear hln
    go_enter Try.func28, Try.ntmps28
    go_wp2_with fail
    generalize hW2 : (w.alloc _).alloc _ = W2
    have hz2 : W2.heap.size = w.heap.size + 2 := by subst hW2; simp
    have hb2 : Below w.heap.size w W2 := by subst hW2; exact ((Below.refl _ w).alloc (Nat.le_refl _) _).alloc (by simp) _
    have HBX := Lib.hid (show W2.heap[w.heap.size]? = some (.cells #[.int .i64 0, .int .i64 0, .string ⟨#[]⟩, .slice none 0 0, .slice none 0 0] 26 (0, 0)) by
      subst hW2
      exact (((Below.refl (w.heap.size + 1) _).alloc (by simp) _).block w.heap.size (Nat.lt_succ_self _)).trans (World.alloc_heap_new w _))
    have HPC := Lib.hid (show PCur W2 (w.heap.size + 1) s s.data.toList 0 by
      subst hW2
      refine ⟨by rw [HLN.out]; exact Nat.le_refl _, by rw [HLN.out, Nat.sub_self]; rfl, ?_⟩
      have := World.alloc_heap_new (w.alloc (.cells #[.int .i64 0, .int .i64 0, .string ⟨#[]⟩, .slice none 0 0, .slice none 0 0] 26)) (.cells #[.string s, .int .i64 0, .int .i64 0] 82)
      rw [World.size_alloc] at this
      rw [HLN.out, Nat.sub_self]
      exact this)
    have HB2 := Lib.hid hb2
    have HZ2 := Lib.hid hz2
    clear hW2 hz2 hb2
    refine (value_all (w.heap.size + 1) s HS.out F 0 s.data.toList W2 (by omega) (by rw [HLN.out]; exact HFF.out) HPC.out).mono ?_
    intro e w3 hg
    obtain ⟨hx3, hg⟩ := hg
    have HB3 := Lib.hid (show Below w.heap.size w w3 from HB2.out.trans (hx3.below HB2.out.size (fun k hk e => by omega)))
    have hbx3 := (hx3.block w.heap.size (lt_of_block HBX.out) (by omega)).trans HBX.out
    have HBX3 := Lib.hid hbx3
    have hwz3 : w.heap.size < w3.heap.size := lt_of_block hbx3
    obtain ⟨g0, g1, g2, g3, g4⟩ := box5 hbx3
    obtain ⟨r0, r1, r2, r3, r4⟩ := c5of hbx3
    clear hx3 hbx3
    cases hpv : pVal F 0 s.data.toList with
    | error cc =>
      rw [hpv] at hg
      obtain ⟨rfl, hc, _⟩ := hg
      have HR := Lib.hid (show pParseF F s.data.toList most = .error cc by rw [HRR.out]; unfold pAllF; rw [hpv])
      have hc' : ((cc : Int) != 0) = true := by simp; omega
      unfold vZ
      clear hpv
      go_wp2
      have hp5 := put5 (.int .i64 0) (.int .i64 0) (.string ⟨#[]⟩) (.slice none 0 0) (.slice none 0 0) HBX3.out
      have ho5 := put5_only (w := w3) (b := w.heap.size) (.int .i64 0) (.int .i64 0) (.string ⟨#[]⟩) (.slice none 0 0) (.slice none 0 0)
      generalize ((((w3.setCell _ _).setCell _ _).setCell _ _).setCell _ _).setCell _ _ = W9 at hp5 ho5 ⊢
      obtain ⟨z0, z1, z2, z3, z4⟩ := c5of hp5
      have hwz9 : w.heap.size < W9.heap.size := lt_of_block hp5
      refine bodyPost_ret (v := .tuple #[vZ, .int .i64 (cc : Int)]) (by simp [results, Try.results28, go_sem, vZ, z0, z1, z2, z3, z4, hwz9]) rfl ?_
      exact Parsed.no HR.out hc ((HB3.out.trans (ho5.below (Nat.le_refl _))).alloc (by omega) _)
    | ok p =>
      obtain ⟨t, l'⟩ := p
      rw [hpv] at hg
      obtain ⟨y, rfl, hy, hp'⟩ := hg
      obtain ⟨yk, yn, ys, ya, yl, yp, yb, ym, yq, rfl⟩ := hy.form
      have HY := Lib.hid hy
      have HPV := Lib.hid hpv
      have HP' := Lib.hid hp'
      have hlt' := hp'.lt
      clear hy hp' hpv
      go_wp2_with fail
      generalize hW4 : w3.alloc _ = W4
      have hb4 : Below w3.heap.size w3 W4 := by subst hW4; exact (Below.refl _ w3).alloc (Nat.le_refl _) _
      have HQ4 := Lib.hid (show W4.heap[w3.heap.size]? = some (.cells #[.int .i64 yk, .int .i64 yn, .string ys, .slice ya yl yp, .slice yb ym yq] 26 (0, 0)) by subst hW4; exact World.alloc_heap_new w3 _)
      have HP4 := Lib.hid (HP'.out.same (hb4.block _ hlt'))
      have HB4 := Lib.hid hb4
      clear hW4 hb4 r0 r1 r2 r3 r4 g0 g1 g2 g3 g4
      have HSM := Lib.hid (show s.size ≤ maxLen by unfold maxLen; have := HS.out; omega)
      refine (atEnd_any (w.heap.size + 1) s l' 0 W4 HSM.out HP4.out).mono ?_
      rintro e w5 ⟨rfl, _, ho5'⟩
      have hq5 := (ho5'.block w3.heap.size (by omega)).trans HQ4.out
      have hbx5 := ((ho5'.block w.heap.size (by omega)).trans (HB4.out.block w.heap.size hwz3)).trans HBX3.out
      have HBX5 := Lib.hid hbx5
      have HB5 := Lib.hid (show Below w.heap.size w w5 from (HB3.out.trans (HB4.out.mono HB3.out.size)).trans (ho5'.below (by omega)))
      have HB35 := Lib.hid (show ∀ k, k < w3.heap.size → k ≠ w.heap.size + 1 → w5.heap[k]? = w3.heap[k]? from fun k h1 h2 => (ho5'.block k h2).trans (HB4.out.block k h1))
      have HSZ := Lib.hid (show w3.heap.size ≤ w5.heap.size by rw [ho5'.size]; exact HB4.out.size)
      obtain ⟨g0, g1, g2, g3, g4⟩ := box5 hbx5
      obtain ⟨r0, r1, r2, r3, r4⟩ := c5of hbx5
      obtain ⟨q0, q1, q2, q3, q4⟩ := c5of hq5
      have HP5 := Lib.hid (show PCur w3 (w.heap.size + 1) s l' 0 from HP'.out)
      clear ho5' hq5 hbx5
      cases hl : pSkip l' with
      | nil =>
        have HR := Lib.hid (show pParseF F s.data.toList most = .ok t by rw [HRR.out]; unfold pAllF; rw [HPV.out]; simp only; rw [hl])
        simp only [List.isEmpty_nil]
        clear hl
        go_wp2
        have hp5 := put5 (.int .i64 yk) (.int .i64 yn) (.string ys) (.slice ya yl yp) (.slice yb ym yq) HBX5.out
        have ho5 := put5_only (w := w5) (b := w.heap.size) (.int .i64 yk) (.int .i64 yn) (.string ys) (.slice ya yl yp) (.slice yb ym yq)
        generalize ((((w5.setCell _ _).setCell _ _).setCell _ _).setCell _ _).setCell _ _ = W9 at hp5 ho5 ⊢
        obtain ⟨z0, z1, z2, z3, z4⟩ := c5of hp5
        refine bodyPost_ret (v := .tuple #[.agg #[.int .i64 yk, .int .i64 yn, .string ys, .slice ya yl yp, .slice yb ym yq], .int .i64 0]) (by simp [results, Try.results28, go_sem, z0, z1, z2, z3, z4]) rfl ?_
        refine Parsed.yes HR.out (HB5.out.trans (ho5.below (Nat.le_refl _))) ?_
        have hzz := HZ2.out
        have hsz := HSZ.out
        exact (HY.out.keep (fun x hx => (ho5.block x (by omega)).trans (HB35.out x hx.2 (by omega)))).at (fun x hx => by rw [ho5.size]; omega)
      | cons c t' =>
        have HR := Lib.hid (show pParseF F s.data.toList most = .error 2 by rw [HRR.out]; unfold pAllF; rw [HPV.out]; simp only; rw [hl])
        simp only [List.isEmpty_cons]
        clear hl
        go_wp2
        have hp5 := put5 (.int .i64 0) (.int .i64 0) (.string ⟨#[]⟩) (.slice none 0 0) (.slice none 0 0) HBX5.out
        have ho5 := put5_only (w := w5) (b := w.heap.size) (.int .i64 0) (.int .i64 0) (.string ⟨#[]⟩) (.slice none 0 0) (.slice none 0 0)
        generalize ((((w5.setCell _ _).setCell _ _).setCell _ _).setCell _ _).setCell _ _ = W9 at hp5 ho5 ⊢
        obtain ⟨z0, z1, z2, z3, z4⟩ := c5of hp5
        refine bodyPost_ret (v := .tuple #[vZ, .int .i64 2]) (by simp [results, Try.results28, go_sem, z0, z1, z2, z3, z4, vZ]) rfl ?_
        exact Parsed.no HR.out (by decide) (HB5.out.trans (ho5.below (Nat.le_refl _)))
end Go.Proofs.Ytghkfbhmabnecaa

namespace Go.Proofs.Ytghkfbhmabnecaa
open Go.ChangeShapes Go.WideShapes Go.ChangeAt Go.RowKit
open Go.ChangeMaps (open_string shut_string)

theorem zeroG_at (n : Nat) (w : World) : VAt n w jNull (.agg #[.int .i64 0, .int .i64 0, .string ⟨#[]⟩, .slice none 0 0, .slice none 0 0]) :=
  (VIn.flat (F := fun _ => False) (by decide) (by decide) (by decide)).at (fun _ h => h.elim)
def bRound (s : ByteArray) : ByteArray := ⟨#[32]⟩ ++ s ++ ⟨#[13, 10, 9]⟩
theorem bRound_size (s : ByteArray) : (bRound s).size = s.size + 4 := by
  unfold bRound
  rw [ByteArray.size_append, ByteArray.size_append]
  have h1 : (⟨#[32]⟩ : ByteArray).size = 1 := rfl
  have h2 : (⟨#[13, 10, 9]⟩ : ByteArray).size = 3 := rfl
  omega
theorem bRound_all (F : Nat) (s : ByteArray) : pAllF F (bRound s).data.toList = pAllF F s.data.toList := by
  unfold bRound
  rw [ByteArray.data_append, Array.toList_append, ByteArray.data_append, Array.toList_append]
  exact pAllF_round (B := [13, 10, 9]) (by intro x hx; simp only [List.mem_cons, List.mem_nil_iff, or_false] at hx; rcases hx with rfl | rfl | rfl <;> simp [pCtl]) F s.data.toList
theorem pParseF_fits (F : Nat) (s : ByteArray) (most : Int) (h : (s.size : Int) ≤ most) : pParseF F s.data.toList most = pAllF F s.data.toList := by
  have hln : s.data.toList.length = s.size := Array.length_toList
  unfold pParseF
  rw [hln, if_neg (by omega)]

set_option maxRecDepth 100000 in
set_option maxHeartbeats 4000000 in
theorem good3_true (s : ByteArray) (w : World) : Calls Try.prog 7 #[.string s] w fun e w' => e = .returned (.bool true) ∧ Below w.heap.size w w' := by
  go_enter Try.func7, Try.ntmps7
  go_wp2_with fail
  refine (awake3_true _).mono ?_
  rintro e w1 ⟨rfl, hb1⟩
  have HB1 := Lib.hid hb1
  clear hb1
  by_cases h600 : 600 < (s.size : Int)
  · go_wp2
    go_ret
    exact ⟨rfl, HB1.out⟩
  have HSZ := Lib.hid (show s.size ≤ 600 by omega)
  obtain ⟨F, hF⟩ : ∃ F, 2 * s.size + 9 = F := ⟨_, rfl⟩
  have HF := Lib.hid hF
  have h1 : ¬ 9223372036854775807 < 1 + s.size := by omega
  have h2 : ¬ 9223372036854775807 < 1 + s.size + 3 := by omega
  have h3 : ¬ 9223372036854775807 < ((⟨#[32]⟩ : ByteArray) ++ s).size + 3 := by rw [ByteArray.size_append]; exact h2
  have h64 : (s.size : Int) ≤ 600 := by omega
  clear hF h600
  go_wp2_with fail
  have hpp := parse_anyF F s (s.size : Int) w1 (by have := HSZ.out; omega) (by have := HF.out; omega)
  rw [pParseF_fits F s _ (Int.le_refl _)] at hpp
  refine hpp.mono ?_
  clear hpp
  intro e w2 hg
  obtain ⟨hb2, hg⟩ := hg
  have HB2 := Lib.hid (HB1.out.trans (hb2.mono HB1.out.size))
  clear hb2
  cases hr : pAllF F s.data.toList with
  | error c =>
    rw [hr] at hg
    obtain ⟨rfl, hc⟩ := hg
    have HR := Lib.hid hr
    have hc' : ((c : Int) != 0) = true := by simp; omega
    unfold vZ
    clear hr
    go_wp2_with fail
    generalize hW3 : w2.alloc _ = W3
    have HB3 := Lib.hid (show Below w.heap.size w W3 by subst hW3; exact HB2.out.alloc HB2.out.size _)
    have HQ3 := Lib.hid (show W3.heap[w2.heap.size]? = some (.cells #[.int .i64 0, .int .i64 0, .string ⟨#[]⟩, .slice none 0 0, .slice none 0 0] 26 (0, 0)) by subst hW3; exact World.alloc_heap_new w2 _)
    clear hW3
    generalize hS : (⟨#[32]⟩ : ByteArray) ++ s ++ (⟨#[13, 10, 9]⟩ : ByteArray) = S
    have hz : S.size = s.size + 4 := by rw [← hS]; exact bRound_size s
    have hpp := parse_anyF F S ((s.size : Int) + 4) W3 (by have := HSZ.out; omega) (by have := HF.out; omega)
    rw [pParseF_fits F S _ (by omega), show pAllF F S.data.toList = .error c by rw [← hS]; exact (bRound_all F s).trans HR.out] at hpp
    refine hpp.mono ?_
    clear hpp hS hz h1 h2 h3
    rintro e w4 ⟨hb4, rfl, _⟩
    have HB4 := Lib.hid (HB3.out.trans (hb4.mono HB3.out.size))
    have hq4 := (hb4.block w2.heap.size (lt_of_block HQ3.out)).trans HQ3.out
    have hl4 : w2.heap.size < w4.heap.size := lt_of_block hq4
    obtain ⟨z0, z1, z2, z3, z4⟩ := c5of hq4
    unfold vZ
    clear hb4 hq4
    go_wp2_with fail
    generalize hW5 : w4.alloc _ = W5
    have HB5 := Lib.hid (show Below w.heap.size w W5 by subst hW5; exact HB4.out.alloc HB4.out.size _)
    clear hW5 z0 z1 z2 z3 z4
    refine (same_any (zeroG_at W5.heap.size W5) (zeroG_at W5.heap.size W5) W5 (Below.refl _ _) (Nat.le_refl _) true (by simp)).mono ?_
    rintro e w6 ⟨rfl, hb6⟩
    have HB6 := Lib.hid (HB5.out.trans (hb6.mono HB5.out.size))
    clear hb6
    go_wp2
    go_ret
    exact ⟨by simp, HB6.out⟩
  | ok t =>
    rw [hr] at hg
    obtain ⟨y, rfl, hy⟩ := hg
    have HR := Lib.hid hr
    have HG := Lib.hid (pAllF_good hr)
    obtain ⟨yk, yn, ys, ya, yl, yp, yb, ym, yq, rfl⟩ := MadeV.form (base := 0) (.inl hy)
    have HY := Lib.hid hy
    clear hr hy
    go_wp2_with fail
    generalize hW3 : w2.alloc _ = W3
    have HN3 := Lib.hid (show Below w2.heap.size w2 W3 by subst hW3; exact (Below.refl _ w2).alloc (Nat.le_refl _) _)
    have HQ3 := Lib.hid (show W3.heap[w2.heap.size]? = some (.cells #[.int .i64 yk, .int .i64 yn, .string ys, .slice ya yl yp, .slice yb ym yq] 26 (0, 0)) by subst hW3; exact World.alloc_heap_new w2 _)
    clear hW3
    generalize hS : (⟨#[32]⟩ : ByteArray) ++ s ++ (⟨#[13, 10, 9]⟩ : ByteArray) = S
    have hz : S.size = s.size + 4 := by rw [← hS]; exact bRound_size s
    have hpp := parse_anyF F S ((s.size : Int) + 4) W3 (by have := HSZ.out; omega) (by have := HF.out; omega)
    rw [pParseF_fits F S _ (by omega), show pAllF F S.data.toList = .ok t by rw [← hS]; exact (bRound_all F s).trans HR.out] at hpp
    refine hpp.mono ?_
    clear hpp hS hz h1 h2 h3
    rintro e w4 ⟨hb4, x, rfl, hx⟩
    obtain ⟨xk, xn, xs, xa, xl, xp, xb, xm, xq, rfl⟩ := MadeV.form (base := 0) (.inl hx)
    have HX := Lib.hid hx
    have HN4 := Lib.hid (HN3.out.trans (hb4.mono HN3.out.size))
    have HQ4 := Lib.hid ((hb4.block w2.heap.size (lt_of_block HQ3.out)).trans HQ3.out)
    have hl4 : w2.heap.size < w4.heap.size := lt_of_block HQ4.out
    obtain ⟨z0, z1, z2, z3, z4⟩ := c5of HQ4.out
    clear hb4 hx
    go_wp2_with fail
    clear z0 z1 z2 z3 z4
    generalize hW5 : w4.alloc _ = W5
    have hb5 : Below w4.heap.size w4 W5 := by subst hW5; exact (Below.refl _ w4).alloc (Nat.le_refl _) _
    have HQ5 := Lib.hid (show W5.heap[w4.heap.size]? = some (.cells #[.int .i64 xk, .int .i64 xn, .string xs, .slice xa xl xp, .slice xb xm xq] 26 (0, 0)) by subst hW5; exact World.alloc_heap_new w4 _)
    have HR5 := Lib.hid ((hb5.block w2.heap.size hl4).trans HQ4.out)
    have HM5 := Lib.hid hb5
    have HN5 := Lib.hid (HN4.out.trans (hb5.mono HN4.out.size))
    clear hW5 hb5
    refine (vgood_any HY.out W5 HN5.out HN5.out.size true (by simp [HG.out])).mono ?_
    rintro e w6 ⟨rfl, hb6⟩
    have HM6 := Lib.hid (HM5.out.trans (hb6.mono HM5.out.size))
    have HN6 := Lib.hid (HN5.out.trans (hb6.mono HN5.out.size))
    obtain ⟨z0, z1, z2, z3, z4⟩ := c5of ((hb6.block w2.heap.size (lt_of_block HR5.out)).trans HR5.out)
    obtain ⟨x0, x1, x2, x3, x4⟩ := c5of ((hb6.block w4.heap.size (lt_of_block HQ5.out)).trans HQ5.out)
    clear hb6
    go_wp2_with fail
    clear z0 z1 z2 z3 z4 x0 x1 x2 x3 x4
    refine (same_any ((HY.out.keep HN4.out).mono HN4.out.size) HX.out w6 HM6.out HM6.out.size true (by simp)).mono ?_
    rintro e w7 ⟨rfl, hb7⟩
    have HN7 := Lib.hid (HN6.out.trans (hb7.mono HN6.out.size))
    clear hb7
    go_wp2
    go_ret
    exact ⟨rfl, HB2.out.trans (HN7.out.mono HB2.out.size)⟩

theorem good3_own : ownKnob Try.prog.godebug = none := by kernel_rfl

set_option maxRecDepth 100000 in
theorem good3_lifted (os : Os) (started : os.Started) (H : Type) (enc : TypeId × Value → H) :
    ReturnsInHanded {} Try.checked os 7 .any (Rows.parseGoodSpec.pre6 enc Try.prog Try.f7 Rows.parseGoodRow.domain false) (Rows.parseGoodSpec.post enc Try.prog Try.f7 false true false false) := by
  refine returnsInHanded_of_change (C := Try.checked) good3_own started (by kernel_rfl) Try.func7
    (ChangeSpec.witness6 (enc := enc) (C := Try.checked) false ⟨#[], #[.string ByteArray.empty], []⟩ 8 (by kernel_rfl) (by kernel_rfl) (by kernel_rfl) (by kernel_rfl)) ?_
  intro W base args ds gs before hval0 hW hcnd _
  have hval : ∀ (j : Nat) t v, Try.f7.params[j]? = some t → args[j]? = some v → Value.okWide Try.prog W .any base t v := hval0
  have hW' := hW
  obtain ⟨p, q, hA0, hV, rfl, hfz, hnd⟩ := hW
  have hA : DataW.TrodAll enc Try.prog W 0 (fun _ => true) true Try.f7.params.toList args.toList ds p := hA0
  rw [Try.params7] at hA hval
  obtain ⟨v0, vs0, d0, ds0, p0, q0, hargs, rfl, rfl, h0, r0⟩ := trodAll_cons hA
  obtain ⟨rfl, rfl, rfl⟩ := trodAll_nil r0
  obtain rfl : args = #[v0] := by cases args; simp_all
  obtain ⟨rfl, rfl⟩ := trodVars_none hV
  obtain ⟨a0, rfl, rfl, rfl, w0⟩ := open_string Try.underlying9 (hval 0 9 v0 rfl rfl) h0
  clear hA0 hval0
  simp only [List.append_nil] at hW'
  refine (good3_true a0 W).mono fun e W' ⟨he, bel⟩ => ?_
  subst he
  exact ⟨_, rfl, _, _, _, [], [], [], hW', trodAll_mk1 (shut_bool Try.underlying4 _), (trodAll_cons_mk (shut_string Try.underlying9 w0) trodAll_mk0), rfl, bel.frame _, fun h => by cases h⟩

theorem good3_holds : Rows.ParseGoodSaid :=
  OpenClaim.holds_of_wide 7 Try.f7 rfl rfl rfl rfl rfl rfl rfl ⟨rfl, rfl, rfl, rfl, rfl⟩ rfl rfl rfl rfl rfl (by kernel_rfl) Try.func7 (by kernel_rfl)
    (of_decide_eq_true (by kernel_rfl)) (by unfold Func.isWrapper; first | (rw [if_pos (by decide +kernel)]; kernel_rfl) | (rw [if_neg (by decide +kernel)]; exact ⟨rfl, rfl⟩))
    (fun os started H enc _ => good3_lifted os started H enc)
#print axioms good3_holds



end Go.Proofs.Ytghkfbhmabnecaa
