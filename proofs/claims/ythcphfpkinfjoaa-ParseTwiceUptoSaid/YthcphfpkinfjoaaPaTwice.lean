/-
  The statement ParseTwice of the stage parse: for all keys, of a bounded bulk, the call answers true.
  Conditions: what comes in is of bulk at most 1048576.
-/
import Derived.Test.YthcphfpkinfjoaaPaU
import Derived.JoinedCond
namespace Go.Proofs.Ythcphfpkinfjoaa
open Go.ChangeShapes Go.WideShapes Go.ChangeAt Go.RowKit

theorem tchain {w a b : World} (h : Below w.heap.size w a) (k : Below a.heap.size a b) : Below w.heap.size w b := h.trans (k.mono h.size)
theorem below_drewN {B : Nat} {w w' : World} (h : Below B w w') (n : Nat) : Below B w (w'.drewN n) := ⟨h.os, h.tape, h.output, h.size, h.block⟩
theorem take_snoc {ks : List ByteArray} {i : Nat} {x : ByteArray} (h : i < ks.length) (hx : ks[i] = x) : ks.take i ++ [x] = ks.take (i + 1) := by
  rw [List.take_add_one, List.getElem?_eq_getElem h, hx]; rfl
theorem oks_snoc {ks : List ByteArray} {i : Nat} {x : ByteArray} (h : i < ks.length) (hx : ks[i] = x) (ho : OKs (ks.take i)) (hg : (uRunes x.data.toList).isSome = true) (hs : x.size ≤ 30) (hno : ∀ j (hj : j < ks.length), j < i → ks[j] ≠ x) : OKs (ks.take (i + 1)) := by
  rw [← take_snoc h hx]
  refine ⟨?_, ?_⟩
  · intro k hk
    rcases List.mem_append.1 hk with hk | hk
    · exact ho.1 k hk
    · rw [List.mem_singleton.1 hk]; exact ⟨hg, hs⟩
  · rw [List.nodup_append]
    refine ⟨ho.2, by simp, ?_⟩
    intro a ha b hb e
    rw [List.mem_singleton] at hb
    subst hb; subst e
    obtain ⟨j, hj, e⟩ := List.mem_iff_getElem.1 ha
    rw [List.length_take] at hj
    rw [List.getElem_take] at e
    exact hno j (by omega) (by omega) e
theorem hex_all : ∀ k : Fin 16, ((⟨#[48, 49, 50, 51, 52, 53, 54, 55, 56, 57, 97, 98, 99, 100, 101, 102]⟩ : ByteArray).extract k.val (k.val + 1)).data.toList = [uHex k.val] := by decide +kernel
theorem hex_ext (a : Nat) (h : a < 16) : ((⟨#[48, 49, 50, 51, 52, 53, 54, 55, 56, 57, 97, 98, 99, 100, 101, 102]⟩ : ByteArray).extract a (a + 1)).data.toList = [uHex a] := hex_all ⟨a, h⟩
set_option maxRecDepth 100000 in
set_option maxHeartbeats 8000000 in
theorem twice_true (ks : List ByteArray) (v : Value) (which : Int) (esc : Bool) (w : World) (hst : Sts w v ks) (hsz : ∀ k ∈ ks, k.size ≤ 1048576) :
    Calls Try.prog 8 #[v, .int .i64 which, .bool esc] w fun e w' => e = .returned (.bool true) ∧ Below w.heap.size w w' := by
  obtain ⟨ao, cap, rfl, hao⟩ := hst
  have HAO := Lib.hid hao
  have HSZ := Lib.hid hsz
  clear hao hsz
  go_enter Try.func8, Try.ntmps8
  go_wp2_with fail
  refine (awake3_true _).mono ?_
  rintro e w1 ⟨rfl, hb1⟩
  have HB1 := Lib.hid hb1
  clear hb1
  by_cases h1 : ks.length < 1
  · have h1' : (ks.length : Int) < 1 := by omega
    go_wp2
    go_ret
    exact ⟨rfl, HB1.out⟩
  have h1' : ¬ (ks.length : Int) < 1 := by omega
  by_cases h2 : 20 < ks.length
  · have h2' : (20 : Int) < (ks.length : Int) := by omega
    go_wp2
    go_ret
    exact ⟨rfl, HB1.out⟩
  have h2' : ¬ (20 : Int) < (ks.length : Int) := by omega
  obtain ⟨g, off, rfl, hg, hcell⟩ : ∃ g off, ao = some ⟨g, off, none⟩ ∧ g < w.heap.size ∧ ∀ i (h : i < ks.length), w.cell? ⟨g, off + i, none⟩ = some (.string ks[i]) := by
    rcases HAO.out with rfl | h
    · simp at h1
    · exact h
  have HCE := Lib.hid (fun (W : World) (hW : Below w.heap.size w W) i (h : i < ks.length) => (World.cell?_of_block (a := ⟨g, off + i, none⟩) (hW.block g hg)).trans (hcell i h))
  clear hcell HAO hg
  go_wp2_with fail
  go_loopw [7, 8, 9] (fun sv tv iv wr => ∃ i : Nat, iv = .int .i64 i ∧ sv = .string (txS (ks.take i)) ∧ tv = .string (txT (ks.take i)) ∧ i ≤ ks.length ∧ OKs (ks.take i) ∧ Below w.heap.size w wr) (fun _ _ i _ => ks.length - (intOf i).toNat)
  case atStart => exact ⟨0, rfl, rfl, rfl, Nat.zero_le _, ⟨fun k hk => by simp at hk, by simp⟩, HB1.out⟩
  case round =>
    obtain ⟨i, rfl, rfl, rfl, hi, hoks, hbr⟩ := hrel
    have HOK := Lib.hid hoks
    have HBR := Lib.hid hbr
    have hsz := tx_size hoks (by rw [List.length_take]; omega)
    obtain ⟨S, hS⟩ : ∃ S, txS (ks.take i) = S := ⟨_, rfl⟩
    obtain ⟨T, hT⟩ : ∃ T, txT (ks.take i) = T := ⟨_, rfl⟩
    rw [hS, hT] at hsz ⊢
    have HS := Lib.hid hS
    have HT := Lib.hid hT
    clear hS hT hoks hbr
    by_cases hlt : i < ks.length
    · have hlt' : (i : Int) < (ks.length : Int) := by omega
      obtain ⟨x, hx⟩ : ∃ x, ks[i] = x := ⟨_, rfl⟩
      have hce := HCE.out wr HBR.out i hlt
      rw [hx] at hce
      have HX := Lib.hid hx
      have hxs : x.size ≤ 1048576 := by rw [← hx]; exact HSZ.out _ (List.getElem_mem hlt)
      clear hx
      by_cases hgd : (uRunes x.data.toList).isSome = true
      · have HGD := Lib.hid hgd
        clear hgd
        go_wp2_with fail
        refine (refQuote_yes x wr (by omega) HGD.out).mono ?_
        rintro e w2 ⟨rfl, hb2⟩
        have HB2 := Lib.hid (HBR.out.trans (hb2.mono HBR.out.size))
        have hce2 := HCE.out w2 HB2.out i hlt
        rw [HX.out] at hce2
        clear hb2 hce
        by_cases h30 : 30 < x.size
        · have h30' : (30 : Int) < (x.size : Int) := by omega
          go_wp2
          go_ret
          exact ⟨rfl, HB2.out⟩
        have h30' : ¬ (30 : Int) < (x.size : Int) := by omega
        obtain ⟨q, hq⟩ : ∃ q : ByteArray, (⟨(uQuote x.data.toList).toArray⟩ : ByteArray) = q := ⟨_, rfl⟩
        rw [hq]
        have HQ := Lib.hid hq
        have hqs : q.size ≤ 182 := by
          have e1 : q.size = (uQuote x.data.toList).length := by rw [← hq]; exact List.size_toArray
          have e2 := uQuote_len x.data.toList
          have e3 : x.data.toList.length = x.size := by simp
          omega
        clear hq
        go_wp2_with fail
        go_loopw [12] (fun kv wq => ∃ k : Nat, kv = .int .i64 k ∧ k ≤ i ∧ (∀ j (hj : j < ks.length), j < k → ks[j] ≠ x) ∧ Below w2.heap.size w2 wq) (fun k _ => i - (intOf k).toNat)
        case atStart => exact ⟨0, rfl, Nat.zero_le _, fun j _ hj => absurd hj (by omega), Below.refl _ _⟩
        case round =>
          obtain ⟨k, rfl, hk, hno, hbq⟩ := hrel
          have HNO := Lib.hid hno
          have HBQ := Lib.hid (HB2.out.trans (hbq.mono HB2.out.size))
          have HBQ2 := Lib.hid hbq
          clear hno hbq
          by_cases hki : k < i
          · have hki' : (k : Int) < (i : Int) := by omega
            have hkn : k < ks.length := by omega
            have hkn' : (k : Int) < (ks.length : Int) := by omega
            have hcq := HCE.out wr HBQ.out i hlt
            rw [HX.out] at hcq
            have hck := HCE.out wr HBQ.out k hkn
            obtain ⟨y, hy⟩ : ∃ y, ks[k] = y := ⟨_, rfl⟩
            rw [hy] at hck
            have HY := Lib.hid hy
            clear hy
            by_cases hxy : y = x
            · subst hxy
              go_wp2_with fail
              go_quiet (fail)
              go_wp2
              go_ret
              exact ⟨rfl, below_drewN HBQ.out _⟩
            · have hyx : (y.toList == x.toList) = false := by
                rw [beq_eq_false_iff_ne, ByteArray.toList_eq, ByteArray.toList_eq]
                exact fun e => hxy (Go.WideShapes.bytes_inj e)
              have HXY := Lib.hid hxy
              clear hxy
              go_wp2_with fail
              go_quiet (fail)
              go_wp2
              go_roundw
              case rel =>
                refine ⟨k + 1, rfl, hki, fun j hj hjk => ?_, below_drewN HBQ2.out _⟩
                by_cases hjk2 : j = k
                · subst hjk2; rw [HY.out]; exact HXY.out
                · exact HNO.out j hj (by omega)
              case measure => simp [intOf]; omega
          · have hki' : ¬ (k : Int) < (i : Int) := by omega
            have HOK2 := Lib.hid (oks_snoc hlt HX.out HOK.out HGD.out (by omega) (fun j hj hji => HNO.out j hj (by omega)))
            have HS2 := Lib.hid (show S ++ q ++ ⟨#[58, 48, 44]⟩ = txS (ks.take (i + 1)) by rw [← HS.out, ← HQ.out, txS_snoc, take_snoc hlt HX.out])
            have HT2 := Lib.hid (show T ++ ⟨#[123]⟩ ++ q ++ ⟨#[58, 123]⟩ ++ q ++ ⟨#[58, 49, 125, 125, 44]⟩ = txT (ks.take (i + 1)) by rw [← HT.out, ← HQ.out, txT_snoc, take_snoc hlt HX.out])
            have z1 : (⟨#[123]⟩ : ByteArray).size = 1 := rfl
            have z2 : (⟨#[58, 123]⟩ : ByteArray).size = 2 := rfl
            have hg0 : ¬ 9223372036854775807 < S.size + q.size := by omega
            have hg1 : ¬ 9223372036854775807 < (S ++ q).size + 3 := by simp only [ByteArray.size_append]; omega
            have hh1 : ¬ 9223372036854775807 < S.size + q.size + 3 := by omega
            have hg2 : ¬ 9223372036854775807 < T.size + 1 := by omega
            have hg3 : ¬ 9223372036854775807 < (T ++ ⟨#[123]⟩).size + q.size := by simp only [ByteArray.size_append, z1]; omega
            have hh3 : ¬ 9223372036854775807 < T.size + 1 + q.size := by omega
            have hg4 : ¬ 9223372036854775807 < (T ++ ⟨#[123]⟩ ++ q).size + 2 := by simp only [ByteArray.size_append, z1]; omega
            have hh4 : ¬ 9223372036854775807 < T.size + 1 + q.size + 2 := by omega
            have hg5 : ¬ 9223372036854775807 < (T ++ ⟨#[123]⟩ ++ q ++ ⟨#[58, 123]⟩).size + q.size := by simp only [ByteArray.size_append, z1, z2]; omega
            have hh5 : ¬ 9223372036854775807 < T.size + 1 + q.size + 2 + q.size := by omega
            have hg6 : ¬ 9223372036854775807 < (T ++ ⟨#[123]⟩ ++ q ++ ⟨#[58, 123]⟩ ++ q).size + 5 := by simp only [ByteArray.size_append, z1, z2]; omega
            have hh6 : ¬ 9223372036854775807 < T.size + 1 + q.size + 2 + q.size + 5 := by omega
            clear z1 z2
            go_wp2
            go_roundw
            case rel => exact ⟨i + 1, rfl, by rw [← HS2.out], by rw [← HT2.out], hlt, HOK2.out, HBQ.out⟩
            case measure => simp [intOf]; omega
      · have hgd' : (uRunes x.data.toList).isSome = false := by simpa using hgd
        have HGD := Lib.hid hgd'
        clear hgd hgd'
        go_wp2_with fail
        refine (refQuote_no x wr (by unfold maxLen; omega) HGD.out).mono ?_
        rintro e w2 ⟨rfl, rfl⟩
        go_wp2
        go_ret
        exact ⟨rfl, HBR.out⟩
    · have hlt' : ¬ (i : Int) < (ks.length : Int) := by omega
      have htk : ks.take i = ks := List.take_of_length_le (by omega)
      rw [htk] at HOK HS HT
      clear htk
      have hln : 0 < ks.length := by omega
      obtain ⟨j, hj, hjn⟩ : ∃ j : Nat, wrap64 ((IntKind.u64.wrap which).tmod (ks.length : Int)) = (j : Int) ∧ j < ks.length := by
        have h0 : 0 ≤ IntKind.u64.wrap which := by rw [IntKind.wrap_u64]; omega
        have h1 := Int.emod_nonneg (IntKind.u64.wrap which) (show (ks.length : Int) ≠ 0 by omega)
        have h2 := Int.emod_lt_of_pos (IntKind.u64.wrap which) (show (0 : Int) < (ks.length : Int) by omega)
        rw [Int.tmod_eq_emod_of_nonneg h0]
        generalize IntKind.u64.wrap which % (ks.length : Int) = y at h1 h2
        exact ⟨y.toNat, by unfold wrap64; omega, by omega⟩
      have hjn' : (j : Int) < (ks.length : Int) := by omega
      have hcej := HCE.out wr HBR.out j hjn
      obtain ⟨x, hx⟩ : ∃ x, ks[j] = x := ⟨_, rfl⟩
      rw [hx] at hcej
      have hxm : x ∈ ks := by rw [← hx]; exact List.getElem_mem hjn
      have HXM := Lib.hid hxm
      have HGD := Lib.hid (HOK.out.1 x hxm).1
      have hx30 : x.size ≤ 30 := (HOK.out.1 x hxm).2
      obtain ⟨nr, hnr⟩ := Option.isSome_iff_exists.1 HGD.out
      have HNR := Lib.hid hnr
      clear hx hxm hnr
      go_wp2_with fail
      refine (refQuote_yes x wr (by omega) HGD.out).mono ?_
      rintro e w2 ⟨rfl, hb2⟩
      have HWC := Lib.hid (HBR.out.trans (hb2.mono HBR.out.size))
      clear hb2 hcej hj
      by_cases hesc : esc = true ∧ ∃ h0 : 0 < x.size, x[0].toNat < 128
      · obtain ⟨rfl, h0, h128⟩ := hesc
        have h2' : (0 : Int) < (x.size : Int) := by omega
        have h128' : (x[0].toNat : Int) < 128 := by omega
        obtain ⟨y, hy⟩ : ∃ y : ByteArray, x.extract 1 x.size = y := ⟨_, rfl⟩
        have hyl : x.data.toList = x[0] :: y.data.toList := by
          rw [← hy, ByteArray.data_extract, Array.toList_extract, List.extract_eq_take_drop]
          have hl : x.data.toList.length = x.size := by simp
          rw [List.take_of_length_le (by rw [List.length_drop]; omega)]
          have := List.drop_eq_getElem_cons (l := x.data.toList) (i := 0) (by omega)
          rw [List.drop_zero] at this
          rw [this]; rfl
        have hys : y.size ≤ 30 := by
          have h1 := congrArg List.length hyl
          have hl : x.data.toList.length = x.size := by simp
          have hl2 : y.data.toList.length = y.size := by simp
          rw [List.length_cons] at h1
          omega
        have HYL := Lib.hid hyl
        have HYG := Lib.hid (show (uRunes y.data.toList).isSome = true by
          have := HGD.out; rw [hyl] at this; exact uRunes_tail h128 this)
        clear hyl
        go_wp2_with fail
        clear hy
        refine (refQuote_yes y w2 (by omega) HYG.out).mono ?_
        rintro e w3 ⟨rfl, hb3⟩
        have HWC3 := Lib.hid (HWC.out.trans (hb3.mono HWC.out.size))
        clear hb3
        obtain ⟨R, hR⟩ : ∃ R : ByteArray, (⟨(uQuote y.data.toList).toArray⟩ : ByteArray) = R := ⟨_, rfl⟩
        rw [hR]
        have hRd : R.data.toList = uQuote y.data.toList := by rw [← hR]
        have hRs : 1 ≤ R.size ∧ R.size ≤ 182 := by
          have e1 : R.size = (uQuote y.data.toList).length := by rw [← hR]; exact List.size_toArray
          have e2 := uQuote_len y.data.toList
          have e3 : y.data.toList.length = y.size := by simp
          have e4 : 1 ≤ (uQuote y.data.toList).length := by simp [uQuote]
          omega
        have HRD := Lib.hid hRd
        clear hR hRd
        have hr1 : (1 : Int) ≤ (R.size : Int) := by omega
        obtain ⟨a, ha⟩ : ∃ a, x[0].toNat / 16 = a := ⟨_, rfl⟩
        obtain ⟨b, hb⟩ : ∃ b, x[0].toNat % 16 = b := ⟨_, rfl⟩
        have c1 : (x[0].toNat : Int) / 16 = (a : Int) := by omega
        have c2 : (x[0].toNat : Int) % 16 = (b : Int) := by omega
        have c3 : bits .and .u8 (x[0].toNat : Int) 15 = (b : Int) := by
          rw [u8_and15 _ (by omega) (by omega)]; exact c2
        have hla : a < 16 := by omega
        have hlb : b < 16 := by omega
        have HA := Lib.hid ha
        have HB := Lib.hid hb
        go_wp2_with fail
        generalize hd : (⟨#[48, 49, 50, 51, 52, 53, 54, 55, 56, 57, 97, 98, 99, 100, 101, 102]⟩ : ByteArray) = d
        have hd16 : d.size = 16 := by rw [← hd]; rfl
        obtain ⟨da, hda⟩ : ∃ da, d.extract a (a + 1) = da := ⟨_, rfl⟩
        obtain ⟨db, hdb⟩ : ∃ db, d.extract b (b + 1) = db := ⟨_, rfl⟩
        obtain ⟨r1, hr1e⟩ : ∃ r1, R.extract 1 R.size = r1 := ⟨_, rfl⟩
        have hdas : da.size = 1 := by rw [← hda, ByteArray.size_extract]; omega
        have hdbs : db.size = 1 := by rw [← hdb, ByteArray.size_extract]; omega
        have hr1s : r1.size ≤ 182 := by rw [← hr1e, ByteArray.size_extract]; omega
        have HDA := Lib.hid (show da.data.toList = [uHex a] by rw [← hda, ← hd]; exact hex_ext a hla)
        have HDB := Lib.hid (show db.data.toList = [uHex b] by rw [← hdb, ← hd]; exact hex_ext b hlb)
        have HR1 := Lib.hid (show r1.data.toList = y.data.toList.flatMap uEnc ++ [34] by
          rw [← hr1e, ByteArray.data_extract, Array.toList_extract, List.extract_eq_take_drop, HRD.out]
          have e1 : R.size = (uQuote y.data.toList).length := by rw [← HRD.out]; simp
          rw [List.take_of_length_le (by rw [List.length_drop]; omega)]
          rfl)
        have s1a : (0 : Int) ≤ (a : Int) := by omega
        have s1b : (a : Int) < 16 := by omega
        have s1c : IntKind.u8.wrap ((a : Int) + 1) = (a : Int) + 1 := by rw [IntKind.wrap_u8]; omega
        have s1h : ((a : Int) + 1) % 256 = (a : Int) + 1 := by omega
        have s1d : ((a : Int) + 1).toNat = a + 1 := by omega
        have s1e : (a : Int) + 1 ≤ (d.size : Int) := by omega
        have s1g : a + 1 ≤ d.size := by omega
        have s2a : (0 : Int) ≤ (b : Int) := by omega
        have s2b : (b : Int) < 16 := by omega
        have s2c : IntKind.u8.wrap ((b : Int) + 1) = (b : Int) + 1 := by rw [IntKind.wrap_u8]; omega
        have s2h : ((b : Int) + 1) % 256 = (b : Int) + 1 := by omega
        have s2d : ((b : Int) + 1).toNat = b + 1 := by omega
        have s2e : (b : Int) + 1 ≤ (d.size : Int) := by omega
        have s2g : b + 1 ≤ d.size := by omega
        have n3 : ¬ 9223372036854775807 < 7 + r1.size := by omega
        have n4 : ¬ 9223372036854775800 < r1.size := by omega
        have HD := Lib.hid hd
        have HD16 := Lib.hid hd16
        have hd16' : 16 ≤ d.size := by omega
        clear hd hd16 ha hb
        go_quiet (fail)
        obtain ⟨Q, hQ⟩ : ∃ Q : ByteArray, (⟨#[34, 92, 117, 48, 48]⟩ ++ da ++ db ++ r1 : ByteArray) = Q := ⟨_, rfl⟩
        rw [hQ]
        have hQs : Q.size ≤ 190 := by
          rw [← hQ, ByteArray.size_append, ByteArray.size_append, ByteArray.size_append]
          show 5 + da.size + db.size + r1.size ≤ 190
          omega
        have hQd : Q.data.toList = escQ x[0] y.data.toList := by
          rw [← hQ, ba_list, ba_list, ba_list, HDA.out, HDB.out, HR1.out]
          unfold escQ
          rw [HA.out, HB.out]
          rfl
        obtain ⟨ny, hny⟩ := Option.isSome_iff_exists.1 HYG.out
        have HQ34 := Lib.hid (show ∃ t, Q.data.toList = 34 :: t by rw [hQd]; exact ⟨_, rfl⟩)
        have HQU := Lib.hid (show ∀ r, uUnq (Q.data.toList ++ r) = some (x.data.toList, Q.data.toList.length) by
          intro r; rw [hQd, HYL.out]; exact uUnq_esc h128 hny r)
        have hWz := below_drewN HWC3.out nq
        generalize w3.drewN nq = Wz at hWz ⊢
        clear HWC
        have HWC := Lib.hid hWz
        clear hWz hQ hQd hny c1 c2 c3 hla hlb hda hdb hr1e hdas hdbs hr1s s1a s1b s1c s1h s1d s1e s1g s2a s2b s2c s2h s2d s2e s2g n3 n4 hd16' hr1 h128' h128 h2' hys
        have HT4 := Lib.hid (show codeOf (pParse (S ++ Q ++ ⟨#[58, 48, 125]⟩).data.toList 10000) = 4 ∧ (S ++ Q ++ ⟨#[58, 48, 125]⟩).size ≤ 4000 by
          refine ⟨by rw [← HS.out]; exact (tw_e HOK.out (by omega) HXM.out HQ34.out HQU.out (by omega)).1, ?_⟩
          rw [ByteArray.size_append, ByteArray.size_append]
          show S.size + Q.size + 3 ≤ 4000
          omega)
        have HT5 := Lib.hid (show codeOf (pParse (S ++ Q).data.toList 10000) = 4 ∧ (S ++ Q).size ≤ 4000 by
          refine ⟨by rw [← HS.out]; exact (tw_e HOK.out (by omega) HXM.out HQ34.out HQU.out (by omega)).2, ?_⟩
          rw [ByteArray.size_append]
          omega)
        obtain ⟨cg, hcg⟩ : ∃ cg, codeOf (pParse (S ++ ⟨#[34, 110, 111, 98, 111, 100, 121, 39, 115, 32, 107, 101, 121, 34, 58, 48, 125]⟩).data.toList 10000) = cg := ⟨_, rfl⟩
        have HCG := Lib.hid (show nkB ∉ ks → cg = 0 by intro hnk; rw [← hcg, ← HS.out]; exact tw_g HOK.out (by omega) hnk)
        have HT6 := Lib.hid (show codeOf (pParse (S ++ ⟨#[34, 110, 111, 98, 111, 100, 121, 39, 115, 32, 107, 101, 121, 34, 58, 48, 125]⟩).data.toList 10000) = cg ∧ (S ++ ⟨#[34, 110, 111, 98, 111, 100, 121, 39, 115, 32, 107, 101, 121, 34, 58, 48, 125]⟩ : ByteArray).size ≤ 4000 by
          refine ⟨hcg, ?_⟩
          rw [ByteArray.size_append]
          show S.size + 17 ≤ 4000
          omega)
        have HT7 := Lib.hid (show codeOf (pParse (T ++ ⟨#[48, 93]⟩).data.toList 10000) = 0 ∧ (T ++ ⟨#[48, 93]⟩).size ≤ 8000 by
          refine ⟨by rw [← HT.out]; exact tw_h HOK.out (by omega) (by intro e; rw [e] at hln; simp at hln), ?_⟩
          rw [ByteArray.size_append]
          show T.size + 2 ≤ 8000
          omega)
        have hy0 : ¬ 9223372036854775807 < S.size + Q.size := by omega
        have hy1 : ¬ 9223372036854775807 < (S ++ Q).size + 3 := by rw [ByteArray.size_append]; omega
        have hy2 : ¬ 9223372036854775807 < S.size + Q.size + 3 := by omega
        have hy3 : ¬ 9223372036854775807 < S.size + 17 := by omega
        have hy4 : ¬ 9223372036854775807 < T.size + 2 := by omega
        clear hcg
        go_wp2_with fail
        generalize hE4 : S ++ Q ++ (⟨#[58, 48, 125]⟩ : ByteArray) = E4 at HT4
        clear hE4
        refine (parse_code E4 10000 Wz 4 (by have := HT4.out.2; omega) HT4.out.1).mono ?_
        rintro e w4 ⟨hb4, k4, n4, x4, a4, l4, p4, c4, d4, q4, rfl⟩
        have HW4 := Lib.hid (HWC.out.trans (hb4.mono HWC.out.size))
        clear hb4
        go_wp2_with fail
        generalize hV4 : w4.alloc _ = V4
        have HV4 := Lib.hid (show Below w.heap.size w V4 by subst hV4; exact HW4.out.alloc HW4.out.size _)
        clear hV4
        generalize hE5 : S ++ Q = E5 at HT5
        clear hE5
        refine (parse_code E5 10000 V4 4 (by have := HT5.out.2; omega) HT5.out.1).mono ?_
        rintro e w5 ⟨hb5, k5, n5, x5, a5, l5, p5, c5, d5, q5, rfl⟩
        have HW5 := Lib.hid (HV4.out.trans (hb5.mono HV4.out.size))
        clear hb5
        go_wp2_with fail
        generalize hV5 : w5.alloc _ = V5
        have HV5 := Lib.hid (show Below w.heap.size w V5 by subst hV5; exact HW5.out.alloc HW5.out.size _)
        clear hV5
        generalize hE6 : S ++ (⟨#[34, 110, 111, 98, 111, 100, 121, 39, 115, 32, 107, 101, 121, 34, 58, 48, 125]⟩ : ByteArray) = E6 at HT6
        clear hE6
        refine (parse_code E6 10000 V5 cg (by have := HT6.out.2; omega) HT6.out.1).mono ?_
        rintro e w6 ⟨hb6, k6, n6, x6, a6, l6, p6, c6, d6, q6, rfl⟩
        have HW6 := Lib.hid (HV5.out.trans (hb6.mono HV5.out.size))
        clear hb6
        go_wp2_with fail
        generalize hV6 : w6.alloc _ = V6
        have HV6 := Lib.hid (show Below w.heap.size w V6 by subst hV6; exact HW6.out.alloc HW6.out.size _)
        clear hV6
        generalize hE7 : T ++ (⟨#[48, 93]⟩ : ByteArray) = E7 at HT7
        clear hE7
        refine (parse_code E7 10000 V6 0 (by have := HT7.out.2; omega) HT7.out.1).mono ?_
        rintro e w7 ⟨hb7, k7, n7, x7, a7, l7, p7, c7, d7, q7, rfl⟩
        have HW7 := Lib.hid (HV6.out.trans (hb7.mono HV6.out.size))
        clear hb7
        go_wp2_with fail
        generalize hV7 : w7.alloc _ = V7
        have HV7 := Lib.hid (show Below w.heap.size w V7 by subst hV7; exact HW7.out.alloc HW7.out.size _)
        clear hV7
        go_loopw [27] (fun iv wq => ∃ m : Nat, iv = .int .i64 m ∧ m ≤ ks.length ∧ (∀ j (hj : j < ks.length), j < m → ks[j] ≠ nkB) ∧ wq = V7) (fun i _ => ks.length - (intOf i).toNat)
        case atStart => exact ⟨0, rfl, Nat.zero_le _, fun j _ hj => absurd hj (by omega), rfl⟩
        case round =>
          obtain ⟨m, rfl, hm, hnk, rfl⟩ := hrel
          have HNK := Lib.hid hnk
          clear hnk
          by_cases hml : m < ks.length
          · have hml' : (m : Int) < (ks.length : Int) := by omega
            have hcm := HCE.out wr HV7.out m hml
            obtain ⟨z, hz⟩ : ∃ z, ks[m] = z := ⟨_, rfl⟩
            rw [hz] at hcm
            have HZ := Lib.hid hz
            clear hz
            by_cases hzn : z = nkB
            · subst hzn
              have hzb : (nkB.toList == [110, 111, 98, 111, 100, 121, 39, 115, 32, 107, 101, 121]) = true := by decide +kernel
              go_wp2
              go_ret
              exact ⟨rfl, HV7.out⟩
            · have hzb : (z.toList == [110, 111, 98, 111, 100, 121, 39, 115, 32, 107, 101, 121]) = false := by
                rw [beq_eq_false_iff_ne, ByteArray.toList_eq]
                exact fun e => hzn (Go.WideShapes.bytes_inj e)
              have HZN := Lib.hid hzn
              clear hzn
              go_wp2
              go_roundw
              case rel =>
                refine ⟨m + 1, rfl, hml, fun j hj hjm => ?_, by trivial⟩
                by_cases hjm2 : j = m
                · subst hjm2; rw [HZ.out]; exact HZN.out
                · exact HNK.out j hj (by omega)
              case measure => simp [intOf]; omega
          · have hml' : ¬ (m : Int) < (ks.length : Int) := by omega
            obtain rfl : cg = 0 := HCG.out (by
              intro hmem
              obtain ⟨j, hj, e⟩ := List.mem_iff_getElem.1 hmem
              exact HNK.out j hj (by omega) e)
            go_wp2
            go_ret
            exact ⟨rfl, HV7.out⟩
      · obtain ⟨Q, hQ⟩ : ∃ Q : ByteArray, (⟨(uQuote x.data.toList).toArray⟩ : ByteArray) = Q := ⟨_, rfl⟩
        rw [hQ]
        have hQs : Q.size ≤ 182 := by
          have e1 : Q.size = (uQuote x.data.toList).length := by rw [← hQ]; exact List.size_toArray
          have e2 := uQuote_len x.data.toList
          have e3 : x.data.toList.length = x.size := by simp
          omega
        have hQd : Q.data.toList = uQuote x.data.toList := by rw [← hQ]
        have HQ34 := Lib.hid (show ∃ t, Q.data.toList = 34 :: t by rw [hQd]; exact uQuote_34 _)
        have HQU := Lib.hid (show ∀ r, uUnq (Q.data.toList ++ r) = some (x.data.toList, Q.data.toList.length) by
          intro r; rw [hQd]; exact uUnq_quote HNR.out r)
        clear hQ hQd
        by_cases h1e : esc = false
        · subst h1e
          clear hesc
          have HT4 := Lib.hid (show codeOf (pParse (S ++ Q ++ ⟨#[58, 48, 125]⟩).data.toList 10000) = 4 ∧ (S ++ Q ++ ⟨#[58, 48, 125]⟩).size ≤ 4000 by
            refine ⟨by rw [← HS.out]; exact (tw_e HOK.out (by omega) HXM.out HQ34.out HQU.out (by omega)).1, ?_⟩
            rw [ByteArray.size_append, ByteArray.size_append]
            show S.size + Q.size + 3 ≤ 4000
            omega)
          have HT5 := Lib.hid (show codeOf (pParse (S ++ Q).data.toList 10000) = 4 ∧ (S ++ Q).size ≤ 4000 by
            refine ⟨by rw [← HS.out]; exact (tw_e HOK.out (by omega) HXM.out HQ34.out HQU.out (by omega)).2, ?_⟩
            rw [ByteArray.size_append]
            omega)
          obtain ⟨cg, hcg⟩ : ∃ cg, codeOf (pParse (S ++ ⟨#[34, 110, 111, 98, 111, 100, 121, 39, 115, 32, 107, 101, 121, 34, 58, 48, 125]⟩).data.toList 10000) = cg := ⟨_, rfl⟩
          have HCG := Lib.hid (show nkB ∉ ks → cg = 0 by intro hnk; rw [← hcg, ← HS.out]; exact tw_g HOK.out (by omega) hnk)
          have HT6 := Lib.hid (show codeOf (pParse (S ++ ⟨#[34, 110, 111, 98, 111, 100, 121, 39, 115, 32, 107, 101, 121, 34, 58, 48, 125]⟩).data.toList 10000) = cg ∧ (S ++ ⟨#[34, 110, 111, 98, 111, 100, 121, 39, 115, 32, 107, 101, 121, 34, 58, 48, 125]⟩ : ByteArray).size ≤ 4000 by
            refine ⟨hcg, ?_⟩
            rw [ByteArray.size_append]
            show S.size + 17 ≤ 4000
            omega)
          have HT7 := Lib.hid (show codeOf (pParse (T ++ ⟨#[48, 93]⟩).data.toList 10000) = 0 ∧ (T ++ ⟨#[48, 93]⟩).size ≤ 8000 by
            refine ⟨by rw [← HT.out]; exact tw_h HOK.out (by omega) (by intro e; rw [e] at hln; simp at hln), ?_⟩
            rw [ByteArray.size_append]
            show T.size + 2 ≤ 8000
            omega)
          have hy0 : ¬ 9223372036854775807 < S.size + Q.size := by omega
          have hy1 : ¬ 9223372036854775807 < (S ++ Q).size + 3 := by rw [ByteArray.size_append]; omega
          have hy2 : ¬ 9223372036854775807 < S.size + Q.size + 3 := by omega
          have hy3 : ¬ 9223372036854775807 < S.size + 17 := by omega
          have hy4 : ¬ 9223372036854775807 < T.size + 2 := by omega
          clear hcg
          go_wp2_with fail
          generalize hE4 : S ++ Q ++ (⟨#[58, 48, 125]⟩ : ByteArray) = E4 at HT4
          clear hE4
          refine (parse_code E4 10000 w2 4 (by have := HT4.out.2; omega) HT4.out.1).mono ?_
          rintro e w4 ⟨hb4, k4, n4, x4, a4, l4, p4, c4, d4, q4, rfl⟩
          have HW4 := Lib.hid (HWC.out.trans (hb4.mono HWC.out.size))
          clear hb4
          go_wp2_with fail
          generalize hV4 : w4.alloc _ = V4
          have HV4 := Lib.hid (show Below w.heap.size w V4 by subst hV4; exact HW4.out.alloc HW4.out.size _)
          clear hV4
          generalize hE5 : S ++ Q = E5 at HT5
          clear hE5
          refine (parse_code E5 10000 V4 4 (by have := HT5.out.2; omega) HT5.out.1).mono ?_
          rintro e w5 ⟨hb5, k5, n5, x5, a5, l5, p5, c5, d5, q5, rfl⟩
          have HW5 := Lib.hid (HV4.out.trans (hb5.mono HV4.out.size))
          clear hb5
          go_wp2_with fail
          generalize hV5 : w5.alloc _ = V5
          have HV5 := Lib.hid (show Below w.heap.size w V5 by subst hV5; exact HW5.out.alloc HW5.out.size _)
          clear hV5
          generalize hE6 : S ++ (⟨#[34, 110, 111, 98, 111, 100, 121, 39, 115, 32, 107, 101, 121, 34, 58, 48, 125]⟩ : ByteArray) = E6 at HT6
          clear hE6
          refine (parse_code E6 10000 V5 cg (by have := HT6.out.2; omega) HT6.out.1).mono ?_
          rintro e w6 ⟨hb6, k6, n6, x6, a6, l6, p6, c6, d6, q6, rfl⟩
          have HW6 := Lib.hid (HV5.out.trans (hb6.mono HV5.out.size))
          clear hb6
          go_wp2_with fail
          generalize hV6 : w6.alloc _ = V6
          have HV6 := Lib.hid (show Below w.heap.size w V6 by subst hV6; exact HW6.out.alloc HW6.out.size _)
          clear hV6
          generalize hE7 : T ++ (⟨#[48, 93]⟩ : ByteArray) = E7 at HT7
          clear hE7
          refine (parse_code E7 10000 V6 0 (by have := HT7.out.2; omega) HT7.out.1).mono ?_
          rintro e w7 ⟨hb7, k7, n7, x7, a7, l7, p7, c7, d7, q7, rfl⟩
          have HW7 := Lib.hid (HV6.out.trans (hb7.mono HV6.out.size))
          clear hb7
          go_wp2_with fail
          generalize hV7 : w7.alloc _ = V7
          have HV7 := Lib.hid (show Below w.heap.size w V7 by subst hV7; exact HW7.out.alloc HW7.out.size _)
          clear hV7
          go_loopw [27] (fun iv wq => ∃ m : Nat, iv = .int .i64 m ∧ m ≤ ks.length ∧ (∀ j (hj : j < ks.length), j < m → ks[j] ≠ nkB) ∧ wq = V7) (fun i _ => ks.length - (intOf i).toNat)
          case atStart => exact ⟨0, rfl, Nat.zero_le _, fun j _ hj => absurd hj (by omega), rfl⟩
          case round =>
            obtain ⟨m, rfl, hm, hnk, rfl⟩ := hrel
            have HNK := Lib.hid hnk
            clear hnk
            by_cases hml : m < ks.length
            · have hml' : (m : Int) < (ks.length : Int) := by omega
              have hcm := HCE.out wr HV7.out m hml
              obtain ⟨z, hz⟩ : ∃ z, ks[m] = z := ⟨_, rfl⟩
              rw [hz] at hcm
              have HZ := Lib.hid hz
              clear hz
              by_cases hzn : z = nkB
              · subst hzn
                have hzb : (nkB.toList == [110, 111, 98, 111, 100, 121, 39, 115, 32, 107, 101, 121]) = true := by decide +kernel
                go_wp2
                go_ret
                exact ⟨rfl, HV7.out⟩
              · have hzb : (z.toList == [110, 111, 98, 111, 100, 121, 39, 115, 32, 107, 101, 121]) = false := by
                  rw [beq_eq_false_iff_ne, ByteArray.toList_eq]
                  exact fun e => hzn (Go.WideShapes.bytes_inj e)
                have HZN := Lib.hid hzn
                clear hzn
                go_wp2
                go_roundw
                case rel =>
                  refine ⟨m + 1, rfl, hml, fun j hj hjm => ?_, by trivial⟩
                  by_cases hjm2 : j = m
                  · subst hjm2; rw [HZ.out]; exact HZN.out
                  · exact HNK.out j hj (by omega)
                case measure => simp [intOf]; omega
            · have hml' : ¬ (m : Int) < (ks.length : Int) := by omega
              obtain rfl : cg = 0 := HCG.out (by
                intro hmem
                obtain ⟨j, hj, e⟩ := List.mem_iff_getElem.1 hmem
                exact HNK.out j hj (by omega) e)
              go_wp2
              go_ret
              exact ⟨rfl, HV7.out⟩
        · obtain rfl : esc = true := by simpa using h1e
          clear h1e
          by_cases h2e : x.size = 0
          · have h2' : ¬ (0 : Int) < (x.size : Int) := by omega
            clear hesc h2e
            have HT4 := Lib.hid (show codeOf (pParse (S ++ Q ++ ⟨#[58, 48, 125]⟩).data.toList 10000) = 4 ∧ (S ++ Q ++ ⟨#[58, 48, 125]⟩).size ≤ 4000 by
              refine ⟨by rw [← HS.out]; exact (tw_e HOK.out (by omega) HXM.out HQ34.out HQU.out (by omega)).1, ?_⟩
              rw [ByteArray.size_append, ByteArray.size_append]
              show S.size + Q.size + 3 ≤ 4000
              omega)
            have HT5 := Lib.hid (show codeOf (pParse (S ++ Q).data.toList 10000) = 4 ∧ (S ++ Q).size ≤ 4000 by
              refine ⟨by rw [← HS.out]; exact (tw_e HOK.out (by omega) HXM.out HQ34.out HQU.out (by omega)).2, ?_⟩
              rw [ByteArray.size_append]
              omega)
            obtain ⟨cg, hcg⟩ : ∃ cg, codeOf (pParse (S ++ ⟨#[34, 110, 111, 98, 111, 100, 121, 39, 115, 32, 107, 101, 121, 34, 58, 48, 125]⟩).data.toList 10000) = cg := ⟨_, rfl⟩
            have HCG := Lib.hid (show nkB ∉ ks → cg = 0 by intro hnk; rw [← hcg, ← HS.out]; exact tw_g HOK.out (by omega) hnk)
            have HT6 := Lib.hid (show codeOf (pParse (S ++ ⟨#[34, 110, 111, 98, 111, 100, 121, 39, 115, 32, 107, 101, 121, 34, 58, 48, 125]⟩).data.toList 10000) = cg ∧ (S ++ ⟨#[34, 110, 111, 98, 111, 100, 121, 39, 115, 32, 107, 101, 121, 34, 58, 48, 125]⟩ : ByteArray).size ≤ 4000 by
              refine ⟨hcg, ?_⟩
              rw [ByteArray.size_append]
              show S.size + 17 ≤ 4000
              omega)
            have HT7 := Lib.hid (show codeOf (pParse (T ++ ⟨#[48, 93]⟩).data.toList 10000) = 0 ∧ (T ++ ⟨#[48, 93]⟩).size ≤ 8000 by
              refine ⟨by rw [← HT.out]; exact tw_h HOK.out (by omega) (by intro e; rw [e] at hln; simp at hln), ?_⟩
              rw [ByteArray.size_append]
              show T.size + 2 ≤ 8000
              omega)
            have hy0 : ¬ 9223372036854775807 < S.size + Q.size := by omega
            have hy1 : ¬ 9223372036854775807 < (S ++ Q).size + 3 := by rw [ByteArray.size_append]; omega
            have hy2 : ¬ 9223372036854775807 < S.size + Q.size + 3 := by omega
            have hy3 : ¬ 9223372036854775807 < S.size + 17 := by omega
            have hy4 : ¬ 9223372036854775807 < T.size + 2 := by omega
            clear hcg
            go_wp2_with fail
            generalize hE4 : S ++ Q ++ (⟨#[58, 48, 125]⟩ : ByteArray) = E4 at HT4
            clear hE4
            refine (parse_code E4 10000 w2 4 (by have := HT4.out.2; omega) HT4.out.1).mono ?_
            rintro e w4 ⟨hb4, k4, n4, x4, a4, l4, p4, c4, d4, q4, rfl⟩
            have HW4 := Lib.hid (HWC.out.trans (hb4.mono HWC.out.size))
            clear hb4
            go_wp2_with fail
            generalize hV4 : w4.alloc _ = V4
            have HV4 := Lib.hid (show Below w.heap.size w V4 by subst hV4; exact HW4.out.alloc HW4.out.size _)
            clear hV4
            generalize hE5 : S ++ Q = E5 at HT5
            clear hE5
            refine (parse_code E5 10000 V4 4 (by have := HT5.out.2; omega) HT5.out.1).mono ?_
            rintro e w5 ⟨hb5, k5, n5, x5, a5, l5, p5, c5, d5, q5, rfl⟩
            have HW5 := Lib.hid (HV4.out.trans (hb5.mono HV4.out.size))
            clear hb5
            go_wp2_with fail
            generalize hV5 : w5.alloc _ = V5
            have HV5 := Lib.hid (show Below w.heap.size w V5 by subst hV5; exact HW5.out.alloc HW5.out.size _)
            clear hV5
            generalize hE6 : S ++ (⟨#[34, 110, 111, 98, 111, 100, 121, 39, 115, 32, 107, 101, 121, 34, 58, 48, 125]⟩ : ByteArray) = E6 at HT6
            clear hE6
            refine (parse_code E6 10000 V5 cg (by have := HT6.out.2; omega) HT6.out.1).mono ?_
            rintro e w6 ⟨hb6, k6, n6, x6, a6, l6, p6, c6, d6, q6, rfl⟩
            have HW6 := Lib.hid (HV5.out.trans (hb6.mono HV5.out.size))
            clear hb6
            go_wp2_with fail
            generalize hV6 : w6.alloc _ = V6
            have HV6 := Lib.hid (show Below w.heap.size w V6 by subst hV6; exact HW6.out.alloc HW6.out.size _)
            clear hV6
            generalize hE7 : T ++ (⟨#[48, 93]⟩ : ByteArray) = E7 at HT7
            clear hE7
            refine (parse_code E7 10000 V6 0 (by have := HT7.out.2; omega) HT7.out.1).mono ?_
            rintro e w7 ⟨hb7, k7, n7, x7, a7, l7, p7, c7, d7, q7, rfl⟩
            have HW7 := Lib.hid (HV6.out.trans (hb7.mono HV6.out.size))
            clear hb7
            go_wp2_with fail
            generalize hV7 : w7.alloc _ = V7
            have HV7 := Lib.hid (show Below w.heap.size w V7 by subst hV7; exact HW7.out.alloc HW7.out.size _)
            clear hV7
            go_loopw [27] (fun iv wq => ∃ m : Nat, iv = .int .i64 m ∧ m ≤ ks.length ∧ (∀ j (hj : j < ks.length), j < m → ks[j] ≠ nkB) ∧ wq = V7) (fun i _ => ks.length - (intOf i).toNat)
            case atStart => exact ⟨0, rfl, Nat.zero_le _, fun j _ hj => absurd hj (by omega), rfl⟩
            case round =>
              obtain ⟨m, rfl, hm, hnk, rfl⟩ := hrel
              have HNK := Lib.hid hnk
              clear hnk
              by_cases hml : m < ks.length
              · have hml' : (m : Int) < (ks.length : Int) := by omega
                have hcm := HCE.out wr HV7.out m hml
                obtain ⟨z, hz⟩ : ∃ z, ks[m] = z := ⟨_, rfl⟩
                rw [hz] at hcm
                have HZ := Lib.hid hz
                clear hz
                by_cases hzn : z = nkB
                · subst hzn
                  have hzb : (nkB.toList == [110, 111, 98, 111, 100, 121, 39, 115, 32, 107, 101, 121]) = true := by decide +kernel
                  go_wp2
                  go_ret
                  exact ⟨rfl, HV7.out⟩
                · have hzb : (z.toList == [110, 111, 98, 111, 100, 121, 39, 115, 32, 107, 101, 121]) = false := by
                    rw [beq_eq_false_iff_ne, ByteArray.toList_eq]
                    exact fun e => hzn (Go.WideShapes.bytes_inj e)
                  have HZN := Lib.hid hzn
                  clear hzn
                  go_wp2
                  go_roundw
                  case rel =>
                    refine ⟨m + 1, rfl, hml, fun j hj hjm => ?_, by trivial⟩
                    by_cases hjm2 : j = m
                    · subst hjm2; rw [HZ.out]; exact HZN.out
                    · exact HNK.out j hj (by omega)
                  case measure => simp [intOf]; omega
              · have hml' : ¬ (m : Int) < (ks.length : Int) := by omega
                obtain rfl : cg = 0 := HCG.out (by
                  intro hmem
                  obtain ⟨j, hj, e⟩ := List.mem_iff_getElem.1 hmem
                  exact HNK.out j hj (by omega) e)
                go_wp2
                go_ret
                exact ⟨rfl, HV7.out⟩
          · have hpos : 0 < x.size := by omega
            have h2' : (0 : Int) < (x.size : Int) := by omega
            have h128 : ¬ (x[0].toNat : Int) < 128 := by
              intro h
              exact hesc ⟨rfl, hpos, by omega⟩
            clear hesc h2e
            have HT4 := Lib.hid (show codeOf (pParse (S ++ Q ++ ⟨#[58, 48, 125]⟩).data.toList 10000) = 4 ∧ (S ++ Q ++ ⟨#[58, 48, 125]⟩).size ≤ 4000 by
              refine ⟨by rw [← HS.out]; exact (tw_e HOK.out (by omega) HXM.out HQ34.out HQU.out (by omega)).1, ?_⟩
              rw [ByteArray.size_append, ByteArray.size_append]
              show S.size + Q.size + 3 ≤ 4000
              omega)
            have HT5 := Lib.hid (show codeOf (pParse (S ++ Q).data.toList 10000) = 4 ∧ (S ++ Q).size ≤ 4000 by
              refine ⟨by rw [← HS.out]; exact (tw_e HOK.out (by omega) HXM.out HQ34.out HQU.out (by omega)).2, ?_⟩
              rw [ByteArray.size_append]
              omega)
            obtain ⟨cg, hcg⟩ : ∃ cg, codeOf (pParse (S ++ ⟨#[34, 110, 111, 98, 111, 100, 121, 39, 115, 32, 107, 101, 121, 34, 58, 48, 125]⟩).data.toList 10000) = cg := ⟨_, rfl⟩
            have HCG := Lib.hid (show nkB ∉ ks → cg = 0 by intro hnk; rw [← hcg, ← HS.out]; exact tw_g HOK.out (by omega) hnk)
            have HT6 := Lib.hid (show codeOf (pParse (S ++ ⟨#[34, 110, 111, 98, 111, 100, 121, 39, 115, 32, 107, 101, 121, 34, 58, 48, 125]⟩).data.toList 10000) = cg ∧ (S ++ ⟨#[34, 110, 111, 98, 111, 100, 121, 39, 115, 32, 107, 101, 121, 34, 58, 48, 125]⟩ : ByteArray).size ≤ 4000 by
              refine ⟨hcg, ?_⟩
              rw [ByteArray.size_append]
              show S.size + 17 ≤ 4000
              omega)
            have HT7 := Lib.hid (show codeOf (pParse (T ++ ⟨#[48, 93]⟩).data.toList 10000) = 0 ∧ (T ++ ⟨#[48, 93]⟩).size ≤ 8000 by
              refine ⟨by rw [← HT.out]; exact tw_h HOK.out (by omega) (by intro e; rw [e] at hln; simp at hln), ?_⟩
              rw [ByteArray.size_append]
              show T.size + 2 ≤ 8000
              omega)
            have hy0 : ¬ 9223372036854775807 < S.size + Q.size := by omega
            have hy1 : ¬ 9223372036854775807 < (S ++ Q).size + 3 := by rw [ByteArray.size_append]; omega
            have hy2 : ¬ 9223372036854775807 < S.size + Q.size + 3 := by omega
            have hy3 : ¬ 9223372036854775807 < S.size + 17 := by omega
            have hy4 : ¬ 9223372036854775807 < T.size + 2 := by omega
            clear hcg
            go_wp2_with fail
            generalize hE4 : S ++ Q ++ (⟨#[58, 48, 125]⟩ : ByteArray) = E4 at HT4
            clear hE4
            refine (parse_code E4 10000 w2 4 (by have := HT4.out.2; omega) HT4.out.1).mono ?_
            rintro e w4 ⟨hb4, k4, n4, x4, a4, l4, p4, c4, d4, q4, rfl⟩
            have HW4 := Lib.hid (HWC.out.trans (hb4.mono HWC.out.size))
            clear hb4
            go_wp2_with fail
            generalize hV4 : w4.alloc _ = V4
            have HV4 := Lib.hid (show Below w.heap.size w V4 by subst hV4; exact HW4.out.alloc HW4.out.size _)
            clear hV4
            generalize hE5 : S ++ Q = E5 at HT5
            clear hE5
            refine (parse_code E5 10000 V4 4 (by have := HT5.out.2; omega) HT5.out.1).mono ?_
            rintro e w5 ⟨hb5, k5, n5, x5, a5, l5, p5, c5, d5, q5, rfl⟩
            have HW5 := Lib.hid (HV4.out.trans (hb5.mono HV4.out.size))
            clear hb5
            go_wp2_with fail
            generalize hV5 : w5.alloc _ = V5
            have HV5 := Lib.hid (show Below w.heap.size w V5 by subst hV5; exact HW5.out.alloc HW5.out.size _)
            clear hV5
            generalize hE6 : S ++ (⟨#[34, 110, 111, 98, 111, 100, 121, 39, 115, 32, 107, 101, 121, 34, 58, 48, 125]⟩ : ByteArray) = E6 at HT6
            clear hE6
            refine (parse_code E6 10000 V5 cg (by have := HT6.out.2; omega) HT6.out.1).mono ?_
            rintro e w6 ⟨hb6, k6, n6, x6, a6, l6, p6, c6, d6, q6, rfl⟩
            have HW6 := Lib.hid (HV5.out.trans (hb6.mono HV5.out.size))
            clear hb6
            go_wp2_with fail
            generalize hV6 : w6.alloc _ = V6
            have HV6 := Lib.hid (show Below w.heap.size w V6 by subst hV6; exact HW6.out.alloc HW6.out.size _)
            clear hV6
            generalize hE7 : T ++ (⟨#[48, 93]⟩ : ByteArray) = E7 at HT7
            clear hE7
            refine (parse_code E7 10000 V6 0 (by have := HT7.out.2; omega) HT7.out.1).mono ?_
            rintro e w7 ⟨hb7, k7, n7, x7, a7, l7, p7, c7, d7, q7, rfl⟩
            have HW7 := Lib.hid (HV6.out.trans (hb7.mono HV6.out.size))
            clear hb7
            go_wp2_with fail
            generalize hV7 : w7.alloc _ = V7
            have HV7 := Lib.hid (show Below w.heap.size w V7 by subst hV7; exact HW7.out.alloc HW7.out.size _)
            clear hV7
            go_loopw [27] (fun iv wq => ∃ m : Nat, iv = .int .i64 m ∧ m ≤ ks.length ∧ (∀ j (hj : j < ks.length), j < m → ks[j] ≠ nkB) ∧ wq = V7) (fun i _ => ks.length - (intOf i).toNat)
            case atStart => exact ⟨0, rfl, Nat.zero_le _, fun j _ hj => absurd hj (by omega), rfl⟩
            case round =>
              obtain ⟨m, rfl, hm, hnk, rfl⟩ := hrel
              have HNK := Lib.hid hnk
              clear hnk
              by_cases hml : m < ks.length
              · have hml' : (m : Int) < (ks.length : Int) := by omega
                have hcm := HCE.out wr HV7.out m hml
                obtain ⟨z, hz⟩ : ∃ z, ks[m] = z := ⟨_, rfl⟩
                rw [hz] at hcm
                have HZ := Lib.hid hz
                clear hz
                by_cases hzn : z = nkB
                · subst hzn
                  have hzb : (nkB.toList == [110, 111, 98, 111, 100, 121, 39, 115, 32, 107, 101, 121]) = true := by decide +kernel
                  go_wp2
                  go_ret
                  exact ⟨rfl, HV7.out⟩
                · have hzb : (z.toList == [110, 111, 98, 111, 100, 121, 39, 115, 32, 107, 101, 121]) = false := by
                    rw [beq_eq_false_iff_ne, ByteArray.toList_eq]
                    exact fun e => hzn (Go.WideShapes.bytes_inj e)
                  have HZN := Lib.hid hzn
                  clear hzn
                  go_wp2
                  go_roundw
                  case rel =>
                    refine ⟨m + 1, rfl, hml, fun j hj hjm => ?_, by trivial⟩
                    by_cases hjm2 : j = m
                    · subst hjm2; rw [HZ.out]; exact HZN.out
                    · exact HNK.out j hj (by omega)
                  case measure => simp [intOf]; omega
              · have hml' : ¬ (m : Int) < (ks.length : Int) := by omega
                obtain rfl : cg = 0 := HCG.out (by
                  intro hmem
                  obtain ⟨j, hj, e⟩ := List.mem_iff_getElem.1 hmem
                  exact HNK.out j hj (by omega) e)
                go_wp2
                go_ret
                exact ⟨rfl, HV7.out⟩

theorem tw_own : ownKnob Try.prog.godebug = none := by kernel_rfl
theorem tw_laid : laidOutB Try.prog = true := by kernel_rfl

set_option maxRecDepth 100000 in
theorem tw_lifted (os : Os) (started : os.Started) (H : Type) (enc : TypeId × Value → H) (F : Stop.Interp) :
    ReturnsInHanded {} Try.checked os 8 .any ((Rows.OpenSpec.upto Rows.parseTwiceSpec).pre6 enc Try.prog Try.f8 Rows.parseTwiceUptoRow.domain false) (((Rows.OpenSpec.upto Rows.parseTwiceSpec).at F).post enc Try.prog Try.f8 false true false false) := by
  refine returnsInHanded_of_cond (C := Try.checked) (s := Rows.OpenSpec.upto Rows.parseTwiceSpec) (k := Rows.uptoSmall) rfl tw_own started (by kernel_rfl) Try.func8
    (OpenSpec.witness (enc := enc) (C := Try.checked) (s := Rows.OpenSpec.upto Rows.parseTwiceSpec) (k := Rows.uptoSmall) rfl false ⟨#[], #[.slice none 0 0, .int .i64 0, .bool false], []⟩ 8 (by kernel_rfl) (by kernel_rfl) (by kernel_rfl)
      (x := ([.nil, .lit (.int .i64 0), .lit (.bool false)], [], [])) (by kernel_rfl) rfl (by kernel_rfl)) ?_
  intro W base args ds gs before hval0 hW _ hk _
  have hval : ∀ (j : Nat) t v, Try.f8.params[j]? = some t → args[j]? = some v → Value.okWide Try.prog W .any base t v := hval0
  have hW' := hW
  obtain ⟨p, q, hA0, hV, rfl, hfz, hnd⟩ := hW
  have hA : DataW.TrodAll enc Try.prog W 0 (fun _ => true) true Try.f8.params.toList args.toList ds p := hA0
  rw [Try.params8] at hA hval
  obtain ⟨v0, vs0, d0, ds0, p0, q0, hargs, rfl, rfl, h0, r0⟩ := trodAll_cons hA
  obtain ⟨v1, vs1, d1, ds1, p1, q1, rfl, rfl, rfl, h1, r1⟩ := trodAll_cons r0
  obtain ⟨v2, vs2, d2, ds2, p2, q2, rfl, rfl, rfl, h2, r2⟩ := trodAll_cons r1
  obtain ⟨rfl, rfl, rfl⟩ := trodAll_nil r2
  obtain rfl : args = #[v0, v1, v2] := by cases args; simp_all
  obtain ⟨rfl, rfl⟩ := trodVars_none hV
  have hlt0 : ∀ x ∈ p0, x.block < W.heap.size := fun x hx => hW'.lt x (by simp [hx])
  have hh0 := h0
  have hbk : Rows.uptoBulk d0 ≤ 1048576 := by
    have h := of_decide_eq_true hk
    simp only [List.cons_append, List.nil_append, Rows.uptoBulkAll] at h
    omega
  obtain ⟨ks, hv0, hsz0⟩ := open_sts (hval 0 56 v0 rfl rfl) h0 hbk
  obtain ⟨a1, rfl, rfl, rfl, w1⟩ := open_int Try.underlying3 (hval 1 3 v1 rfl rfl) h1
  obtain ⟨a2, rfl, rfl, rfl⟩ := open_bool Try.underlying4 (hval 2 4 v2 rfl rfl) h2
  clear hA0 hval0
  simp only [List.append_nil] at hW'
  refine (twice_true ks v0 a1 a2 W hv0 hsz0).mono fun e W' ⟨he, bel⟩ => ?_
  subst he
  exact ⟨_, rfl, _, _, _, [], _, [], hW', trodAll_mk1 (shut_bool Try.underlying4 _), (trodAll_cons_mk (Below.trod tw_laid (by kernel_rfl) (of_decide_eq_true (by kernel_rfl)) hh0 bel hlt0) (trodAll_cons_mk (shut_int Try.underlying3 w1) (trodAll_cons_mk (shut_bool Try.underlying4 _) trodAll_mk0))), rfl, bel.frame _, fun h => by cases h⟩

theorem tw_holds : Rows.ParseTwiceUptoSaid :=
  OpenClaim.holds_of_cond 8 Try.f8 rfl rfl rfl rfl rfl rfl rfl ⟨rfl, rfl, rfl, rfl, rfl⟩ rfl rfl rfl rfl rfl (by kernel_rfl) Try.func8 (by kernel_rfl)
    (of_decide_eq_true (by kernel_rfl)) (by unfold Func.isWrapper; first | (rw [if_pos (by decide +kernel)]; kernel_rfl) | (rw [if_neg (by decide +kernel)]; exact ⟨rfl, rfl⟩))
    (fun os started H enc _ F => tw_lifted os started H enc F)
#print axioms tw_holds

end Go.Proofs.Ythcphfpkinfjoaa
