/-
  What sha.Sum256 returns.
  Conditions: none.
-/
import Derived.Test.YtfjkinmmidmjaaaDoorShG256
import Derived.Test.YtfjkinmmidmjaaaDoorShE256
namespace Go.Proofs.YtfjkinmmidmjaaaDoor
open Go.RowKit

def w0_256 : W8 := ⟨0, 0, 0, 0, 0, 0, 0, 0⟩
theorem zh256 (w : World) : (zeroValue 40).run Tryd.prog w = .ok (.agg (hcs256 w0_256 (zerB 64) 0)) w :=
  (zero_of_info (P := Tryd.prog) (t := 40) (v := .agg (hcs256 w0_256 (zerB 64) 0)) (n := 64 + 9) (by kernel_rfl)).1 w
theorem built256 : Tryd.prog.built 40 [(0, .agg (nums .u32 st256.l))] = some (hcs256 st256 (zerB 64) 0) := by kernel_rfl
theorem szh256 : (Tryd.prog.info? 40).map (·.size) = some (hcs256 st256 (zerB 64) 0).size := by kernel_rfl
theorem hcs256_one : (hcs256 st256 (zerB 64) 0).all (·.oneCell') = true := by kernel_rfl
theorem hcs256_size : (hcs256 w0_256 (zerB 64) 0).size = (hcs256 st256 (zerB 64) 0).size := by kernel_rfl
set_option maxRecDepth 100000 in
set_option maxHeartbeats 2000000 in
theorem sum256_any (v : Value) (ll : List (List UInt8)) (w : World) (hv : Bss w.heap.size w v ll) (hn : (flat ll).length ≤ 1000000) (hn2 : ll.length ≤ 1000000) (hG : Gl w) :
    Calls Tryd.prog 6 #[v] w fun e w' => e = .returned (.agg (byteVals (sum256 (flat ll))).toArray) ∧ Below w.heap.size w w' := by
  have HV := Lib.hid hv
  have HG := Lib.hid hG
  have HN := Lib.hid hn
  have hz := zd256
  have hzh := zh256
  have hlt1 := hG.lt
  clear hv hG hn
  go_enter Tryd.func6, Tryd.ntmps6
  go_wp2_with fail
  generalize hW1 : World.alloc _ _ = W1
  obtain ⟨n, hnn⟩ : ∃ n, w.heap.size = n := ⟨_, rfl⟩
  have HNN := Lib.hid hnn
  have HR1 := Lib.hid (show BT W1 n 24 (zerB 32) by subst hW1; rw [← hnn]; exact Go.heap_alloc_new _ _)
  have HB1 := Lib.hid (show Below n w W1 by subst hW1; rw [← hnn]; exact (Below.refl _ w).alloc (Nat.le_refl _) _)
  have HZ1 := Lib.hid (show W1.heap.size = n + 1 by subst hW1; rw [← hnn]; simp)
  rw [hnn] at hlt1 ⊢
  have HG1 := Lib.hid (show Gl W1 from HG.out.below (HNN.out.symm ▸ HB1.out))
  clear hW1 hnn hz
  refine (start256_any W1 HG1.out).mono ?_
  rintro e w2 ⟨rfl, hb2⟩
  have HB2 := Lib.hid hb2
  have HG2 := Lib.hid (HG1.out.below hb2)
  clear hb2
  go_wp2_with (first
    | (refine wpList_build' rfl 40 _ rfl (hcs256 st256 (zerB 64) 0) built256 ?_)
    | (refine wpList_store_row rfl 40 _ _ rfl w2.heap.size (hcs256 st256 (zerB 64) 0) rfl rfl 40 _ (Go.heap_alloc_new _ _) szh256 ?hold hcs256_one (Stop.out ?_)))
  case hold => exact hcs256_size
  generalize hW3 : World.setRow _ _ _ = W3
  obtain ⟨b, hb⟩ : ∃ b, w2.heap.size = b := ⟨_, rfl⟩
  have HH3 := Lib.hid (show HB256 W3 b st256 (zerB 64) 0 by subst hW3; rw [← hb]; exact ⟨setRow_heap _ _ _ _ _ _ (Go.heap_alloc_new _ _), zerB_len _, st256_lt⟩)
  have HB3 := Lib.hid (show Below w2.heap.size w2 W3 by subst hW3; exact Below.setRow ((Below.refl _ w2).alloc (Nat.le_refl _) _) (Nat.le_refl _) _)
  have HSB := Lib.hid hb
  have hnb : n < b := by rw [← hb]; have := HB2.out.size; have := HZ1.out; omega
  rw [hb]
  clear hW3 hb hzh
  refine ⟨?_⟩
  have H13 := Lib.hid (show ∀ k, k < n + 1 → W3.heap[k]? = W1.heap[k]? from fun k hk => (HB3.out.block k (by rw [HSB.out]; omega)).trans (HB2.out.block k (by rw [HZ1.out]; omega)))
  have H03 := Lib.hid (show ∀ k, k < n → W3.heap[k]? = w.heap[k]? from fun k hk => (H13.out k (by omega)).trans (HB1.out.block k hk))
  have HV3 := Lib.hid (show Bss b W3 v ll by
    have h1 := HV.out
    rw [HNN.out] at h1
    obtain ⟨ao, cap, rfl, h2 | ⟨g, off, rfl, hg, h2⟩⟩ := h1.keep H03.out
    · exact ⟨ao, cap, rfl, .inl h2⟩
    · refine ⟨_, cap, rfl, .inr ⟨g, off, rfl, by omega, fun i hi => ?_⟩⟩
      obtain ⟨u, h3, ao', cap', rfl, h4 | ⟨g', off', rfl, hg', h4⟩⟩ := h2 i hi
      · exact ⟨_, h3, ao', cap', rfl, .inl h4⟩
      · exact ⟨_, h3, _, cap', rfl, .inr ⟨g', off', rfl, by omega, h4⟩⟩)
  have HG3 := Lib.hid (HG2.out.below HB3.out)
  go_wp2_with fail
  refine (feed256_any b v ll (st256, []) W3 HV3.out HN.out hn2 ⟨_, HH3.out, rfl, by show 0 < 64; decide⟩ HG3.out (by omega)).mono ?_
  rintro e w4 ⟨rfl, ⟨L, h4, _, _⟩, hb4⟩
  have HH4 := Lib.hid h4
  have HB4 := Lib.hid hb4
  have HBS := Lib.hid (show b < W3.heap.size from HH3.out.lt)
  clear h4 hb4
  go_wp2_with fail
  refine (digest256_any b _ L _ w4 HH4.out).mono ?_
  rintro e w5 ⟨rfl, hb5⟩
  have HSM := Lib.hid (show dig256 (eat256 (st256, ([] : List UInt8)).1 (st256, ([] : List UInt8)).2 (flat ll ++ pad256 (flat ll).length)).1 = sum256 (flat ll) from rfl)
  rw [HSM.out]
  generalize hS : sum256 (flat ll) = S
  have HDL := Lib.hid (show S.length = 32 by rw [← hS]; show (dig256 _).length = _; rw [dig256_eq]; simp)
  have HS2 := Lib.hid (show (Tryd.prog.info? 24).map (·.size) = some (byteVals S).toArray.size by rw [size_byteVals, HDL.out]; exact szd256)
  have HO := Lib.hid (show (byteVals (zerB 32)).toArray.size = (byteVals S).toArray.size by rw [size_byteVals, size_byteVals, HDL.out, zerB_len])
  have H15 := Lib.hid (show ∀ k, k < n + 1 → w5.heap[k]? = W1.heap[k]? from fun k hk => by
    have hs3 := HBS.out
    have hs4 := HB4.out.size
    exact (hb5.block k (by omega)).trans ((HB4.out.block k (by omega) (by omega)).trans (H13.out k hk)))
  have HR5 := Lib.hid (show BT w5 n 24 (zerB 32) from HR1.out.other (H15.out n (by omega)))
  have HB5 := Lib.hid (show Below n w w5 by
    refine ⟨?_, ?_, ?_, ?_, fun k hk => (H15.out k (by omega)).trans (HB1.out.block k hk)⟩
    · exact hb5.os.trans (HB4.out.os.trans (HB3.out.os.trans (HB2.out.os.trans HB1.out.os)))
    · exact hb5.tape.trans (HB4.out.tape.trans (HB3.out.tape.trans (HB2.out.tape.trans HB1.out.tape)))
    · exact hb5.output.trans (HB4.out.output.trans (HB3.out.output.trans (HB2.out.output.trans HB1.out.output)))
    · have h1 := HB1.out.size
      have h2 := HB2.out.size
      have h3 := HB3.out.size
      have h4 := HB4.out.size
      have h5 := hb5.size
      omega)
  have HSS := Lib.hid hS
  clear hb5 hS HSM
  go_wp2_with (refine wpList_store_row rfl 24 _ _ rfl n (byteVals S).toArray rfl rfl 24 _ HR5.out HS2.out HO.out (byteVals_one _) ?_)
  refine bodyPost_ret (results_cell_row (by rfl) _ _ n 24 (byteVals S).toArray (0, 0) _ (by rfl) (setRow_heap _ _ _ _ _ _ HR5.out) Tryd.underlying24 rfl HS2.out) rfl ⟨by rw [HSS.out], ?_⟩
  rw [HNN.out]
  exact Below.setRow HB5.out (Nat.le_refl _) _
end Go.Proofs.YtfjkinmmidmjaaaDoor
