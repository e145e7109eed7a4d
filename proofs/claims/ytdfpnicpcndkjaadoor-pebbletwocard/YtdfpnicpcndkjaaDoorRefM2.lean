/- What the reference's Of answers: as the program's does. -/
import Derived.Test.YtdfpnicpcndkjaaDoorRefM1
namespace Go.Proofs.YtdfpnicpcndkjaaDoor
set_option maxRecDepth 10000
open Go.RowKit
set_option linter.unusedVariables false

set_option maxRecDepth 100000 in
set_option maxHeartbeats 1000000 in
theorem rof_any (k : List UInt8) (hk : k.length = 32) (T : ByteArray) (hTs : T.size ≤ 300) (w : World) :
    Calls Tryd.prog 23 #[.agg (bc k).toArray, .string T] w fun e w' => e = .returned (.agg (bc (tag k T.data.toList)).toArray) ∧ Below w.heap.size w w' := by
  obtain ⟨R, hR⟩ : ∃ R, tag k T.data.toList = R := ⟨_, rfl⟩
  rw [hR]
  have HRL : Shut (R.length = 32) := ⟨by rw [← hR]; exact tag_length _ _⟩
  have HR : Shut (tag (⟨k.toArray⟩ : ByteArray).data.toList T.data.toList = R) := ⟨hR⟩
  have HKS : Shut ((⟨k.toArray⟩ : ByteArray).size ≤ 300) := ⟨by show k.toArray.size ≤ _; simp [hk]⟩
  clear hR
  go_enter Tryd.func23, Tryd.ntmps23
  go_wp2_with (first
    | ((with_reducible refine at_box 23 ?_); refine L_box 23 _ (bc k) rfl ?_; intro w0 h0 hb0)
    | ((with_reducible refine at_alloc 23 ?_); refine L_alloc 23 _ zero23 ?_; intro w1 h1 hb1; have hsl := run_slice_all w1 w.heap.size 0 32 23 5 Tryd.underlying23 Tryd.sizeOf5; have hcv := blk_all k hk (h1.blk hb0 (by have := hb0.lt; omega))))
  have n0 : w.heap.size < w0.heap.size := hb0.lt
  have n1 : w0.heap.size < w1.heap.size := hb1.lt
  have hB1 : Below w.heap.size w w1 := h1.below (h0.below (Below.refl _ _) (Nat.le_refl _)) h0.size
  clear h0 h1 hb0 hsl hcv
  refine (rtag_any ⟨k.toArray⟩ T HKS.out hTs w1).mono ?_; rw [HR.out]; rintro e w3 ⟨rfl, hb3⟩
  have hB3 : Below w.heap.size w w3 := hB1.trans (hb3.mono (by omega))
  have c3 := hb1.below hb3 (by omega)
  go_wp2_with (first
    | ((with_reducible refine at_store 23 ?_); refine L_store_all 23 _ _ w0.heap.size (bc R) _ 23 rfl rfl c3 (zk23 R HRL.out) (by rw [bc_length, HRL.out]; rfl) (bc_one _) ?_; intro w8 h8 hb8))
  (try simp only [Exit.inBlock, Exit.then])
  exact bodyPost_ret (results_blk rfl w0.heap.size (bc R) _ rfl hb8 Tryd.underlying23 rfl (zk23 R HRL.out)) rfl ⟨rfl, h8.below hB3 (by omega)⟩
end Go.Proofs.YtdfpnicpcndkjaaDoor
