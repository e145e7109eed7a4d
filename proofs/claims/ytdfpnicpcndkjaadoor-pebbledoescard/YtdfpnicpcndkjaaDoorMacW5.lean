/- What the program's mac.Tag and Of answer. -/
import Derived.Test.YtdfpnicpcndkjaaDoorMacW4
namespace Go.Proofs.YtdfpnicpcndkjaaDoor
set_option maxRecDepth 10000
open Go.RowKit
set_option linter.unusedVariables false

set_option maxRecDepth 100000 in
set_option maxHeartbeats 1000000 in
theorem tag_any (K T : ByteArray) (hK : K.size ≤ 549755813888) (hTs : T.size ≤ 274877906944) (w : World) (hT : Tabs w) :
    Calls Tryd.prog 25 #[.string K, .string T] w fun e w' => e = .returned (.agg (bc (tag K.data.toList T.data.toList)).toArray) ∧ Below w.heap.size w w' := by
  have hts := hT.size
  obtain ⟨R, hR⟩ : ∃ R, tag K.data.toList T.data.toList = R := ⟨_, rfl⟩
  rw [hR]
  have HRL : Hid (R.length = 32) := by show _ = _; rw [← hR]; exact tag_length _ _
  have HR : Hid (tag K.data.toList T.data.toList = R) := hR
  clear hR
  go_enter Tryd.func25, Tryd.ntmps25
  go_wp2_with (first
    | ((with_reducible refine at_alloc 23 ?_); refine L_alloc 23 _ zero23 ?_; intro w1 h1 hb1))
  have n1 : w.heap.size < w1.heap.size := hb1.lt
  have hB1 : Below w.heap.size w w1 := h1.below (Below.refl _ _) (Nat.le_refl _)
  clear h1
  refine (with_any K hK w1 (hT.below hB1 hts)).mono ?_; rintro e w2 ⟨p, q, rfl, hp, hq, bp, bq, hb2⟩
  have n2 := hb2.size
  have hB2 : Below w.heap.size w w2 := hB1.trans (hb2.mono (by omega))
  have c2 := hb1.below hb2 (by omega)
  clear hB1 hb1 hb2
  go_wp2_with fail
  refine (maker_any K.data.toList T hTs p q w2 (hT.below hB2 hts) bp bq).mono ?_; rw [HR.out]; rintro e w3 ⟨rfl, hb3⟩
  have n3 := hb3.size
  have hB3 : Below w.heap.size w w3 := hB2.trans (hb3.mono (by omega))
  have c3 := c2.below hb3 (by omega)
  go_wp2_with (first
    | ((with_reducible refine at_store 23 ?_); refine L_store_all 23 _ _ w.heap.size (bc R) _ 23 rfl rfl c3 (zk23 R HRL.out) (by rw [bc_length, HRL.out]; rfl) (bc_one _) ?_; intro w8 h8 hb8))
  (try simp only [Exit.inBlock, Exit.then])
  exact bodyPost_ret (results_blk rfl w.heap.size (bc R) _ rfl hb8 Tryd.underlying23 rfl (zk23 R HRL.out)) rfl ⟨rfl, h8.below hB3 (Nat.le_refl _)⟩
theorem blk_all {w : World} {b : Nat} {t : TypeId} (l : List UInt8) (hl : l.length = 32) (h : Blk w b (bc l) t) : (convert 57 9 (.slice (some ⟨b, 0, none⟩) 32 32)).run Tryd.prog w = .ok (.string ⟨l.toArray⟩) w :=
  blk_string (o := 0) (n := 32) (cap := 32) h l hl (by rw [List.drop_zero, List.take_of_length_le (by rw [bc_length]; omega)])
set_option maxRecDepth 100000 in
set_option maxHeartbeats 1000000 in
theorem of_any (k : List UInt8) (hk : k.length = 32) (T : ByteArray) (hTs : T.size ≤ 274877906944) (w : World) (hT : Tabs w) :
    Calls Tryd.prog 20 #[.agg (bc k).toArray, .string T] w fun e w' => e = .returned (.agg (bc (tag k T.data.toList)).toArray) ∧ Below w.heap.size w w' := by
  have hts := hT.size
  obtain ⟨R, hR⟩ : ∃ R, tag k T.data.toList = R := ⟨_, rfl⟩
  rw [hR]
  have HRL : Hid (R.length = 32) := by show _ = _; rw [← hR]; exact tag_length _ _
  have HR : Hid (tag (⟨k.toArray⟩ : ByteArray).data.toList T.data.toList = R) := hR
  have HKS : Hid ((⟨k.toArray⟩ : ByteArray).size ≤ 549755813888) := by show k.toArray.size ≤ _; simp [hk]
  clear hR
  go_enter Tryd.func20, Tryd.ntmps20
  go_wp2_with (first
    | ((with_reducible refine at_box 23 ?_); refine L_box 23 _ (bc k) rfl ?_; intro w0 h0 hb0)
    | ((with_reducible refine at_alloc 23 ?_); refine L_alloc 23 _ zero23 ?_; intro w1 h1 hb1; have hsl := run_slice_all w1 w.heap.size 0 32 23 5 Tryd.underlying23 Tryd.sizeOf5; have hcv := blk_all k hk (h1.blk hb0 (by have := hb0.lt; omega))))
  have n0 : w.heap.size < w0.heap.size := hb0.lt
  have n1 : w0.heap.size < w1.heap.size := hb1.lt
  have hB1 : Below w.heap.size w w1 := h1.below (h0.below (Below.refl _ _) (Nat.le_refl _)) h0.size
  clear h0 h1 hb0 hsl hcv
  refine (tag_any ⟨k.toArray⟩ T HKS.out hTs w1 (hT.below hB1 hts)).mono ?_; rw [HR.out]; rintro e w3 ⟨rfl, hb3⟩
  have hB3 : Below w.heap.size w w3 := hB1.trans (hb3.mono (by omega))
  have c3 := hb1.below hb3 (by omega)
  go_wp2_with (first
    | ((with_reducible refine at_store 23 ?_); refine L_store_all 23 _ _ w0.heap.size (bc R) _ 23 rfl rfl c3 (zk23 R HRL.out) (by rw [bc_length, HRL.out]; rfl) (bc_one _) ?_; intro w8 h8 hb8))
  (try simp only [Exit.inBlock, Exit.then])
  exact bodyPost_ret (results_blk rfl w0.heap.size (bc R) _ rfl hb8 Tryd.underlying23 rfl (zk23 R HRL.out)) rfl ⟨rfl, h8.below hB3 (by omega)⟩
end Go.Proofs.YtdfpnicpcndkjaaDoor
