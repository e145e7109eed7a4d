/- What the program's mac.Tag, Of, Short and Right answer. -/
import Derived.Test.YtfbajkojjlgbdaaDoorMacW4
import Derived.Test.YtfbajkojjlgbdaaDoorOct3
namespace Go.Proofs.YtfbajkojjlgbdaaDoor
open Go.RowKit
set_option linter.unusedVariables false

set_option maxRecDepth 100000 in
set_option maxHeartbeats 1000000 in
theorem tag_any (K T : ByteArray) (hK : K.size ≤ 549755813888) (hTs : T.size ≤ 274877906944) (w : World) (hT : Tabs w) :
    Calls Tryd.prog 11 #[.string K, .string T] w fun e w' => e = .returned (.agg (bc (tag K.data.toList T.data.toList)).toArray) ∧ Below w.heap.size w w' := by
  have hts := hT.size
  obtain ⟨R, hR⟩ : ∃ R, tag K.data.toList T.data.toList = R := ⟨_, rfl⟩
  rw [hR]
  have HRL : Hid (R.length = 32) := by show _ = _; rw [← hR]; exact tag_length _ _
  have HR : Hid (tag K.data.toList T.data.toList = R) := hR
  clear hR
  go_enter Tryd.func11, Tryd.ntmps11
  go_wp2_with (first
    | ((with_reducible refine at_alloc 23 ?_); refine L_alloc 23 _ zero23 ?_; intro w1 h1 hb1))
  have n1 : w.heap.size < w1.heap.size := hb1.lt
  have hB1 : Below w.heap.size w w1 := h1.below (Below.refl _ _) (Nat.le_refl _)
  clear h1
  refine (with_any K hK w1 (hT.below hB1 hts)).mono ?_; rintro e w2 ⟨p, q, rfl, hp, hq, bp, bq, hb2⟩
  have n2 := hb2.size
  have hB2 : Below w.heap.size w w2 := hB1.trans (hb2.mono (by omega))
  have c2 := hb1.below hb2 (by omega)
  clear hB1 hb1 hb2
  go_wp2_with fail
  refine (maker_any K.data.toList T hTs p q w2 (hT.below hB2 hts) bp bq).mono ?_; rw [HR.out]; rintro e w3 ⟨rfl, hb3⟩
  have n3 := hb3.size
  have hB3 : Below w.heap.size w w3 := hB2.trans (hb3.mono (by omega))
  have c3 := c2.below hb3 (by omega)
  go_wp2_with (first
    | ((with_reducible refine at_store 23 ?_); refine L_store_all 23 _ _ w.heap.size (bc R) _ 23 rfl rfl c3 (zk23 R HRL.out) (by rw [bc_length, HRL.out]; rfl) (bc_one _) ?_; intro w8 h8 hb8))
  (try simp only [Exit.inBlock, Exit.then])
  exact bodyPost_ret (results_blk rfl w.heap.size (bc R) _ rfl hb8 Tryd.underlying23 rfl (zk23 R HRL.out)) rfl ⟨rfl, h8.below hB3 (Nat.le_refl _)⟩
theorem blk_all {w : World} {b : Nat} {t : TypeId} (l : List UInt8) (hl : l.length = 32) (h : Blk w b (bc l) t) : (convert 36 9 (.slice (some ⟨b, 0, none⟩) 32 32)).run Tryd.prog w = .ok (.string ⟨l.toArray⟩) w :=
  blk_string (o := 0) (n := 32) (cap := 32) h l hl (by rw [List.drop_zero, List.take_of_length_le (by rw [bc_length]; omega)])
set_option maxRecDepth 100000 in
set_option maxHeartbeats 1000000 in
theorem of_any (k : List UInt8) (hk : k.length = 32) (T : ByteArray) (hTs : T.size ≤ 274877906944) (w : World) (hT : Tabs w) :
    Calls Tryd.prog 13 #[.agg (bc k).toArray, .string T] w fun e w' => e = .returned (.agg (bc (tag k T.data.toList)).toArray) ∧ Below w.heap.size w w' := by
  have hts := hT.size
  obtain ⟨R, hR⟩ : ∃ R, tag k T.data.toList = R := ⟨_, rfl⟩
  rw [hR]
  have HRL : Hid (R.length = 32) := by show _ = _; rw [← hR]; exact tag_length _ _
  have HR : Hid (tag (⟨k.toArray⟩ : ByteArray).data.toList T.data.toList = R) := hR
  have HKS : Hid ((⟨k.toArray⟩ : ByteArray).size ≤ 549755813888) := by show k.toArray.size ≤ _; simp [hk]
  clear hR
  go_enter Tryd.func13, Tryd.ntmps13
  go_wp2_with (first
    | ((with_reducible refine at_box 23 ?_); refine L_box 23 _ (bc k) rfl ?_; intro w0 h0 hb0)
    | ((with_reducible refine at_alloc 23 ?_); refine L_alloc 23 _ zero23 ?_; intro w1 h1 hb1; have hsl := run_slice_all w1 w.heap.size 0 32 23 5 Tryd.underlying23 Tryd.sizeOf5; have hcv := blk_all k hk (h1.blk hb0 (by have := hb0.lt; omega))))
  have n0 : w.heap.size < w0.heap.size := hb0.lt
  have n1 : w0.heap.size < w1.heap.size := hb1.lt
  have hB1 : Below w.heap.size w w1 := h1.below (h0.below (Below.refl _ _) (Nat.le_refl _)) h0.size
  clear h0 h1 hb0 hsl hcv
  refine (tag_any ⟨k.toArray⟩ T HKS.out hTs w1 (hT.below hB1 hts)).mono ?_; rw [HR.out]; rintro e w3 ⟨rfl, hb3⟩
  have hB3 : Below w.heap.size w w3 := hB1.trans (hb3.mono (by omega))
  have c3 := hb1.below hb3 (by omega)
  go_wp2_with (first
    | ((with_reducible refine at_store 23 ?_); refine L_store_all 23 _ _ w0.heap.size (bc R) _ 23 rfl rfl c3 (zk23 R HRL.out) (by rw [bc_length, HRL.out]; rfl) (bc_one _) ?_; intro w8 h8 hb8))
  (try simp only [Exit.inBlock, Exit.then])
  exact bodyPost_ret (results_blk rfl w0.heap.size (bc R) _ rfl hb8 Tryd.underlying23 rfl (zk23 R HRL.out)) rfl ⟨rfl, h8.below hB3 (by omega)⟩
/-- 'x[:hi]'. -/
theorem run_slice_h {P : Program} (w : World) (b o n hi : Nat) (h : Int) (t e : TypeId) (hu : P.underlying t = some (.array n e)) (hs : ∀ w, (sizeOf e).run P w = .ok 1 w) (hh : h = hi) (h2 : hi ≤ n) (h0 : 0 < n) :
    (Instr.sliceAt t (.pointer (some ⟨b, o, none⟩)) none (some (.int .i64 h)) none).run P w = .ok (.slice (some ⟨b, o, none⟩) hi n) w := by
  subst hh
  have e1 : ¬ n = 0 := by omega
  simp [Instr.sliceAt, Instr.sureAddr, run_underlying hu, Instr.sliceBounds, run_sliceBound, hs, h2, Addr.add_mid]
/-- How many bytes are told of so many. -/
def cutN (n : Int) : Nat := (min (max n 0) 32).toNat
theorem cutN_le (n : Int) : cutN n ≤ 32 := by unfold cutN; omega
/-- A tag's first bytes. -/
def fst (K T : ByteArray) (n : Int) : ByteArray := ⟨((tag K.data.toList T.data.toList).take (cutN n)).toArray⟩
theorem fst_size (K T : ByteArray) (n : Int) : (fst K T n).size = cutN n := by
  have := cutN_le n
  show (Array.size _) = _
  simp [tag_length]; omega
set_option maxRecDepth 100000 in
set_option maxHeartbeats 1000000 in
theorem short_any (K T : ByteArray) (n : Int) (hK : K.size ≤ 549755813888) (hTs : T.size ≤ 274877906944) (w : World) (hT : Tabs w) :
    Calls Tryd.prog 15 #[.string K, .string T, .int .i64 n] w fun e w' => e = .returned (.string (fst K T n)) ∧ Below w.heap.size w w' := by
  have hts := hT.size
  obtain ⟨m, hm⟩ : ∃ m, cutN n = m := ⟨_, rfl⟩
  obtain ⟨R, hR⟩ : ∃ R, tag K.data.toList T.data.toList = R := ⟨_, rfl⟩
  have HRL : Hid (R.length = 32) := by show _ = _; rw [← hR]; exact tag_length _ _
  have HR : Hid (tag K.data.toList T.data.toList = R) := hR
  unfold fst
  rw [hm, hR]
  have hm32 : m ≤ 32 := by rw [← hm]; exact cutN_le n
  have HMM : Hid (min (max n 0) 32 = (m : Int)) := by show _ = _; rw [← hm]; unfold cutN; omega
  clear hR hm
  go_enter Tryd.func15, Tryd.ntmps15
  go_wp2_with fail
  refine (tag_any K T hK hTs w hT).mono ?_; rw [HR.out]; rintro e w1 ⟨rfl, hb1⟩
  have n1 := hb1.size
  have hml : Hid ((R.take m).length = m) := by show _ = _; rw [List.length_take, HRL.out]; omega
  go_wp2_with (first
    | ((with_reducible refine at_alloc 23 ?_); refine L_alloc 23 _ zero23 ?_; intro w2 h2 hb2)
    | ((with_reducible refine at_store 23 ?_); refine L_store_all 23 _ _ w1.heap.size (bc R) _ 23 rfl rfl hb2 (zk23 R HRL.out) (by rw [bc_length, HRL.out]; rfl) (bc_one _) ?_; intro w3 h3 hb3)
    | ((with_reducible refine stop_list 12 ?_); intro X hX))
  have hmm := HMM.out
  have hsl := run_slice_h w3 w1.heap.size 0 32 m m 23 5 Tryd.underlying23 Tryd.sizeOf5 rfl hm32 (by decide)
  have hcv := blk_string (o := 0) (n := m) (cap := 32) hb3 (R.take m) hml.out (by rw [List.drop_zero, bc, bc, List.map_take])
  have hB3 : Below w.heap.size w w3 := h3.below (h2.below hb1 n1) n1
  clear h2 h3 hb1 hb2 hb3 hml HMM
  refine hX.out ?_
  clear hX
  go_wp2_with fail
  go_ret
  exact ⟨rfl, hB3⟩
/-- Whether a tag is right. -/
def rightB (K T G : ByteArray) : Bool := decide (8 ≤ G.size ∧ G = fst K T G.size)
set_option maxRecDepth 100000 in
set_option maxHeartbeats 1000000 in
theorem mright_any (K T G : ByteArray) (hK : K.size ≤ 549755813888) (hTs : T.size ≤ 274877906944) (hG : G.size ≤ maxLen) (w : World) (hT : Tabs w) :
    Calls Tryd.prog 17 #[.string K, .string T, .string G] w fun e w' => e = .returned (.bool (rightB K T G)) ∧ Below w.heap.size w w' := by
  have hts := hT.size
  have hG2 := hG
  unfold maxLen at hG2
  by_cases h8 : 8 ≤ G.size
  · have HB : Hid (decide (G = fst K T G.size) = rightB K T G) := by
      show _ = _
      unfold rightB
      simp [h8]
    obtain ⟨F, hF⟩ : ∃ F, fst K T G.size = F := ⟨_, rfl⟩
    rw [hF] at HB
    have HF : Hid (fst K T G.size = F) := hF
    have HFS : Hid (F.size ≤ maxLen) := by show _ ≤ _; rw [← hF, fst_size]; have := cutN_le G.size; unfold maxLen; omega
    clear hF
    go_enter Tryd.func17, Tryd.ntmps17
    go_wp2_with fail
    refine (short_any K T G.size hK hTs w hT).mono ?_; rw [HF.out]; rintro e w1 ⟨rfl, hb1⟩
    go_wp2_with fail
    refine (same_any G F w1 hG HFS.out).mono ?_; rintro e w2 ⟨rfl, hb2⟩
    go_wp2_with fail
    go_ret
    exact ⟨ret_bool HB.out, hb1.trans (hb2.mono hb1.size)⟩
  · have HB : Hid (false = rightB K T G) := by
      show _ = _
      unfold rightB
      simp [h8]
    go_enter Tryd.func17, Tryd.ntmps17
    go_wp2_with fail
    go_ret
    exact ⟨ret_bool HB.out, Below.refl _ _⟩
end Go.Proofs.YtfbajkojjlgbdaaDoor
