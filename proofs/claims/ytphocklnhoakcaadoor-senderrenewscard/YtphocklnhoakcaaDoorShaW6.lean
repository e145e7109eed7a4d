/- What the program's sha.Walk answers. -/
import Derived.Test.YtphocklnhoakcaaDoorSix
namespace Go.Proofs.YtphocklnhoakcaaDoor
set_option maxRecDepth 10000
open Go.RowKit
set_option linter.unusedVariables false
/-- The digest of the digest, so many times. -/
def walkF : Nat → List UInt8 → List UInt8
  | 0, k => k
  | n + 1, k => sum (walkF n k)
theorem walkF_length (n : Nat) (k : List UInt8) (hk : k.length = 32) : (walkF n k).length = 32 := by
  cases n with
  | zero => exact hk
  | succ n => exact sum_length _
theorem walkF_add (m n : Nat) (k : List UInt8) : walkF m (walkF n k) = walkF (n + m) k := by
  induction m with
  | zero => rfl
  | succ m ih => rw [walkF, ih]; rfl
set_option maxRecDepth 100000 in
set_option maxHeartbeats 1000000 in
theorem walk_min (k : List UInt8) (st m : Int) (hk : k.length = 32) (w : World) (hT : Tabs w) (hm : min st 4096 = m) :
    Calls Tryd.prog 73 #[.agg (bc k).toArray, .int .i64 st] w fun e w' => e = .returned (.agg (bc (walkF m.toNat k)).toArray) ∧ Below w.heap.size w w' := by
  have hts := hT.size
  have hl32 : (bc (walkF m.toNat k)).length = 32 := by rw [bc_length, walkF_length _ _ hk]
  have hz : Hid ((Tryd.prog.info? 23).map (·.size) = some (bc (walkF m.toNat k)).length) := by rw [hl32]; exact size23
  have HL : Hid ((bc (walkF m.toNat k)).length = (bc (List.replicate 32 0)).length) := by rw [hl32]; rfl
  have hm2 : m ≤ 4096 := by omega
  clear hl32
  go_enter Tryd.func73, Tryd.ntmps73
  go_wp2_with (first
    | ((with_reducible refine at_box 23 ?_); refine L_box 23 _ (bc k) rfl ?_; intro w1 h1 hb1)
    | ((with_reducible refine at_alloc 23 ?_); refine L_alloc 23 _ zero23 ?_; intro w2 h2 hb2))
  have n1 : w.heap.size < w1.heap.size := hb1.lt
  have hB : Below w.heap.size w w2 := h2.below (h1.below (Below.refl _ _) (Nat.le_refl _)) h1.size
  have b1 := h2.blk hb1 (by omega)
  clear h1 h2 hb1 hm
  go_loopw [7] (fun i wr => ∃ j : Nat, (j : Int) ≤ max m 0 ∧ i = .int .i64 j ∧ Blk wr w.heap.size (bc (walkF j k)) 23 ∧ Blk wr w1.heap.size (bc (List.replicate 32 0)) 23 ∧ Below w.heap.size w wr) (fun i _ => m.toNat - (intOf i).toNat)
  case atStart => exact ⟨0, by omega, rfl, b1, hb2, hB⟩
  case round =>
    clear b1 hb2 hB
    obtain ⟨j, hj, rfl, b1, b2, hbw⟩ := hrel
    have hj2 : (j : Int) ≤ 4096 := by omega
    by_cases hlt : (j : Int) < m
    · obtain ⟨x, hx⟩ : ∃ x, walkF j k = x := ⟨_, rfl⟩
      have hxl : x.length = 32 := by rw [← hx]; exact walkF_length _ _ hk
      rw [hx] at b1
      have hsl := run_slice_all wr w.heap.size 0 32 23 5 Tryd.underlying23 Tryd.sizeOf5
      have hcv := blk_string (o := 0) (n := 32) (cap := 32) b1 x hxl (by rw [List.drop_zero, List.take_of_length_le (by rw [bc_length]; omega)])
      have hl32 : (bc (sum x)).length = 32 := by rw [bc_length, sum_length]
      have hz1 : Hid ((Tryd.prog.info? 23).map (·.size) = some (bc (sum x)).length) := by rw [hl32]; exact size23
      have HL1 : Hid ((bc (sum x)).length = (bc x).length) := by rw [hl32, bc_length, hxl]; rfl
      have HX : Hid (walkF (j + 1) k = sum x) := by show _ = _; rw [walkF, hx]
      have HXS : Hid ((⟨x.toArray⟩ : ByteArray).size ≤ 549755813888) := by show x.toArray.size ≤ _; simp [hxl]
      clear hx hxl hl32
      have n8 := b1.lt
      have n9 := b2.lt
      go_wp2_with fail
      refine (sum_any ⟨x.toArray⟩ wr (hT.below hbw hts) HXS.out).mono ?_; rintro e w5 ⟨rfl, hb5⟩
      have c1 := b1.below hb5 n8
      have c2 := b2.below hb5 n9
      have hB5 := hbw.trans (hb5.mono (by omega))
      clear b1 b2 hb5 hcv hsl
      rw [show (⟨x.toArray⟩ : ByteArray).data.toList = x from rfl]
      go_wp2_with (first
        | ((with_reducible refine at_store 23 ?_); refine L_store_all 23 _ _ w.heap.size (bc (sum x)) _ 23 rfl rfl c1 hz1.out HL1.out (bc_one _) ?_; intro w6 h6 hb6))
      go_roundw
      case rel =>
        refine ⟨j + 1, by omega, by go_num, ?_, h6.blk c2 (by omega), h6.below hB5 (Nat.le_refl _)⟩
        rw [HX.out]; exact hb6
      case measure => simp [intOf]; omega
    · have hjm : j = m.toNat := by omega
      have b3 : Blk wr w.heap.size (bc (walkF m.toNat k)) 23 := by rw [← hjm]; exact b1
      clear hjm
      go_wp2_with (first
        | ((with_reducible refine at_load 23 ?_); refine L_load_all 23 _ w.heap.size _ 23 _ rfl b3 Tryd.underlying23 rfl hz.out ?_)
        | ((with_reducible refine at_store 23 ?_); refine L_store_all 23 _ _ w1.heap.size (bc (walkF m.toNat k)) _ 23 rfl rfl b2 hz.out HL.out (bc_one _) ?_; intro w8 h8 hb8))
      (try simp only [Exit.inBlock, Exit.then])
      exact bodyPost_ret (results_blk rfl w1.heap.size (bc (walkF m.toNat k)) _ rfl hb8 Tryd.underlying23 rfl hz.out) rfl ⟨rfl, h8.below hbw (by omega)⟩
theorem walk_nat (k : List UInt8) (n : Nat) (hk : k.length = 32) (w : World) (hT : Tabs w) (hn : n ≤ 4096) :
    Calls Tryd.prog 73 #[.agg (bc k).toArray, .int .i64 n] w fun e w' => e = .returned (.agg (bc (walkF n k)).toArray) ∧ Below w.heap.size w w' := by
  have h := walk_min k n n hk w hT (by omega)
  rw [Int.toNat_natCast] at h
  exact h
theorem walk_low (k : List UInt8) (n : Int) (hk : k.length = 32) (w : World) (hT : Tabs w) (hn : n ≤ 0) :
    Calls Tryd.prog 73 #[.agg (bc k).toArray, .int .i64 n] w fun e w' => e = .returned (.agg (bc k).toArray) ∧ Below w.heap.size w w' := by
  have h := walk_min k n n hk w hT (by omega)
  rw [show n.toNat = 0 by omega] at h
  exact h
end Go.Proofs.YtphocklnhoakcaaDoor
