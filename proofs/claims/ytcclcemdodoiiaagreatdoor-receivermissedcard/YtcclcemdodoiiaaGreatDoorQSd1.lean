/- What chain.Next, chain.Tagger, sender.Tag and sender.Right and the reference's Tag answer. -/
import Derived.Test.YtcclcemdodoiiaaGreatDoorQRunG
import Derived.Test.YtcclcemdodoiiaaGreatDoorQSdOps
import Derived.Test.YtcclcemdodoiiaaGreatDoorQRefB
import Derived.Test.YtcclcemdodoiiaaGreatDoorQBas
import Derived.WalkKit
import Derived.WalkSpells
import Derived.WalkLawsBesides
namespace Go.Proofs.YtcclcemdodoiiaaGreatDoor
set_option maxRecDepth 10000
open Go Go.RowKit
set_option linter.unusedVariables false
set_option linter.unusedSimpArgs false

set_option maxHeartbeats 4000000 in
theorem ctagger_any (k K : Ky) (w : World) (hT : Tabs w) (hK : Shut (tg k ⟨#[116, 97, 103]⟩ = K)) : Calls Tryz.prog 78 #[.agg (kc k).toArray] w fun e w' => e = .returned (.agg (kc K).toArray) ∧ Below w.heap.size w w' := by
  have hM := Ms.refl w
  go_enter Tryz.func78, Tryz.ntmps78
  refine wp_seq_k fun _ κ1 => wl_region (wl_give rfl (g_box 23 _ (kc (k)) rfl ?_))
  intro w2 t_ b_
  replace hM := hM.new t_ b_
  clear t_ b_
  try simp only [nz]
  refine wl_give rfl (g_alloc 23 (kc (zk)) zeroK fun w3 t_ b_ => ?_)
  replace hM := hM.new t_ b_
  clear t_ b_
  try simp only [nz]
  refine wl_nil (κ1 _ _ ?_)
  refine wp_seq_k fun _ κ4 => wl_region (wl_give rfl (g_load_all 23 _ (w.heap.size) (kc (k)) 23 _ rfl (hM.get 1 rfl) Tryz.underlying23 rfl (szK _) ?_))
  try simp only [nz]
  refine wl_give rfl (g_cM hM (kf71 _ _) (mof_any k K ⟨#[116, 97, 103]⟩ w3 (hM.tabs hT) (by decide) hK) rfl fun w5 hM => ?_)
  try simp only [nz]
  refine wl_give rfl (g_store_all 23 _ _ (w2.heap.size) (kc (K)) _ 23 rfl rfl (hM.get 0 rfl) (szK _) (kk_len _ _) (one_kc _) fun w6 t_ b_ => ?_)
  replace hM : Ms w w6 [blk (w2.heap.size) (kc (K)) 23, blk (w.heap.size) (kc (k)) 23] := hM.put 0 rfl t_ b_
  clear t_ b_
  try simp only [nz]
  refine wl_nil (κ4 _ _ ?_)
  refine wp_ret ?_
  (try simp only [Exit.inBlock, Exit.then])
  exact bodyPost_ret (results_blk rfl _ (kc (K)) _ rfl (hM.get 0 rfl) Tryz.underlying23 rfl (szK _)) rfl ⟨rfl, hM.below⟩
theorem short_v (K T : ByteArray) (n : Int) (G : ByteArray) (hG : Shut (fst K T n = G)) (hK : K.size ≤ 549755813888) (hTs : T.size ≤ 274877906944) (w : World) (hT : Tabs w) : Calls Tryz.prog 79 #[.string K, .string T, .int .i64 n] w fun e w' => e = .returned (.string G) ∧ Below w.heap.size w w' := by
  rw [← hG.out]; exact short_any K T n hK hTs w hT
theorem rshort_v (K T : ByteArray) (n : Int) (G : ByteArray) (hG : Shut (fst K T n = G)) (hK : K.size ≤ 300) (hTs : T.size ≤ 3000) (w : World) : Calls Tryz.prog 60 #[.string K, .string T, .int .i64 n] w fun e w' => e = .returned (.string G) ∧ Below w.heap.size w w' := by
  rw [← hG.out]; exact rshort_any K T n hK hTs w
theorem key_size (k : Ky) : (⟨k.l.toArray⟩ : ByteArray).size = 32 := by show k.l.toArray.size = 32; rw [List.size_toArray, k.len]
theorem putL_size (n c : Nat) : (⟨(putL n c).toArray⟩ : ByteArray).size = c := by show (putL n c).toArray.size = c; rw [List.size_toArray, putL_length]
set_option maxHeartbeats 4000000 in
theorem tagS_a (k : Ky) (i : Int) (x : ByteArray) (w : World) (hT : Tabs w) (K : Ky) (n : Nat) (J G : ByteArray) (hK : Shut (tg k ⟨#[116, 97, 103]⟩ = K)) (hn : Shut (i % 18446744073709551616 = ((n : Nat) : Int))) (hn2 : n < 18446744073709551616) (hJ : (⟨(putL n 4).toArray⟩ : ByteArray) ++ x = J) (hJs : (⟨(putL n 4).toArray⟩ : ByteArray).size + x.size ≤ 1099511627776) (hJ2 : J.size ≤ 3000) (hKs : (⟨K.l.toArray⟩ : ByteArray).size ≤ 300) (hG : Shut (fst ⟨K.l.toArray⟩ J 16 = G)) : Calls Tryz.prog 54 #[.agg (kc k).toArray, .int .i64 i, .string x] w fun e w' => e = .returned (.string G) ∧ Below w.heap.size w w' := by
  have hM := Ms.refl w
  go_enter Tryz.func54, Tryz.ntmps54
  refine wp_seq_k fun _ κ1 => wl_region (wl_give rfl (g_box 23 _ (kc (k)) rfl ?_))
  intro w2 t_ b_
  replace hM := hM.new t_ b_
  clear t_ b_
  refine wl_fare kn ?_
  simp (disch := omega) only [fx, pv, kx]
  refine wl_nil (κ1 _ _ ?_)
  refine wp_seq_k fun _ κ3 => wl_region (wl_give rfl (g_load_all 23 _ (w.heap.size) (kc (k)) 23 _ rfl (hM.get 0 rfl) Tryz.underlying23 rfl (szK _) ?_))
  try simp only [nz]
  refine wl_give rfl (g_cM hM (kf78 _ _) (ctagger_any k K w2 (hM.tabs hT) hK) rfl fun w4 hM => ?_)
  try simp only [nz]
  refine wl_give rfl (g_alloc 23 (kc (zk)) zeroK fun w5 t_ b_ => ?_)
  replace hM := hM.new t_ b_
  clear t_ b_
  try simp only [nz]
  refine wl_give rfl (g_store_all 23 _ _ (w4.heap.size) (kc (K)) _ 23 rfl rfl (hM.get 0 rfl) (szK _) (kk_len _ _) (one_kc _) fun w6 t_ b_ => ?_)
  replace hM : Ms w w6 [blk (w4.heap.size) (kc (K)) 23, blk (w.heap.size) (kc (k)) 23] := hM.put 0 rfl t_ b_
  clear t_ b_
  try simp only [nz]
  refine wl_nil (κ3 _ _ ?_)
  refine wp_seq_k fun _ κ7 => ?_
  refine wp_region_fixed (by kernel_rfl) (by kernel_rfl) [.slice (some ⟨w4.heap.size, 0, none⟩) 32 32, .string (⟨(K).l.toArray⟩), .int .i64 (i), .int .u64 (((n : Nat) : Int)), .string (⟨(putL n 4).toArray⟩), .string (x), .string (J), .string (G), .string (G)] (by rfl) (fun wx => Ms w wx [blk (w4.heap.size) (kc (K)) 23, blk (w.heap.size) (kc (k)) 23]) hM.drew ?_ ?_
  · simp only [fullL, Act.put, st_a, st_s, st_0]
    refine ⟨?_, ?_, ?_, ?_, ?_, ?_, ?_, ?_, ?_, trivial⟩
    · exact fun wx hM => gw rfl (g_slK _ (w4.heap.size) rfl ⟨rfl, hM⟩)
    · exact fun wx hM => gw rfl (g_strK _ (w4.heap.size) (K) 23 rfl (hM.get 0 rfl) ⟨rfl, hM⟩)
    · exact mvL rfl rfl
    · exact fun wx hM => gw rfl (g_cvU _ (i) (((n : Nat) : Int)) rfl (hn.out) ⟨rfl, hM⟩)
    · exact fun wx hM => gw rfl (g_call 80 _ _ [.int .u64 (((n : Nat) : Int)), .int .i64 (4)] (kf80 _ _) rfl ((put_any n 4 4 wx (.inr (.inl ⟨by decide, by decide, rfl⟩))).mono (fun _ _ ⟨h1_, h2_⟩ => ⟨_, h1_, rfl, hM.call h2_⟩)))
    · exact mvL rfl rfl
    · exact fun wx hM => gw rfl (g_sadd 9 _ _ (⟨(putL n 4).toArray⟩) (x) (J) rfl rfl hJ (hJs) ⟨rfl, hM⟩)
    · exact fun wx hM => gw rfl (g_call 79 _ _ [.string (⟨(K).l.toArray⟩), .string (J), .int .i64 (16)] (kf79 _ _) rfl ((short_v ⟨K.l.toArray⟩ J 16 G hG (Nat.le_trans hKs (by decide)) (Nat.le_trans hJ2 (by decide)) wx (hM.tabs hT)).mono (fun _ _ ⟨h1_, h2_⟩ => ⟨_, h1_, rfl, hM.call h2_⟩)))
    · exact asL rfl rfl
  · simp only [fullL, Act.put, st_a, st_s, st_0]
    intro w8 hM
    refine κ7 _ _ (wp_ret ?_)
    go_ret
    exact ⟨rfl, hM.below⟩
theorem tagS_any (k : Ky) (i : Int) (x : ByteArray) (w : World) (hT : Tabs w) (hx : x.size ≤ 2000) (G : ByteArray) (h : Shut (tgs k i x = G)) : Calls Tryz.prog 54 #[.agg (kc k).toArray, .int .i64 i, .string x] w fun e w' => e = .returned (.string G) ∧ Below w.heap.size w w' := by
  have hm := Int.emod_nonneg i (show (18446744073709551616 : Int) ≠ 0 by decide)
  have hm2 := Int.emod_lt_of_pos i (show (0 : Int) < 18446744073709551616 by decide)
  refine tagS_a k i x w hT (tg k tagW) (i % 18446744073709551616).toNat _ G ⟨rfl⟩ ⟨by rw [Int.toNat_of_nonneg hm]⟩ (by omega) rfl ?_ ?_ ?_ h
  · rw [putL_size]; omega
  · rw [ByteArray.size_append, putL_size]; omega
  · rw [key_size]; decide
set_option maxHeartbeats 4000000 in
theorem rtagS_a (k : Ky) (i : Int) (x : ByteArray) (w : World) (K : Ky) (n : Nat) (J G : ByteArray) (hK : Shut (tg k ⟨#[116, 97, 103]⟩ = K)) (hn : Shut (i % 18446744073709551616 = ((n : Nat) : Int))) (hn2 : n < 18446744073709551616) (hJ : (⟨(putL n 4).toArray⟩ : ByteArray) ++ x = J) (hJs : (⟨(putL n 4).toArray⟩ : ByteArray).size + x.size ≤ 1099511627776) (hJ2 : J.size ≤ 3000) (hKs : (⟨K.l.toArray⟩ : ByteArray).size ≤ 300) (hG : Shut (fst ⟨K.l.toArray⟩ J 16 = G)) : Calls Tryz.prog 32 #[.agg (kc k).toArray, .int .i64 i, .string x] w fun e w' => e = .returned (.string G) ∧ Below w.heap.size w w' := by
  have hM := Ms.refl w
  go_enter Tryz.func32, Tryz.ntmps32
  refine wp_seq_k fun _ κ1 => wl_region (wl_give rfl (g_box 23 _ (kc (k)) rfl ?_))
  intro w2 t_ b_
  replace hM := hM.new t_ b_
  clear t_ b_
  refine wl_fare kn ?_
  simp (disch := omega) only [fx, pv, kx]
  refine wl_nil (κ1 _ _ ?_)
  refine wp_seq_k fun _ κ3 => wl_region (wl_give rfl (g_load_all 23 _ (w.heap.size) (kc (k)) 23 _ rfl (hM.get 0 rfl) Tryz.underlying23 rfl (szK _) ?_))
  try simp only [nz]
  refine wl_give rfl (g_cM hM (kf58 _ _) (mrof_any k K ⟨#[116, 97, 103]⟩ w2 (by decide) hK) rfl fun w4 hM => ?_)
  try simp only [nz]
  refine wl_give rfl (g_alloc 23 (kc (zk)) zeroK fun w5 t_ b_ => ?_)
  replace hM := hM.new t_ b_
  clear t_ b_
  try simp only [nz]
  refine wl_give rfl (g_store_all 23 _ _ (w4.heap.size) (kc (K)) _ 23 rfl rfl (hM.get 0 rfl) (szK _) (kk_len _ _) (one_kc _) fun w6 t_ b_ => ?_)
  replace hM : Ms w w6 [blk (w4.heap.size) (kc (K)) 23, blk (w.heap.size) (kc (k)) 23] := hM.put 0 rfl t_ b_
  clear t_ b_
  try simp only [nz]
  refine wl_nil (κ3 _ _ ?_)
  refine wp_seq_k fun _ κ7 => ?_
  refine wp_region_fixed (by kernel_rfl) (by kernel_rfl) [.slice (some ⟨w4.heap.size, 0, none⟩) 32 32, .string (⟨(K).l.toArray⟩), .int .i64 (i), .int .u64 (((n : Nat) : Int)), .string (⟨(putL n 4).toArray⟩), .string (x), .string (J), .string (G), .string (G)] (by rfl) (fun wx => Ms w wx [blk (w4.heap.size) (kc (K)) 23, blk (w.heap.size) (kc (k)) 23]) hM.drew ?_ ?_
  · simp only [fullL, Act.put, st_a, st_s, st_0]
    refine ⟨?_, ?_, ?_, ?_, ?_, ?_, ?_, ?_, ?_, trivial⟩
    · exact fun wx hM => gw rfl (g_slK _ (w4.heap.size) rfl ⟨rfl, hM⟩)
    · exact fun wx hM => gw rfl (g_strK _ (w4.heap.size) (K) 23 rfl (hM.get 0 rfl) ⟨rfl, hM⟩)
    · exact mvL rfl rfl
    · exact fun wx hM => gw rfl (g_cvU _ (i) (((n : Nat) : Int)) rfl (hn.out) ⟨rfl, hM⟩)
    · exact fun wx hM => gw rfl (g_call 61 _ _ [.int .u64 (((n : Nat) : Int)), .int .i64 (4)] (kf61 _ _) rfl ((rput_any n 4 4 wx (.inr (.inl ⟨by decide, by decide, rfl⟩)) hn2).mono (fun _ _ ⟨h1_, h2_⟩ => ⟨_, h1_, rfl, hM.call h2_⟩)))
    · exact mvL rfl rfl
    · exact fun wx hM => gw rfl (g_sadd 9 _ _ (⟨(putL n 4).toArray⟩) (x) (J) rfl rfl hJ (hJs) ⟨rfl, hM⟩)
    · exact fun wx hM => gw rfl (g_call 60 _ _ [.string (⟨(K).l.toArray⟩), .string (J), .int .i64 (16)] (kf60 _ _) rfl ((rshort_v ⟨K.l.toArray⟩ J 16 G hG hKs hJ2 wx).mono (fun _ _ ⟨h1_, h2_⟩ => ⟨_, h1_, rfl, hM.call h2_⟩)))
    · exact asL rfl rfl
  · simp only [fullL, Act.put, st_a, st_s, st_0]
    intro w8 hM
    refine κ7 _ _ (wp_ret ?_)
    go_ret
    exact ⟨rfl, hM.below⟩
theorem rtagS_any (k : Ky) (i : Int) (x : ByteArray) (w : World) (hx : x.size ≤ 2000) (G : ByteArray) (h : Shut (tgs k i x = G)) : Calls Tryz.prog 32 #[.agg (kc k).toArray, .int .i64 i, .string x] w fun e w' => e = .returned (.string G) ∧ Below w.heap.size w w' := by
  have hm := Int.emod_nonneg i (show (18446744073709551616 : Int) ≠ 0 by decide)
  have hm2 := Int.emod_lt_of_pos i (show (0 : Int) < 18446744073709551616 by decide)
  refine rtagS_a k i x w (tg k tagW) (i % 18446744073709551616).toNat _ G ⟨rfl⟩ ⟨by rw [Int.toNat_of_nonneg hm]⟩ (by omega) rfl ?_ ?_ ?_ h
  · rw [putL_size]; omega
  · rw [ByteArray.size_append, putL_size]; omega
  · rw [key_size]; decide
theorem same_v (a b : ByteArray) (B : Bool) (w : World) (ha : a.size ≤ maxLen) (hb : b.size ≤ maxLen) (hB : Shut (decide (a = b) = B)) : Calls Tryz.prog 113 #[.string a, .string b] w fun e w' => e = .returned (.bool B) ∧ Below w.heap.size w w' := by
  rw [← hB.out]; exact same_any a b w ha hb
set_option maxHeartbeats 4000000 in
theorem right_a (k : Ky) (i : Int) (x g : ByteArray) (t : Int) (m : Ky) (w : World) (hT : Tabs w) (hx : x.size ≤ 2000) (hg : g.size ≤ maxLen) (G : ByteArray) (hG : Shut (tgs k i x = G)) (hGs : G.size ≤ maxLen) (B : Bool) (hB : Shut (decide (g = G) = B)) : Calls Tryz.prog 94 #[.agg (kc k).toArray, .agg (pkc i x g t m).toArray] w fun e w' => e = .returned (.bool B) ∧ Below w.heap.size w w' := by
  have hM := Ms.refl w
  go_enter Tryz.func94, Tryz.ntmps94
  refine wp_seq_k fun _ κ1 => wl_region (wl_give rfl (g_box 23 _ (kc (k)) rfl ?_))
  intro w2 t_ b_
  replace hM := hM.new t_ b_
  clear t_ b_
  try simp only [nz]
  refine wl_give rfl (g_box 39 _ (pkc (i) (x) (g) (t) (m)) rfl fun w3 t_ b_ => ?_)
  replace hM := hM.new t_ b_
  clear t_ b_
  refine wl_fare kn ?_
  simp (disch := omega) only [fx, pv, kx]
  refine wl_nil (κ1 _ _ ?_)
  refine wp_seq_k fun _ κ4 => ?_
  refine wp_region_fixed (by kernel_rfl) (by kernel_rfl) [.pointer (some ⟨w2.heap.size, 2, none⟩), .string (g), .agg (kc (k)).toArray, .pointer (some ⟨w2.heap.size, 0, none⟩), .int .i64 (i), .pointer (some ⟨w2.heap.size, 1, none⟩), .string (x), .string (G), .bool (B), .bool (B)] (by rfl) (fun wx => Ms w wx [blk (w2.heap.size) (pkc (i) (x) (g) (t) (m)) 39, blk (w.heap.size) (kc (k)) 23]) hM.drew ?_ ?_
  · simp only [fullL, Act.put, st_a, st_s, st_0]
    refine ⟨?_, ?_, ?_, ?_, ?_, ?_, ?_, ?_, ?_, ?_, trivial⟩
    · exact faL rfl rfl (fun _ => faPk2 _ _ _)
    · exact fun wx hM => gw rfl (g_ld1 9 _ (w2.heap.size) (2) _ rfl (ld9 _ _ _ _ ((hM.get 0 rfl).cell (2) _ (rfl))) ⟨rfl, hM⟩)
    · exact fun wx hM => gw rfl (g_load_all 23 _ (w.heap.size) (kc (k)) 23 _ rfl (hM.get 1 rfl) Tryz.underlying23 rfl (szK _) ⟨rfl, hM⟩)
    · exact faL rfl rfl (fun _ => faPk0 _ _ _)
    · exact fun wx hM => gw rfl (g_ld1 3 _ (w2.heap.size) (0) _ rfl (ld3 _ _ _ _ ((hM.get 0 rfl).cell (0) _ (rfl))) ⟨rfl, hM⟩)
    · exact faL rfl rfl (fun _ => faPk1 _ _ _)
    · exact fun wx hM => gw rfl (g_ld1 9 _ (w2.heap.size) (1) _ rfl (ld9 _ _ _ _ ((hM.get 0 rfl).cell (1) _ (rfl))) ⟨rfl, hM⟩)
    · exact fun wx hM => gw rfl (g_call 54 _ _ [.agg (kc (k)).toArray, .int .i64 (i), .string (x)] (kf54 _ _) rfl ((tagS_any k i x wx (hM.tabs hT) hx G hG).mono (fun _ _ ⟨h1_, h2_⟩ => ⟨_, h1_, rfl, hM.call h2_⟩)))
    · exact fun wx hM => gw rfl (g_call 113 _ _ [.string (g), .string (G)] (kf113 _ _) rfl ((same_v g G B wx hg hGs hB).mono (fun _ _ ⟨h1_, h2_⟩ => ⟨_, h1_, rfl, hM.call h2_⟩)))
    · exact asL rfl rfl
  · simp only [fullL, Act.put, st_a, st_s, st_0]
    intro w5 hM
    refine κ4 _ _ (wp_ret ?_)
    go_ret
    exact ⟨rfl, hM.below⟩
theorem sright_any (k : Ky) (i : Int) (x g : ByteArray) (t : Int) (m : Ky) (w : World) (hT : Tabs w) (hx : x.size ≤ 2000) (hg : g.size ≤ maxLen) (B : Bool) (hB : Shut (decide (g = tgs k i x) = B)) : Calls Tryz.prog 94 #[.agg (kc k).toArray, .agg (pkc i x g t m).toArray] w fun e w' => e = .returned (.bool B) ∧ Below w.heap.size w w' :=
  right_a k i x g t m w hT hx hg _ ⟨rfl⟩ (by rw [tgs_size]; unfold maxLen; decide) B hB
end Go.Proofs.YtcclcemdodoiiaaGreatDoor
