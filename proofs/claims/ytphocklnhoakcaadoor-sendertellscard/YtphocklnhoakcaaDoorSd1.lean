/- What chain.Next, chain.Tagger, sender.Tag and sender.Right and the reference's Tag answer. -/
import Derived.Test.YtphocklnhoakcaaDoorSdOps
import Derived.Test.YtphocklnhoakcaaDoorRefB
import Derived.Test.YtphocklnhoakcaaDoorBas
import Derived.WalkKit
import Derived.WalkSpells
import Derived.WalkLawsBesides
namespace Go.Proofs.YtphocklnhoakcaaDoor
set_option maxRecDepth 10000
open Go Go.RowKit
set_option linter.unusedVariables false
set_option linter.unusedSimpArgs false

set_option maxHeartbeats 4000000 in
theorem ctagger_any (k K : Ky) (w : World) (hT : Tabs w) (hK : Shut (tg k ⟨#[116, 97, 103]⟩ = K)) : Calls Tryd.prog 40 #[.agg (kc k).toArray] w fun e w' => e = .returned (.agg (kc K).toArray) ∧ Below w.heap.size w w' := by
  have hM := Ms.refl w
  go_enter Tryd.func40, Tryd.ntmps40
  refine wp_seq_k (fun K1 hK1 => ?_)
  refine wl_region ?_
  refine wl_give rfl (g_box 23 _ (kc (k)) rfl ?_)
  intro w2 t_ b_
  replace hM := hM.new t_ b_
  clear t_ b_
  (try simp only [Act.put, st_a, st_0, st_s])
  refine wl_give rfl (g_alloc 23 (kc (zk)) zeroK ?_)
  intro w3 t_ b_
  replace hM := hM.new t_ b_
  clear t_ b_
  (try simp only [Act.put, st_a, st_0, st_s])
  refine wl_nil ?_
  refine hK1 _ _ ?_
  (try clear hK1 K1)
  refine wp_seq_k (fun K4 hK4 => ?_)
  refine wl_region ?_
  refine wl_give rfl (g_load_all 23 _ (w.heap.size) (kc (k)) 23 _ rfl (hM.get 1 rfl) Tryd.underlying23 rfl (szK _) ?_)
  (try simp only [Act.put, st_a, st_0, st_s])
  refine wl_give rfl (g_call 47 _ _ [.agg (kc (k)).toArray, .string (⟨#[116, 97, 103]⟩)] (kf47 _ _) rfl ((mof_any k K ⟨#[116, 97, 103]⟩ w3 (hM.tabs hT) (by decide) hK).mono ?_))
  rintro e w5 ⟨rfl, t_⟩
  refine ⟨_, rfl, ?_⟩
  replace hM := hM.call t_
  clear t_
  (try simp only [Act.put, st_a, st_0, st_s])
  refine wl_give rfl (g_store_all 23 _ _ (w2.heap.size) (kc (K)) _ 23 rfl rfl (hM.get 0 rfl) (szK _) (kk_len _ _) (one_kc _) ?_)
  intro w6 t_ b_
  replace hM : Ms w w6 [blk (w2.heap.size) (kc (K)) 23, blk (w.heap.size) (kc (k)) 23] := hM.put 0 rfl t_ b_
  clear t_ b_
  (try simp only [Act.put, st_a, st_0, st_s])
  refine wl_nil ?_
  refine hK4 _ _ ?_
  (try clear hK4 K4)
  refine wp_ret ?_
  (try simp only [Exit.inBlock, Exit.then])
  exact bodyPost_ret (results_blk rfl _ (kc (K)) _ rfl (hM.get 0 rfl) Tryd.underlying23 rfl (szK _)) rfl ⟨rfl, hM.below⟩
set_option maxHeartbeats 4000000 in
theorem cnext_any (k K : Ky) (w : World) (hT : Tabs w) (hK : Shut (tg k ⟨#[115, 101, 101, 100]⟩ = K)) : Calls Tryd.prog 29 #[.agg (kc k).toArray] w fun e w' => e = .returned (.agg (kc K).toArray) ∧ Below w.heap.size w w' := by
  have hM := Ms.refl w
  go_enter Tryd.func29, Tryd.ntmps29
  refine wp_seq_k (fun K1 hK1 => ?_)
  refine wl_region ?_
  refine wl_give rfl (g_box 23 _ (kc (k)) rfl ?_)
  intro w2 t_ b_
  replace hM := hM.new t_ b_
  clear t_ b_
  (try simp only [Act.put, st_a, st_0, st_s])
  refine wl_give rfl (g_alloc 23 (kc (zk)) zeroK ?_)
  intro w3 t_ b_
  replace hM := hM.new t_ b_
  clear t_ b_
  (try simp only [Act.put, st_a, st_0, st_s])
  refine wl_nil ?_
  refine hK1 _ _ ?_
  (try clear hK1 K1)
  refine wp_seq_k (fun K4 hK4 => ?_)
  refine wl_region ?_
  refine wl_give rfl (g_load_all 23 _ (w.heap.size) (kc (k)) 23 _ rfl (hM.get 1 rfl) Tryd.underlying23 rfl (szK _) ?_)
  (try simp only [Act.put, st_a, st_0, st_s])
  refine wl_give rfl (g_call 47 _ _ [.agg (kc (k)).toArray, .string (⟨#[115, 101, 101, 100]⟩)] (kf47 _ _) rfl ((mof_any k K ⟨#[115, 101, 101, 100]⟩ w3 (hM.tabs hT) (by decide) hK).mono ?_))
  rintro e w5 ⟨rfl, t_⟩
  refine ⟨_, rfl, ?_⟩
  replace hM := hM.call t_
  clear t_
  (try simp only [Act.put, st_a, st_0, st_s])
  refine wl_give rfl (g_store_all 23 _ _ (w2.heap.size) (kc (K)) _ 23 rfl rfl (hM.get 0 rfl) (szK _) (kk_len _ _) (one_kc _) ?_)
  intro w6 t_ b_
  replace hM : Ms w w6 [blk (w2.heap.size) (kc (K)) 23, blk (w.heap.size) (kc (k)) 23] := hM.put 0 rfl t_ b_
  clear t_ b_
  (try simp only [Act.put, st_a, st_0, st_s])
  refine wl_nil ?_
  refine hK4 _ _ ?_
  (try clear hK4 K4)
  refine wp_ret ?_
  (try simp only [Exit.inBlock, Exit.then])
  exact bodyPost_ret (results_blk rfl _ (kc (K)) _ rfl (hM.get 0 rfl) Tryd.underlying23 rfl (szK _)) rfl ⟨rfl, hM.below⟩
theorem short_v (K T : ByteArray) (n : Int) (G : ByteArray) (hG : Shut (fst K T n = G)) (hK : K.size ≤ 549755813888) (hTs : T.size ≤ 274877906944) (w : World) (hT : Tabs w) : Calls Tryd.prog 41 #[.string K, .string T, .int .i64 n] w fun e w' => e = .returned (.string G) ∧ Below w.heap.size w w' := by
  rw [← hG.out]; exact short_any K T n hK hTs w hT
theorem rshort_v (K T : ByteArray) (n : Int) (G : ByteArray) (hG : Shut (fst K T n = G)) (hK : K.size ≤ 300) (hTs : T.size ≤ 3000) (w : World) : Calls Tryd.prog 38 #[.string K, .string T, .int .i64 n] w fun e w' => e = .returned (.string G) ∧ Below w.heap.size w w' := by
  rw [← hG.out]; exact rshort_any K T n hK hTs w
theorem key_size (k : Ky) : (⟨k.l.toArray⟩ : ByteArray).size = 32 := by show k.l.toArray.size = 32; rw [List.size_toArray, k.len]
theorem putL_size (n c : Nat) : (⟨(putL n c).toArray⟩ : ByteArray).size = c := by show (putL n c).toArray.size = c; rw [List.size_toArray, putL_length]
set_option maxHeartbeats 4000000 in
theorem tagS_a (k : Ky) (i : Int) (x : ByteArray) (w : World) (hT : Tabs w) (K : Ky) (n : Nat) (J G : ByteArray) (hK : Shut (tg k ⟨#[116, 97, 103]⟩ = K)) (hn : Shut (i % 18446744073709551616 = ((n : Nat) : Int))) (hn2 : n < 18446744073709551616) (hJ : (⟨(putL n 4).toArray⟩ : ByteArray) ++ x = J) (hJs : (⟨(putL n 4).toArray⟩ : ByteArray).size + x.size ≤ 1099511627776) (hJ2 : J.size ≤ 3000) (hKs : (⟨K.l.toArray⟩ : ByteArray).size ≤ 300) (hG : Shut (fst ⟨K.l.toArray⟩ J 16 = G)) : Calls Tryd.prog 21 #[.agg (kc k).toArray, .int .i64 i, .string x] w fun e w' => e = .returned (.string G) ∧ Below w.heap.size w w' := by
  have hM := Ms.refl w
  go_enter Tryd.func21, Tryd.ntmps21
  refine wp_seq_k (fun K1 hK1 => ?_)
  refine wl_region ?_
  refine wl_give rfl (g_box 23 _ (kc (k)) rfl ?_)
  intro w2 t_ b_
  replace hM := hM.new t_ b_
  clear t_ b_
  (try simp only [Act.put, st_a, st_0, st_s])
  refine wl_give rfl (g_assign _ (.string (⟨#[]⟩)) rfl ?_)
  (try simp only [Act.put, st_a, st_0, st_s])
  refine wl_nil ?_
  refine hK1 _ _ ?_
  (try clear hK1 K1)
  refine wp_seq_k (fun K3 hK3 => ?_)
  refine wl_region ?_
  refine wl_give rfl (g_load_all 23 _ (w.heap.size) (kc (k)) 23 _ rfl (hM.get 0 rfl) Tryd.underlying23 rfl (szK _) ?_)
  (try simp only [Act.put, st_a, st_0, st_s])
  refine wl_give rfl (g_call 40 _ _ [.agg (kc (k)).toArray] (kf40 _ _) rfl ((ctagger_any k K w2 (hM.tabs hT) hK).mono ?_))
  rintro e w4 ⟨rfl, t_⟩
  refine ⟨_, rfl, ?_⟩
  replace hM := hM.call t_
  clear t_
  (try simp only [Act.put, st_a, st_0, st_s])
  refine wl_give rfl (g_alloc 23 (kc (zk)) zeroK ?_)
  intro w5 t_ b_
  replace hM := hM.new t_ b_
  clear t_ b_
  (try simp only [Act.put, st_a, st_0, st_s])
  refine wl_give rfl (g_store_all 23 _ _ (w4.heap.size) (kc (K)) _ 23 rfl rfl (hM.get 0 rfl) (szK _) (kk_len _ _) (one_kc _) ?_)
  intro w6 t_ b_
  replace hM : Ms w w6 [blk (w4.heap.size) (kc (K)) 23, blk (w.heap.size) (kc (k)) 23] := hM.put 0 rfl t_ b_
  clear t_ b_
  (try simp only [Act.put, st_a, st_0, st_s])
  refine wl_nil ?_
  refine hK3 _ _ ?_
  (try clear hK3 K3)
  refine wp_seq_k (fun K7 hK7 => ?_)
  refine wp_region_fixed (by kernel_rfl) (by kernel_rfl) [.slice (some ⟨w4.heap.size, 0, none⟩) 32 32, .string (⟨(K).l.toArray⟩), .int .i64 (i), .int .u64 (((n : Nat) : Int)), .string (⟨(putL n 4).toArray⟩), .string (x), .string (J), .string (G), .string (G)] (by rfl) (fun wx => Ms w wx [blk (w4.heap.size) (kc (K)) 23, blk (w.heap.size) (kc (k)) 23]) hM.drew ?_ ?_
  · simp only [fullL, Act.put, st_a, st_s, st_0]
    refine ⟨?_, ?_, ?_, ?_, ?_, ?_, ?_, ?_, ?_, trivial⟩
    · exact fun wx hM => gw rfl (g_slK _ (w4.heap.size) rfl ⟨rfl, hM⟩)
    · exact fun wx hM => gw rfl (g_strK _ (w4.heap.size) (K) 23 rfl (hM.get 0 rfl) ⟨rfl, hM⟩)
    · exact fun wx hM => gw rfl (g_move _ (.int .i64 (i)) rfl ⟨rfl, hM⟩)
    · exact fun wx hM => gw rfl (g_cvU _ (i) (((n : Nat) : Int)) rfl (hn.out) ⟨rfl, hM⟩)
    · exact fun wx hM => gw rfl (g_call 42 _ _ [.int .u64 (((n : Nat) : Int)), .int .i64 (4)] (kf42 _ _) rfl ((put_any n 4 4 wx (.inr (.inl ⟨by decide, by decide, rfl⟩))).mono (fun _ _ ⟨h1_, h2_⟩ => ⟨_, h1_, rfl, hM.call h2_⟩)))
    · exact fun wx hM => gw rfl (g_move _ (.string (x)) rfl ⟨rfl, hM⟩)
    · exact fun wx hM => gw rfl (g_sadd 9 _ _ (⟨(putL n 4).toArray⟩) (x) (J) rfl rfl hJ (hJs) ⟨rfl, hM⟩)
    · exact fun wx hM => gw rfl (g_call 41 _ _ [.string (⟨(K).l.toArray⟩), .string (J), .int .i64 (16)] (kf41 _ _) rfl ((short_v ⟨K.l.toArray⟩ J 16 G hG (Nat.le_trans hKs (by decide)) (Nat.le_trans hJ2 (by decide)) wx (hM.tabs hT)).mono (fun _ _ ⟨h1_, h2_⟩ => ⟨_, h1_, rfl, hM.call h2_⟩)))
    · exact fun wx hM => gw rfl (g_assign _ (.string (G)) rfl ⟨rfl, hM⟩)
  · simp only [fullL, Act.put, st_a, st_s, st_0]
    intro w8 hM
    refine hK7 _ _ ?_
    (try clear hK7 K7)
    refine wp_ret ?_
    go_ret
    exact ⟨rfl, hM.below⟩
theorem tagS_any (k : Ky) (i : Int) (x : ByteArray) (w : World) (hT : Tabs w) (hx : x.size ≤ 2000) (G : ByteArray) (h : Shut (tgs k i x = G)) : Calls Tryd.prog 21 #[.agg (kc k).toArray, .int .i64 i, .string x] w fun e w' => e = .returned (.string G) ∧ Below w.heap.size w w' := by
  have hm := Int.emod_nonneg i (show (18446744073709551616 : Int) ≠ 0 by decide)
  have hm2 := Int.emod_lt_of_pos i (show (0 : Int) < 18446744073709551616 by decide)
  refine tagS_a k i x w hT (tg k tagW) (i % 18446744073709551616).toNat _ G ⟨rfl⟩ ⟨by rw [Int.toNat_of_nonneg hm]⟩ (by omega) rfl ?_ ?_ ?_ h
  · rw [putL_size]; omega
  · rw [ByteArray.size_append, putL_size]; omega
  · rw [key_size]; decide
set_option maxHeartbeats 4000000 in
theorem rtagS_a (k : Ky) (i : Int) (x : ByteArray) (w : World) (K : Ky) (n : Nat) (J G : ByteArray) (hK : Shut (tg k ⟨#[116, 97, 103]⟩ = K)) (hn : Shut (i % 18446744073709551616 = ((n : Nat) : Int))) (hn2 : n < 18446744073709551616) (hJ : (⟨(putL n 4).toArray⟩ : ByteArray) ++ x = J) (hJs : (⟨(putL n 4).toArray⟩ : ByteArray).size + x.size ≤ 1099511627776) (hJ2 : J.size ≤ 3000) (hKs : (⟨K.l.toArray⟩ : ByteArray).size ≤ 300) (hG : Shut (fst ⟨K.l.toArray⟩ J 16 = G)) : Calls Tryd.prog 20 #[.agg (kc k).toArray, .int .i64 i, .string x] w fun e w' => e = .returned (.string G) ∧ Below w.heap.size w w' := by
  have hM := Ms.refl w
  go_enter Tryd.func20, Tryd.ntmps20
  refine wp_seq_k (fun K1 hK1 => ?_)
  refine wl_region ?_
  refine wl_give rfl (g_box 23 _ (kc (k)) rfl ?_)
  intro w2 t_ b_
  replace hM := hM.new t_ b_
  clear t_ b_
  (try simp only [Act.put, st_a, st_0, st_s])
  refine wl_give rfl (g_assign _ (.string (⟨#[]⟩)) rfl ?_)
  (try simp only [Act.put, st_a, st_0, st_s])
  refine wl_nil ?_
  refine hK1 _ _ ?_
  (try clear hK1 K1)
  refine wp_seq_k (fun K3 hK3 => ?_)
  refine wl_region ?_
  refine wl_give rfl (g_load_all 23 _ (w.heap.size) (kc (k)) 23 _ rfl (hM.get 0 rfl) Tryd.underlying23 rfl (szK _) ?_)
  (try simp only [Act.put, st_a, st_0, st_s])
  refine wl_give rfl (g_call 31 _ _ [.agg (kc (k)).toArray, .string (⟨#[116, 97, 103]⟩)] (kf31 _ _) rfl ((mrof_any k K ⟨#[116, 97, 103]⟩ w2 (by decide) hK).mono ?_))
  rintro e w4 ⟨rfl, t_⟩
  refine ⟨_, rfl, ?_⟩
  replace hM := hM.call t_
  clear t_
  (try simp only [Act.put, st_a, st_0, st_s])
  refine wl_give rfl (g_alloc 23 (kc (zk)) zeroK ?_)
  intro w5 t_ b_
  replace hM := hM.new t_ b_
  clear t_ b_
  (try simp only [Act.put, st_a, st_0, st_s])
  refine wl_give rfl (g_store_all 23 _ _ (w4.heap.size) (kc (K)) _ 23 rfl rfl (hM.get 0 rfl) (szK _) (kk_len _ _) (one_kc _) ?_)
  intro w6 t_ b_
  replace hM : Ms w w6 [blk (w4.heap.size) (kc (K)) 23, blk (w.heap.size) (kc (k)) 23] := hM.put 0 rfl t_ b_
  clear t_ b_
  (try simp only [Act.put, st_a, st_0, st_s])
  refine wl_nil ?_
  refine hK3 _ _ ?_
  (try clear hK3 K3)
  refine wp_seq_k (fun K7 hK7 => ?_)
  refine wp_region_fixed (by kernel_rfl) (by kernel_rfl) [.slice (some ⟨w4.heap.size, 0, none⟩) 32 32, .string (⟨(K).l.toArray⟩), .int .i64 (i), .int .u64 (((n : Nat) : Int)), .string (⟨(putL n 4).toArray⟩), .string (x), .string (J), .string (G), .string (G)] (by rfl) (fun wx => Ms w wx [blk (w4.heap.size) (kc (K)) 23, blk (w.heap.size) (kc (k)) 23]) hM.drew ?_ ?_
  · simp only [fullL, Act.put, st_a, st_s, st_0]
    refine ⟨?_, ?_, ?_, ?_, ?_, ?_, ?_, ?_, ?_, trivial⟩
    · exact fun wx hM => gw rfl (g_slK _ (w4.heap.size) rfl ⟨rfl, hM⟩)
    · exact fun wx hM => gw rfl (g_strK _ (w4.heap.size) (K) 23 rfl (hM.get 0 rfl) ⟨rfl, hM⟩)
    · exact fun wx hM => gw rfl (g_move _ (.int .i64 (i)) rfl ⟨rfl, hM⟩)
    · exact fun wx hM => gw rfl (g_cvU _ (i) (((n : Nat) : Int)) rfl (hn.out) ⟨rfl, hM⟩)
    · exact fun wx hM => gw rfl (g_call 39 _ _ [.int .u64 (((n : Nat) : Int)), .int .i64 (4)] (kf39 _ _) rfl ((rput_any n 4 4 wx (.inr (.inl ⟨by decide, by decide, rfl⟩)) hn2).mono (fun _ _ ⟨h1_, h2_⟩ => ⟨_, h1_, rfl, hM.call h2_⟩)))
    · exact fun wx hM => gw rfl (g_move _ (.string (x)) rfl ⟨rfl, hM⟩)
    · exact fun wx hM => gw rfl (g_sadd 9 _ _ (⟨(putL n 4).toArray⟩) (x) (J) rfl rfl hJ (hJs) ⟨rfl, hM⟩)
    · exact fun wx hM => gw rfl (g_call 38 _ _ [.string (⟨(K).l.toArray⟩), .string (J), .int .i64 (16)] (kf38 _ _) rfl ((rshort_v ⟨K.l.toArray⟩ J 16 G hG hKs hJ2 wx).mono (fun _ _ ⟨h1_, h2_⟩ => ⟨_, h1_, rfl, hM.call h2_⟩)))
    · exact fun wx hM => gw rfl (g_assign _ (.string (G)) rfl ⟨rfl, hM⟩)
  · simp only [fullL, Act.put, st_a, st_s, st_0]
    intro w8 hM
    refine hK7 _ _ ?_
    (try clear hK7 K7)
    refine wp_ret ?_
    go_ret
    exact ⟨rfl, hM.below⟩
theorem rtagS_any (k : Ky) (i : Int) (x : ByteArray) (w : World) (hx : x.size ≤ 2000) (G : ByteArray) (h : Shut (tgs k i x = G)) : Calls Tryd.prog 20 #[.agg (kc k).toArray, .int .i64 i, .string x] w fun e w' => e = .returned (.string G) ∧ Below w.heap.size w w' := by
  have hm := Int.emod_nonneg i (show (18446744073709551616 : Int) ≠ 0 by decide)
  have hm2 := Int.emod_lt_of_pos i (show (0 : Int) < 18446744073709551616 by decide)
  refine rtagS_a k i x w (tg k tagW) (i % 18446744073709551616).toNat _ G ⟨rfl⟩ ⟨by rw [Int.toNat_of_nonneg hm]⟩ (by omega) rfl ?_ ?_ ?_ h
  · rw [putL_size]; omega
  · rw [ByteArray.size_append, putL_size]; omega
  · rw [key_size]; decide
theorem same_v (a b : ByteArray) (B : Bool) (w : World) (ha : a.size ≤ maxLen) (hb : b.size ≤ maxLen) (hB : Shut (decide (a = b) = B)) : Calls Tryd.prog 43 #[.string a, .string b] w fun e w' => e = .returned (.bool B) ∧ Below w.heap.size w w' := by
  rw [← hB.out]; exact same_any a b w ha hb
set_option maxHeartbeats 4000000 in
theorem right_a (k : Ky) (i : Int) (x g : ByteArray) (t : Int) (m : Ky) (w : World) (hT : Tabs w) (hx : x.size ≤ 2000) (hg : g.size ≤ maxLen) (G : ByteArray) (hG : Shut (tgs k i x = G)) (hGs : G.size ≤ maxLen) (B : Bool) (hB : Shut (decide (g = G) = B)) : Calls Tryd.prog 22 #[.agg (kc k).toArray, .agg (pkc i x g t m).toArray] w fun e w' => e = .returned (.bool B) ∧ Below w.heap.size w w' := by
  have hM := Ms.refl w
  go_enter Tryd.func22, Tryd.ntmps22
  refine wp_seq_k (fun K1 hK1 => ?_)
  refine wl_region ?_
  refine wl_give rfl (g_box 23 _ (kc (k)) rfl ?_)
  intro w2 t_ b_
  replace hM := hM.new t_ b_
  clear t_ b_
  (try simp only [Act.put, st_a, st_0, st_s])
  refine wl_give rfl (g_box 44 _ (pkc (i) (x) (g) (t) (m)) rfl ?_)
  intro w3 t_ b_
  replace hM := hM.new t_ b_
  clear t_ b_
  (try simp only [Act.put, st_a, st_0, st_s])
  refine wl_give rfl (g_assign _ (.bool false) rfl ?_)
  (try simp only [Act.put, st_a, st_0, st_s])
  refine wl_nil ?_
  refine hK1 _ _ ?_
  (try clear hK1 K1)
  refine wp_seq_k (fun K4 hK4 => ?_)
  refine wp_region_fixed (by kernel_rfl) (by kernel_rfl) [.pointer (some ⟨w2.heap.size, 2, none⟩), .string (g), .agg (kc (k)).toArray, .pointer (some ⟨w2.heap.size, 0, none⟩), .int .i64 (i), .pointer (some ⟨w2.heap.size, 1, none⟩), .string (x), .string (G), .bool (B), .bool (B)] (by rfl) (fun wx => Ms w wx [blk (w2.heap.size) (pkc (i) (x) (g) (t) (m)) 44, blk (w.heap.size) (kc (k)) 23]) hM.drew ?_ ?_
  · simp only [fullL, Act.put, st_a, st_s, st_0]
    refine ⟨?_, ?_, ?_, ?_, ?_, ?_, ?_, ?_, ?_, ?_, trivial⟩
    · exact fun wx hM => gw rfl (g_fa 44 _ (w2.heap.size) (0) (2) 2 rfl (faPk2 _ _ _) ⟨rfl, hM⟩)
    · exact fun wx hM => gw rfl (g_ld1 9 _ (w2.heap.size) (2) _ rfl (ld9 _ _ _ _ ((hM.get 0 rfl).cell (2) _ (rfl))) ⟨rfl, hM⟩)
    · exact fun wx hM => gw rfl (g_load_all 23 _ (w.heap.size) (kc (k)) 23 _ rfl (hM.get 1 rfl) Tryd.underlying23 rfl (szK _) ⟨rfl, hM⟩)
    · exact fun wx hM => gw rfl (g_fa 44 _ (w2.heap.size) (0) (0) 0 rfl (faPk0 _ _ _) ⟨rfl, hM⟩)
    · exact fun wx hM => gw rfl (g_ld1 3 _ (w2.heap.size) (0) _ rfl (ld3 _ _ _ _ ((hM.get 0 rfl).cell (0) _ (rfl))) ⟨rfl, hM⟩)
    · exact fun wx hM => gw rfl (g_fa 44 _ (w2.heap.size) (0) (1) 1 rfl (faPk1 _ _ _) ⟨rfl, hM⟩)
    · exact fun wx hM => gw rfl (g_ld1 9 _ (w2.heap.size) (1) _ rfl (ld9 _ _ _ _ ((hM.get 0 rfl).cell (1) _ (rfl))) ⟨rfl, hM⟩)
    · exact fun wx hM => gw rfl (g_call 21 _ _ [.agg (kc (k)).toArray, .int .i64 (i), .string (x)] (kf21 _ _) rfl ((tagS_any k i x wx (hM.tabs hT) hx G hG).mono (fun _ _ ⟨h1_, h2_⟩ => ⟨_, h1_, rfl, hM.call h2_⟩)))
    · exact fun wx hM => gw rfl (g_call 43 _ _ [.string (g), .string (G)] (kf43 _ _) rfl ((same_v g G B wx hg hGs hB).mono (fun _ _ ⟨h1_, h2_⟩ => ⟨_, h1_, rfl, hM.call h2_⟩)))
    · exact fun wx hM => gw rfl (g_assign _ (.bool (B)) rfl ⟨rfl, hM⟩)
  · simp only [fullL, Act.put, st_a, st_s, st_0]
    intro w5 hM
    refine hK4 _ _ ?_
    (try clear hK4 K4)
    refine wp_ret ?_
    go_ret
    exact ⟨rfl, hM.below⟩
theorem sright_any (k : Ky) (i : Int) (x g : ByteArray) (t : Int) (m : Ky) (w : World) (hT : Tabs w) (hx : x.size ≤ 2000) (hg : g.size ≤ maxLen) (B : Bool) (hB : Shut (decide (g = tgs k i x) = B)) : Calls Tryd.prog 22 #[.agg (kc k).toArray, .agg (pkc i x g t m).toArray] w fun e w' => e = .returned (.bool B) ∧ Below w.heap.size w w' :=
  right_a k i x g t m w hT hx hg _ ⟨rfl⟩ (by rw [tgs_size]; unfold maxLen; decide) B hB
end Go.Proofs.YtphocklnhoakcaaDoor
