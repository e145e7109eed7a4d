/- awake: what the calls that each law asks first answer. -/
import Derived.Test.YtphocklnhoakcaaDoorSd3
import Derived.Test.YtphocklnhoakcaaDoorSd4
import Derived.WalkKit
import Derived.WalkSpells
import Derived.WalkLawsBesides
namespace Go.Proofs.YtphocklnhoakcaaDoor
set_option maxRecDepth 10000
open Go Go.RowKit
set_option linter.unusedVariables false
set_option linter.unusedSimpArgs false

/-- The digest of the digest, reckoned. -/
def wdg : Nat → List UInt8 → List UInt8
  | 0, k => k
  | n + 1, k => dig (wdg n k)
theorem wd_walk (n : Nat) (k : List UInt8) : walkF n k = wdg n k := by
  induction n with
  | zero => rfl
  | succ n ih => rw [walkF, wdg, ih, sum_dig]
theorem wl_l (n : Nat) (k : Ky) : (wl n k).l = walkF n k.l := by simp only [wl]
theorem tg_l (k : Ky) (t : ByteArray) : (tg k t).l = tag k.l t.data.toList := by simp only [tg]
theorem is_L : tag k1.l chainW.data.toList = [220, 38, 39, 15, 151, 80, 58, 61, 204, 5, 33, 143, 119, 189, 204, 20, 223, 164, 207, 127, 251, 126, 249, 181, 113, 206, 150, 232, 135, 98, 206, 249] := by
  rw [tag, sum_dig, sum_dig]
  decide +kernel
theorem is_2 : wdg 2 [220, 38, 39, 15, 151, 80, 58, 61, 204, 5, 33, 143, 119, 189, 204, 20, 223, 164, 207, 127, 251, 126, 249, 181, 113, 206, 150, 232, 135, 98, 206, 249] = [203, 79, 6, 231, 126, 73, 98, 205, 212, 103, 17, 98, 151, 104, 92, 172, 56, 121, 200, 90, 162, 176, 158, 167, 145, 95, 39, 108, 131, 53, 108, 233] := by decide +kernel
theorem is_4 : wdg 2 [203, 79, 6, 231, 126, 73, 98, 205, 212, 103, 17, 98, 151, 104, 92, 172, 56, 121, 200, 90, 162, 176, 158, 167, 145, 95, 39, 108, 131, 53, 108, 233] = [0, 203, 55, 216, 218, 172, 123, 216, 192, 16, 14, 94, 147, 186, 135, 21, 146, 88, 98, 139, 88, 143, 25, 39, 62, 68, 75, 212, 63, 7, 2, 36] := by decide +kernel
theorem is_t1 : tag [0, 203, 55, 216, 218, 172, 123, 216, 192, 16, 14, 94, 147, 186, 135, 21, 146, 88, 98, 139, 88, 143, 25, 39, 62, 68, 75, 212, 63, 7, 2, 36] tagW.data.toList = [66, 165, 1, 53, 37, 54, 190, 156, 247, 213, 31, 199, 62, 132, 236, 55, 103, 136, 224, 252, 133, 243, 239, 210, 74, 21, 249, 184, 53, 127, 70, 97] := by
  rw [tag, sum_dig, sum_dig]
  decide +kernel
theorem is_t3 : tag [203, 79, 6, 231, 126, 73, 98, 205, 212, 103, 17, 98, 151, 104, 92, 172, 56, 121, 200, 90, 162, 176, 158, 167, 145, 95, 39, 108, 131, 53, 108, 233] tagW.data.toList = [7, 152, 145, 107, 135, 185, 167, 38, 222, 62, 201, 154, 167, 132, 107, 48, 208, 250, 167, 90, 127, 8, 213, 101, 93, 175, 177, 149, 11, 115, 32, 45] := by
  rw [tag, sum_dig, sum_dig]
  decide +kernel
theorem is_u1 : tag [66, 165, 1, 53, 37, 54, 190, 156, 247, 213, 31, 199, 62, 132, 236, 55, 103, 136, 224, 252, 133, 243, 239, 210, 74, 21, 249, 184, 53, 127, 70, 97] [0, 0, 0, 1, 111, 110, 101] = [103, 122, 125, 179, 213, 123, 81, 154, 220, 115, 237, 92, 31, 124, 227, 186, 87, 20, 249, 150, 90, 217, 230, 190, 202, 84, 10, 185, 246, 51, 138, 56] := by
  rw [tag, sum_dig, sum_dig]
  decide +kernel
theorem is_u3 : tag [7, 152, 145, 107, 135, 185, 167, 38, 222, 62, 201, 154, 167, 132, 107, 48, 208, 250, 167, 90, 127, 8, 213, 101, 93, 175, 177, 149, 11, 115, 32, 45] [0, 0, 0, 1, 111, 110, 101] = [122, 69, 197, 224, 239, 39, 70, 251, 107, 44, 254, 85, 169, 219, 125, 60, 128, 49, 111, 156, 244, 45, 202, 77, 177, 93, 174, 178, 141, 137, 94, 36] := by
  rw [tag, sum_dig, sum_dig]
  decide +kernel
theorem last2 : (wl 2 (tg k1 chainW)).l = [203, 79, 6, 231, 126, 73, 98, 205, 212, 103, 17, 98, 151, 104, 92, 172, 56, 121, 200, 90, 162, 176, 158, 167, 145, 95, 39, 108, 131, 53, 108, 233] := by rw [wl_l, tg_l, is_L, wd_walk, is_2]
theorem last4 : (wl 4 (tg k1 chainW)).l = [0, 203, 55, 216, 218, 172, 123, 216, 192, 16, 14, 94, 147, 186, 135, 21, 146, 88, 98, 139, 88, 143, 25, 39, 62, 68, 75, 212, 63, 7, 2, 36] := by
  rw [← wl_add 2 2, wl_l 2, last2, wd_walk, is_4]
def plA : Pl := ⟨0, 10, 2, 5⟩
def plB : Pl := ⟨50, 10, 2, 5⟩
theorem okA : POk plA := by decide
theorem okB : POk plB := by decide
theorem tgs_l (k : Ky) (x : ByteArray) : (tgs k 1 x).data.toList = (tag (tag k.l tagW.data.toList) ([0, 0, 0, 1] ++ x.data.toList)).take 16 := by
  have e : (⟨(putL ((1 : Int) % 18446744073709551616).toNat 4).toArray⟩ : ByteArray) = ⟨#[0, 0, 0, 1]⟩ := rfl
  rw [tgs, e]
  unfold fst
  simp only [cutN, tg_l, bytes_append]
  rfl
theorem keyA (i : Nat) (hi : i ≤ 5) : kyk k1 plA i = wl (5 - i) (tg k1 chainW) := kyk_nat (by decide) (by decide) rfl i hi
/-- The first packet's tag is not the one by the other key. -/
theorem tags_differ : decide (tgs (kyk k1 plA 1) 1 ⟨#[111, 110, 101]⟩ = tgs (kyk k1 plA 3) 1 ⟨#[111, 110, 101]⟩) = false := by
  refine decide_eq_false fun e => ?_
  have e2 := congrArg (fun b : ByteArray => b.data.toList) e
  rw [tgs_l, tgs_l, show kyk k1 plA 1 = wl 4 (tg k1 chainW) from keyA 1 (by decide), show kyk k1 plA 3 = wl 2 (tg k1 chainW) from keyA 3 (by decide), last2, last4, is_t1, is_t3] at e2
  rw [show ([0, 0, 0, 1] ++ (⟨#[111, 110, 101]⟩ : ByteArray).data.toList : List UInt8) = [0, 0, 0, 1, 111, 110, 101] from rfl, is_u1, is_u3] at e2
  exact absurd e2 (by decide)
theorem known_v {w0 w : World} {R : List HP} {p : Nat} {s : Ky} {P : Pl} {l : Int} (hM : Ms w0 w (sn p s P l :: R)) (K : Ky) (h : Shut (kyk s P 0 = K)) : Calls Tryd.prog 19 #[.pointer (some ⟨p, 0, none⟩)] w fun e w' => e = .returned (.agg (kc K).toArray) ∧ Below w.heap.size w w' := by
  rw [← h.out]; exact known_any hM
set_option maxHeartbeats 4000000 in
theorem awake_core (w : World) (hT : Tabs w) (Ka Kb Kc : Ky) (Ga Gb : ByteArray) (bad0 : ¬ POk pl0) (hS1 : Shut (sdA k1 plA 0 5 ⟨#[111, 110, 101]⟩ = ((⟨1, ⟨#[111, 110, 101]⟩, Ga, 0, zk⟩, 0), 1))) (hS2 : Shut (sdA k1 plA 1 25 ⟨#[116, 104, 114, 101, 101]⟩ = ((⟨3, ⟨#[116, 104, 114, 101, 101]⟩, Gb, 1, Ka⟩, 0), 3))) (hS3 : Shut (sdA k1 plA 3 15 ⟨#[108, 97, 116, 101]⟩ = ((⟨0, ⟨#[]⟩, ⟨#[]⟩, 0, zk⟩, 14), 3))) (hS4 : Shut (sdA k1 plA 3 50 ⟨#[110, 111, 110, 101]⟩ = ((⟨0, ⟨#[]⟩, ⟨#[]⟩, 0, zk⟩, 10), 3))) (hS5 : Shut (sdA (tg k1 seedW) plB 0 49 ⟨#[97, 104, 101, 97, 100]⟩ = ((⟨0, ⟨#[]⟩, ⟨#[]⟩, 0, zk⟩, 15), 0))) (hKa : Shut (ky k1 5 1 = (Ka, 0))) (hKb : Shut (ky k1 5 3 = (Kb, 0))) (hKc : Shut (ky k1 5 0 = (Kc, 0))) (hB : Shut (pth plA = (plB, 0))) (hGa : Shut (tgs Ka 1 ⟨#[111, 110, 101]⟩ = Ga)) (hGs : Gb.size ≤ maxLen) (hGs2 : Ga.size ≤ maxLen) (hRb : Shut (decide (Gb = tgs Kb 3 ⟨#[116, 104, 114, 101, 101]⟩) = true)) (hRa : Shut (decide (Ga = tgs Kb 1 ⟨#[111, 110, 101]⟩) = false)) (hKn : Shut (kyk k1 plA 0 = Kc)) : Calls Tryd.prog 9 #[] w fun e w' => e = .returned (.bool true) ∧ Below w.heap.size w w' := by
  have hM := Ms.refl w
  go_enter Tryd.func9, Tryd.ntmps9
  refine wp_seq_k (fun K1 hK1 => ?_)
  refine wl_region ?_
  refine wl_give rfl (g_assign _ (.bool false) rfl ?_)
  (try simp only [Act.put, st_a, st_0, st_s])
  refine wl_nil ?_
  refine hK1 _ _ ?_
  (try clear hK1 K1)
  refine wp_seq_k (fun K2 hK2 => ?_)
  refine wl_region ?_
  refine wl_give rfl (g_bldPl _ _ _ _ plA rfl rfl rfl rfl ?_)
  (try simp only [Act.put, st_a, st_0, st_s])
  refine wl_give rfl (g_alloc 25 (plc (pl0)) zeroPl ?_)
  intro w3 t_ b_
  replace hM := hM.new t_ b_
  clear t_ b_
  (try simp only [Act.put, st_a, st_0, st_s])
  refine wl_give rfl (g_store_all 25 _ _ (w.heap.size) (plc (plA)) _ 25 rfl rfl (hM.get 0 rfl) (szPl _) (pp_len _ _) (one_plc _) ?_)
  intro w4 t_ b_
  replace hM : Ms w w4 [blk (w.heap.size) (plc (plA)) 25] := hM.put 0 rfl t_ b_
  clear t_ b_
  (try simp only [Act.put, st_a, st_0, st_s])
  refine wl_nil ?_
  refine hK2 _ _ ?_
  (try clear hK2 K2)
  refine wp_seq_k (fun K5 hK5 => ?_)
  refine wl_region ?_
  refine wl_give rfl (g_bldK1 ?_)
  (try simp only [Act.put, st_a, st_0, st_s])
  refine wl_give rfl (g_load_all 25 _ (w.heap.size) (plc (plA)) 25 _ rfl (hM.get 0 rfl) Tryd.underlying25 rfl (szPl _) ?_)
  (try simp only [Act.put, st_a, st_0, st_s])
  refine wl_give rfl (g_call 10 _ _ [.agg (kc (k1)).toArray, .agg (plc (plA)).toArray] (kf10 _ _) rfl ((snew_any (k1) (plA) w w4 _ hM hT okA).mono ?_))
  rintro e w6 ⟨p7, rfl, h_⟩
  refine ⟨_, rfl, ?_⟩
  replace hM : Ms w w6 [sn p7 (k1) (plA) (0), blk (w.heap.size) (plc (plA)) 25] := h_
  clear h_
  (try simp only [Act.put, st_a, st_0, st_s])
  refine wl_give rfl (g_move _ (.tuple #[.pointer (some ⟨p7, 0, none⟩), .int .i64 (0)]) rfl ?_)
  (try simp only [Act.put, st_a, st_0, st_s])
  refine wl_give rfl (g_extract _ #[.pointer (some ⟨p7, 0, none⟩), .int .i64 (0)] 0 (.pointer (some ⟨p7, 0, none⟩)) rfl rfl ?_)
  (try simp only [Act.put, st_a, st_0, st_s])
  refine wl_give rfl (g_extract _ #[.pointer (some ⟨p7, 0, none⟩), .int .i64 (0)] 1 (.int .i64 (0)) rfl rfl ?_)
  (try simp only [Act.put, st_a, st_0, st_s])
  refine wl_give rfl (g_assign _ (.pointer (some ⟨p7, 0, none⟩)) rfl ?_)
  (try simp only [Act.put, st_a, st_0, st_s])
  refine wl_give rfl (g_assign _ (.int .i64 (0)) rfl ?_)
  (try simp only [Act.put, st_a, st_0, st_s])
  refine wl_nil ?_
  refine hK5 _ _ ?_
  (try clear hK5 K5)
  refine wp_seq_k (fun K8 hK8 => ?_)
  refine wl_region ?_
  refine wl_give rfl (g_bldK1 ?_)
  (try simp only [Act.put, st_a, st_0, st_s])
  refine wl_give rfl (g_bldPl0 ?_)
  (try simp only [Act.put, st_a, st_0, st_s])
  refine wl_give rfl (g_call 10 _ _ [.agg (kc (k1)).toArray, .agg (plc (pl0)).toArray] (kf10 _ _) rfl ((snew_bad (k1) (pl0) w6 bad0).mono ?_))
  rintro e w9 ⟨rfl, t_⟩
  refine ⟨_, rfl, ?_⟩
  replace hM := hM.call t_
  clear t_
  (try simp only [Act.put, st_a, st_0, st_s])
  refine wl_give rfl (g_move _ (.tuple #[.pointer none, .int .i64 (1)]) rfl ?_)
  (try simp only [Act.put, st_a, st_0, st_s])
  refine wl_give rfl (g_extract _ #[.pointer none, .int .i64 (1)] 0 (.pointer none) rfl rfl ?_)
  (try simp only [Act.put, st_a, st_0, st_s])
  refine wl_give rfl (g_extract _ #[.pointer none, .int .i64 (1)] 1 (.int .i64 (1)) rfl rfl ?_)
  (try simp only [Act.put, st_a, st_0, st_s])
  refine wl_give rfl (g_assign _ (.pointer none) rfl ?_)
  (try simp only [Act.put, st_a, st_0, st_s])
  refine wl_give rfl (g_assign _ (.int .i64 (1)) rfl ?_)
  (try simp only [Act.put, st_a, st_0, st_s])
  refine wl_nil ?_
  refine hK8 _ _ ?_
  (try clear hK8 K8)
  refine wp_seq_k (fun K10 hK10 => ?_)
  refine wp_seq_k (fun K11 hK11 => ?_)
  refine wl_region ?_
  refine wl_give rfl (g_move _ (.pointer (some ⟨p7, 0, none⟩)) rfl ?_)
  (try simp only [Act.put, st_a, st_0, st_s])
  refine wl_give rfl (g_peqS _ ((some ⟨p7, 0, none⟩)) false rfl rfl ?_)
  (try simp only [Act.put, st_a, st_0, st_s])
  refine wl_nil ?_
  refine hK11 _ _ ?_
  (try clear hK11 K11)
  refine wp_cond_false rfl ?_
  refine wp_skip ?_
  refine hK10 _ _ ?_
  (try clear hK10 K10)
  refine wp_seq_k (fun K12 hK12 => ?_)
  refine wl_region ?_
  refine wl_give rfl (g_move _ (.pointer (some ⟨p7, 0, none⟩)) rfl ?_)
  (try simp only [Act.put, st_a, st_0, st_s])
  refine wl_give rfl (g_call 15 _ _ [.pointer (some ⟨p7, 0, none⟩), .int .i64 (5), .string (⟨#[111, 110, 101]⟩)] (kf15 _ _) rfl ((send_any hM hT (5) ⟨by decide, by decide⟩ (⟨#[111, 110, 101]⟩) (1) (⟨#[111, 110, 101]⟩) (Ga) (0) (zk) (0) (1) hS1).mono ?_))
  rintro e w13 ⟨rfl, h_⟩
  refine ⟨_, rfl, ?_⟩
  replace hM : Ms w w13 [sn p7 (k1) (plA) (1), blk (w.heap.size) (plc (plA)) 25] := h_
  clear h_
  (try simp only [Act.put, st_a, st_0, st_s])
  refine wl_give rfl (g_move _ (.tuple #[.agg (pkc (1) (⟨#[111, 110, 101]⟩) (Ga) (0) (zk)).toArray, .int .i64 (0)]) rfl ?_)
  (try simp only [Act.put, st_a, st_0, st_s])
  refine wl_give rfl (g_extract _ #[.agg (pkc (1) (⟨#[111, 110, 101]⟩) (Ga) (0) (zk)).toArray, .int .i64 (0)] 0 (.agg (pkc (1) (⟨#[111, 110, 101]⟩) (Ga) (0) (zk)).toArray) rfl rfl ?_)
  (try simp only [Act.put, st_a, st_0, st_s])
  refine wl_give rfl (g_extract _ #[.agg (pkc (1) (⟨#[111, 110, 101]⟩) (Ga) (0) (zk)).toArray, .int .i64 (0)] 1 (.int .i64 (0)) rfl rfl ?_)
  (try simp only [Act.put, st_a, st_0, st_s])
  refine wl_give rfl (g_alloc 44 (pkc (0) (⟨#[]⟩) (⟨#[]⟩) (0) (zk)) zeroPk ?_)
  intro w14 t_ b_
  replace hM := hM.new t_ b_
  clear t_ b_
  (try simp only [Act.put, st_a, st_0, st_s])
  refine wl_give rfl (g_store_all 44 _ _ (w13.heap.size) (pkc (1) (⟨#[111, 110, 101]⟩) (Ga) (0) (zk)) _ 44 rfl rfl (hM.get 0 rfl) (szPk _ _ _ _ _) (kk2_len _ _ _ _ _ _ _ _ _ _) (one_pkc _ _ _ _ _) ?_)
  intro w15 t_ b_
  replace hM : Ms w w15 [blk (w13.heap.size) (pkc (1) (⟨#[111, 110, 101]⟩) (Ga) (0) (zk)) 44, sn p7 (k1) (plA) (1), blk (w.heap.size) (plc (plA)) 25] := hM.put 0 rfl t_ b_
  clear t_ b_
  (try simp only [Act.put, st_a, st_0, st_s])
  refine wl_give rfl (g_assign _ (.int .i64 (0)) rfl ?_)
  (try simp only [Act.put, st_a, st_0, st_s])
  refine wl_nil ?_
  refine hK12 _ _ ?_
  (try clear hK12 K12)
  refine wp_seq_k (fun K16 hK16 => ?_)
  refine wl_region ?_
  refine wl_give rfl (g_move _ (.pointer (some ⟨p7, 0, none⟩)) rfl ?_)
  (try simp only [Act.put, st_a, st_0, st_s])
  refine wl_give rfl (g_call 15 _ _ [.pointer (some ⟨p7, 0, none⟩), .int .i64 (25), .string (⟨#[116, 104, 114, 101, 101]⟩)] (kf15 _ _) rfl ((send_any (show Ms w w15 [sn p7 (k1) (plA) (1), blk (w13.heap.size) (pkc (1) (⟨#[111, 110, 101]⟩) (Ga) (0) (zk)) 44, blk (w.heap.size) (plc (plA)) 25] from (hM.up 1 rfl)) hT (25) ⟨by decide, by decide⟩ (⟨#[116, 104, 114, 101, 101]⟩) (3) (⟨#[116, 104, 114, 101, 101]⟩) (Gb) (1) (Ka) (0) (3) hS2).mono ?_))
  rintro e w17 ⟨rfl, h_⟩
  refine ⟨_, rfl, ?_⟩
  replace hM : Ms w w17 [sn p7 (k1) (plA) (3), blk (w13.heap.size) (pkc (1) (⟨#[111, 110, 101]⟩) (Ga) (0) (zk)) 44, blk (w.heap.size) (plc (plA)) 25] := h_
  clear h_
  (try simp only [Act.put, st_a, st_0, st_s])
  refine wl_give rfl (g_move _ (.tuple #[.agg (pkc (3) (⟨#[116, 104, 114, 101, 101]⟩) (Gb) (1) (Ka)).toArray, .int .i64 (0)]) rfl ?_)
  (try simp only [Act.put, st_a, st_0, st_s])
  refine wl_give rfl (g_extract _ #[.agg (pkc (3) (⟨#[116, 104, 114, 101, 101]⟩) (Gb) (1) (Ka)).toArray, .int .i64 (0)] 0 (.agg (pkc (3) (⟨#[116, 104, 114, 101, 101]⟩) (Gb) (1) (Ka)).toArray) rfl rfl ?_)
  (try simp only [Act.put, st_a, st_0, st_s])
  refine wl_give rfl (g_extract _ #[.agg (pkc (3) (⟨#[116, 104, 114, 101, 101]⟩) (Gb) (1) (Ka)).toArray, .int .i64 (0)] 1 (.int .i64 (0)) rfl rfl ?_)
  (try simp only [Act.put, st_a, st_0, st_s])
  refine wl_give rfl (g_alloc 44 (pkc (0) (⟨#[]⟩) (⟨#[]⟩) (0) (zk)) zeroPk ?_)
  intro w18 t_ b_
  replace hM := hM.new t_ b_
  clear t_ b_
  (try simp only [Act.put, st_a, st_0, st_s])
  refine wl_give rfl (g_store_all 44 _ _ (w17.heap.size) (pkc (3) (⟨#[116, 104, 114, 101, 101]⟩) (Gb) (1) (Ka)) _ 44 rfl rfl (hM.get 0 rfl) (szPk _ _ _ _ _) (kk2_len _ _ _ _ _ _ _ _ _ _) (one_pkc _ _ _ _ _) ?_)
  intro w19 t_ b_
  replace hM : Ms w w19 [blk (w17.heap.size) (pkc (3) (⟨#[116, 104, 114, 101, 101]⟩) (Gb) (1) (Ka)) 44, sn p7 (k1) (plA) (3), blk (w13.heap.size) (pkc (1) (⟨#[111, 110, 101]⟩) (Ga) (0) (zk)) 44, blk (w.heap.size) (plc (plA)) 25] := hM.put 0 rfl t_ b_
  clear t_ b_
  (try simp only [Act.put, st_a, st_0, st_s])
  refine wl_give rfl (g_assign _ (.int .i64 (0)) rfl ?_)
  (try simp only [Act.put, st_a, st_0, st_s])
  refine wl_nil ?_
  refine hK16 _ _ ?_
  (try clear hK16 K16)
  refine wp_seq_k (fun K20 hK20 => ?_)
  refine wl_region ?_
  refine wl_give rfl (g_move _ (.pointer (some ⟨p7, 0, none⟩)) rfl ?_)
  (try simp only [Act.put, st_a, st_0, st_s])
  refine wl_give rfl (g_call 15 _ _ [.pointer (some ⟨p7, 0, none⟩), .int .i64 (15), .string (⟨#[108, 97, 116, 101]⟩)] (kf15 _ _) rfl ((send_any (show Ms w w19 [sn p7 (k1) (plA) (3), blk (w17.heap.size) (pkc (3) (⟨#[116, 104, 114, 101, 101]⟩) (Gb) (1) (Ka)) 44, blk (w13.heap.size) (pkc (1) (⟨#[111, 110, 101]⟩) (Ga) (0) (zk)) 44, blk (w.heap.size) (plc (plA)) 25] from (hM.up 1 rfl)) hT (15) ⟨by decide, by decide⟩ (⟨#[108, 97, 116, 101]⟩) (0) (⟨#[]⟩) (⟨#[]⟩) (0) (zk) (14) (3) hS3).mono ?_))
  rintro e w21 ⟨rfl, h_⟩
  refine ⟨_, rfl, ?_⟩
  replace hM : Ms w w21 [sn p7 (k1) (plA) (3), blk (w17.heap.size) (pkc (3) (⟨#[116, 104, 114, 101, 101]⟩) (Gb) (1) (Ka)) 44, blk (w13.heap.size) (pkc (1) (⟨#[111, 110, 101]⟩) (Ga) (0) (zk)) 44, blk (w.heap.size) (plc (plA)) 25] := h_
  clear h_
  (try simp only [Act.put, st_a, st_0, st_s])
  refine wl_give rfl (g_move _ (.tuple #[.agg (pkc (0) (⟨#[]⟩) (⟨#[]⟩) (0) (zk)).toArray, .int .i64 (14)]) rfl ?_)
  (try simp only [Act.put, st_a, st_0, st_s])
  refine wl_give rfl (g_extract _ #[.agg (pkc (0) (⟨#[]⟩) (⟨#[]⟩) (0) (zk)).toArray, .int .i64 (14)] 0 (.agg (pkc (0) (⟨#[]⟩) (⟨#[]⟩) (0) (zk)).toArray) rfl rfl ?_)
  (try simp only [Act.put, st_a, st_0, st_s])
  refine wl_give rfl (g_extract _ #[.agg (pkc (0) (⟨#[]⟩) (⟨#[]⟩) (0) (zk)).toArray, .int .i64 (14)] 1 (.int .i64 (14)) rfl rfl ?_)
  (try simp only [Act.put, st_a, st_0, st_s])
  refine wl_give rfl (g_alloc 44 (pkc (0) (⟨#[]⟩) (⟨#[]⟩) (0) (zk)) zeroPk ?_)
  intro w22 t_ b_
  replace hM := hM.new t_ b_
  clear t_ b_
  (try simp only [Act.put, st_a, st_0, st_s])
  refine wl_give rfl (g_store_all 44 _ _ (w21.heap.size) (pkc (0) (⟨#[]⟩) (⟨#[]⟩) (0) (zk)) _ 44 rfl rfl (hM.get 0 rfl) (szPk _ _ _ _ _) (kk2_len _ _ _ _ _ _ _ _ _ _) (one_pkc _ _ _ _ _) ?_)
  intro w23 t_ b_
  replace hM : Ms w w23 [blk (w21.heap.size) (pkc (0) (⟨#[]⟩) (⟨#[]⟩) (0) (zk)) 44, sn p7 (k1) (plA) (3), blk (w17.heap.size) (pkc (3) (⟨#[116, 104, 114, 101, 101]⟩) (Gb) (1) (Ka)) 44, blk (w13.heap.size) (pkc (1) (⟨#[111, 110, 101]⟩) (Ga) (0) (zk)) 44, blk (w.heap.size) (plc (plA)) 25] := hM.put 0 rfl t_ b_
  clear t_ b_
  (try simp only [Act.put, st_a, st_0, st_s])
  refine wl_give rfl (g_assign _ (.int .i64 (14)) rfl ?_)
  (try simp only [Act.put, st_a, st_0, st_s])
  refine wl_nil ?_
  refine hK20 _ _ ?_
  (try clear hK20 K20)
  refine wp_seq_k (fun K24 hK24 => ?_)
  refine wl_region ?_
  refine wl_give rfl (g_move _ (.pointer (some ⟨p7, 0, none⟩)) rfl ?_)
  (try simp only [Act.put, st_a, st_0, st_s])
  refine wl_give rfl (g_call 15 _ _ [.pointer (some ⟨p7, 0, none⟩), .int .i64 (50), .string (⟨#[110, 111, 110, 101]⟩)] (kf15 _ _) rfl ((send_any (show Ms w w23 [sn p7 (k1) (plA) (3), blk (w21.heap.size) (pkc (0) (⟨#[]⟩) (⟨#[]⟩) (0) (zk)) 44, blk (w17.heap.size) (pkc (3) (⟨#[116, 104, 114, 101, 101]⟩) (Gb) (1) (Ka)) 44, blk (w13.heap.size) (pkc (1) (⟨#[111, 110, 101]⟩) (Ga) (0) (zk)) 44, blk (w.heap.size) (plc (plA)) 25] from (hM.up 1 rfl)) hT (50) ⟨by decide, by decide⟩ (⟨#[110, 111, 110, 101]⟩) (0) (⟨#[]⟩) (⟨#[]⟩) (0) (zk) (10) (3) hS4).mono ?_))
  rintro e w25 ⟨rfl, h_⟩
  refine ⟨_, rfl, ?_⟩
  replace hM : Ms w w25 [sn p7 (k1) (plA) (3), blk (w21.heap.size) (pkc (0) (⟨#[]⟩) (⟨#[]⟩) (0) (zk)) 44, blk (w17.heap.size) (pkc (3) (⟨#[116, 104, 114, 101, 101]⟩) (Gb) (1) (Ka)) 44, blk (w13.heap.size) (pkc (1) (⟨#[111, 110, 101]⟩) (Ga) (0) (zk)) 44, blk (w.heap.size) (plc (plA)) 25] := h_
  clear h_
  (try simp only [Act.put, st_a, st_0, st_s])
  refine wl_give rfl (g_move _ (.tuple #[.agg (pkc (0) (⟨#[]⟩) (⟨#[]⟩) (0) (zk)).toArray, .int .i64 (10)]) rfl ?_)
  (try simp only [Act.put, st_a, st_0, st_s])
  refine wl_give rfl (g_extract _ #[.agg (pkc (0) (⟨#[]⟩) (⟨#[]⟩) (0) (zk)).toArray, .int .i64 (10)] 0 (.agg (pkc (0) (⟨#[]⟩) (⟨#[]⟩) (0) (zk)).toArray) rfl rfl ?_)
  (try simp only [Act.put, st_a, st_0, st_s])
  refine wl_give rfl (g_extract _ #[.agg (pkc (0) (⟨#[]⟩) (⟨#[]⟩) (0) (zk)).toArray, .int .i64 (10)] 1 (.int .i64 (10)) rfl rfl ?_)
  (try simp only [Act.put, st_a, st_0, st_s])
  refine wl_give rfl (g_alloc 44 (pkc (0) (⟨#[]⟩) (⟨#[]⟩) (0) (zk)) zeroPk ?_)
  intro w26 t_ b_
  replace hM := hM.new t_ b_
  clear t_ b_
  (try simp only [Act.put, st_a, st_0, st_s])
  refine wl_give rfl (g_store_all 44 _ _ (w25.heap.size) (pkc (0) (⟨#[]⟩) (⟨#[]⟩) (0) (zk)) _ 44 rfl rfl (hM.get 0 rfl) (szPk _ _ _ _ _) (kk2_len _ _ _ _ _ _ _ _ _ _) (one_pkc _ _ _ _ _) ?_)
  intro w27 t_ b_
  replace hM : Ms w w27 [blk (w25.heap.size) (pkc (0) (⟨#[]⟩) (⟨#[]⟩) (0) (zk)) 44, sn p7 (k1) (plA) (3), blk (w21.heap.size) (pkc (0) (⟨#[]⟩) (⟨#[]⟩) (0) (zk)) 44, blk (w17.heap.size) (pkc (3) (⟨#[116, 104, 114, 101, 101]⟩) (Gb) (1) (Ka)) 44, blk (w13.heap.size) (pkc (1) (⟨#[111, 110, 101]⟩) (Ga) (0) (zk)) 44, blk (w.heap.size) (plc (plA)) 25] := hM.put 0 rfl t_ b_
  clear t_ b_
  (try simp only [Act.put, st_a, st_0, st_s])
  refine wl_give rfl (g_assign _ (.int .i64 (10)) rfl ?_)
  (try simp only [Act.put, st_a, st_0, st_s])
  refine wl_nil ?_
  refine hK24 _ _ ?_
  (try clear hK24 K24)
  refine wp_seq_k (fun K28 hK28 => ?_)
  refine wl_region ?_
  refine wl_give rfl (g_bldK1 ?_)
  (try simp only [Act.put, st_a, st_0, st_s])
  refine wl_give rfl (g_call 18 _ _ [.agg (kc (k1)).toArray, .int .i64 (5), .int .i64 (1)] (kf18 _ _) rfl ((rckey_any (k1) (5) (1) w27 (Ka) (0) hKa).mono ?_))
  rintro e w29 ⟨rfl, t_⟩
  refine ⟨_, rfl, ?_⟩
  replace hM := hM.call t_
  clear t_
  (try simp only [Act.put, st_a, st_0, st_s])
  refine wl_give rfl (g_move _ (.tuple #[.agg (kc (Ka)).toArray, .int .i64 (0)]) rfl ?_)
  (try simp only [Act.put, st_a, st_0, st_s])
  refine wl_give rfl (g_extract _ #[.agg (kc (Ka)).toArray, .int .i64 (0)] 0 (.agg (kc (Ka)).toArray) rfl rfl ?_)
  (try simp only [Act.put, st_a, st_0, st_s])
  refine wl_give rfl (g_extract _ #[.agg (kc (Ka)).toArray, .int .i64 (0)] 1 (.int .i64 (0)) rfl rfl ?_)
  (try simp only [Act.put, st_a, st_0, st_s])
  refine wl_give rfl (g_alloc 23 (kc (zk)) zeroK ?_)
  intro w30 t_ b_
  replace hM := hM.new t_ b_
  clear t_ b_
  (try simp only [Act.put, st_a, st_0, st_s])
  refine wl_give rfl (g_store_all 23 _ _ (w29.heap.size) (kc (Ka)) _ 23 rfl rfl (hM.get 0 rfl) (szK _) (kk_len _ _) (one_kc _) ?_)
  intro w31 t_ b_
  replace hM : Ms w w31 [blk (w29.heap.size) (kc (Ka)) 23, blk (w25.heap.size) (pkc (0) (⟨#[]⟩) (⟨#[]⟩) (0) (zk)) 44, sn p7 (k1) (plA) (3), blk (w21.heap.size) (pkc (0) (⟨#[]⟩) (⟨#[]⟩) (0) (zk)) 44, blk (w17.heap.size) (pkc (3) (⟨#[116, 104, 114, 101, 101]⟩) (Gb) (1) (Ka)) 44, blk (w13.heap.size) (pkc (1) (⟨#[111, 110, 101]⟩) (Ga) (0) (zk)) 44, blk (w.heap.size) (plc (plA)) 25] := hM.put 0 rfl t_ b_
  clear t_ b_
  (try simp only [Act.put, st_a, st_0, st_s])
  refine wl_give rfl (g_assign _ (.int .i64 (0)) rfl ?_)
  (try simp only [Act.put, st_a, st_0, st_s])
  refine wl_nil ?_
  refine hK28 _ _ ?_
  (try clear hK28 K28)
  refine wp_seq_k (fun K32 hK32 => ?_)
  refine wl_region ?_
  refine wl_give rfl (g_bldK1 ?_)
  (try simp only [Act.put, st_a, st_0, st_s])
  refine wl_give rfl (g_call 18 _ _ [.agg (kc (k1)).toArray, .int .i64 (5), .int .i64 (3)] (kf18 _ _) rfl ((rckey_any (k1) (5) (3) w31 (Kb) (0) hKb).mono ?_))
  rintro e w33 ⟨rfl, t_⟩
  refine ⟨_, rfl, ?_⟩
  replace hM := hM.call t_
  clear t_
  (try simp only [Act.put, st_a, st_0, st_s])
  refine wl_give rfl (g_move _ (.tuple #[.agg (kc (Kb)).toArray, .int .i64 (0)]) rfl ?_)
  (try simp only [Act.put, st_a, st_0, st_s])
  refine wl_give rfl (g_extract _ #[.agg (kc (Kb)).toArray, .int .i64 (0)] 0 (.agg (kc (Kb)).toArray) rfl rfl ?_)
  (try simp only [Act.put, st_a, st_0, st_s])
  refine wl_give rfl (g_extract _ #[.agg (kc (Kb)).toArray, .int .i64 (0)] 1 (.int .i64 (0)) rfl rfl ?_)
  (try simp only [Act.put, st_a, st_0, st_s])
  refine wl_give rfl (g_alloc 23 (kc (zk)) zeroK ?_)
  intro w34 t_ b_
  replace hM := hM.new t_ b_
  clear t_ b_
  (try simp only [Act.put, st_a, st_0, st_s])
  refine wl_give rfl (g_store_all 23 _ _ (w33.heap.size) (kc (Kb)) _ 23 rfl rfl (hM.get 0 rfl) (szK _) (kk_len _ _) (one_kc _) ?_)
  intro w35 t_ b_
  replace hM : Ms w w35 [blk (w33.heap.size) (kc (Kb)) 23, blk (w29.heap.size) (kc (Ka)) 23, blk (w25.heap.size) (pkc (0) (⟨#[]⟩) (⟨#[]⟩) (0) (zk)) 44, sn p7 (k1) (plA) (3), blk (w21.heap.size) (pkc (0) (⟨#[]⟩) (⟨#[]⟩) (0) (zk)) 44, blk (w17.heap.size) (pkc (3) (⟨#[116, 104, 114, 101, 101]⟩) (Gb) (1) (Ka)) 44, blk (w13.heap.size) (pkc (1) (⟨#[111, 110, 101]⟩) (Ga) (0) (zk)) 44, blk (w.heap.size) (plc (plA)) 25] := hM.put 0 rfl t_ b_
  clear t_ b_
  (try simp only [Act.put, st_a, st_0, st_s])
  refine wl_give rfl (g_assign _ (.int .i64 (0)) rfl ?_)
  (try simp only [Act.put, st_a, st_0, st_s])
  refine wl_nil ?_
  refine hK32 _ _ ?_
  (try clear hK32 K32)
  refine wp_seq_k (fun K36 hK36 => ?_)
  refine wl_region ?_
  refine wl_give rfl (g_bldK1 ?_)
  (try simp only [Act.put, st_a, st_0, st_s])
  refine wl_give rfl (g_call 18 _ _ [.agg (kc (k1)).toArray, .int .i64 (5), .int .i64 (0)] (kf18 _ _) rfl ((rckey_any (k1) (5) (0) w35 (Kc) (0) hKc).mono ?_))
  rintro e w37 ⟨rfl, t_⟩
  refine ⟨_, rfl, ?_⟩
  replace hM := hM.call t_
  clear t_
  (try simp only [Act.put, st_a, st_0, st_s])
  refine wl_give rfl (g_move _ (.tuple #[.agg (kc (Kc)).toArray, .int .i64 (0)]) rfl ?_)
  (try simp only [Act.put, st_a, st_0, st_s])
  refine wl_give rfl (g_extract _ #[.agg (kc (Kc)).toArray, .int .i64 (0)] 0 (.agg (kc (Kc)).toArray) rfl rfl ?_)
  (try simp only [Act.put, st_a, st_0, st_s])
  refine wl_give rfl (g_extract _ #[.agg (kc (Kc)).toArray, .int .i64 (0)] 1 (.int .i64 (0)) rfl rfl ?_)
  (try simp only [Act.put, st_a, st_0, st_s])
  refine wl_give rfl (g_alloc 23 (kc (zk)) zeroK ?_)
  intro w38 t_ b_
  replace hM := hM.new t_ b_
  clear t_ b_
  (try simp only [Act.put, st_a, st_0, st_s])
  refine wl_give rfl (g_store_all 23 _ _ (w37.heap.size) (kc (Kc)) _ 23 rfl rfl (hM.get 0 rfl) (szK _) (kk_len _ _) (one_kc _) ?_)
  intro w39 t_ b_
  replace hM : Ms w w39 [blk (w37.heap.size) (kc (Kc)) 23, blk (w33.heap.size) (kc (Kb)) 23, blk (w29.heap.size) (kc (Ka)) 23, blk (w25.heap.size) (pkc (0) (⟨#[]⟩) (⟨#[]⟩) (0) (zk)) 44, sn p7 (k1) (plA) (3), blk (w21.heap.size) (pkc (0) (⟨#[]⟩) (⟨#[]⟩) (0) (zk)) 44, blk (w17.heap.size) (pkc (3) (⟨#[116, 104, 114, 101, 101]⟩) (Gb) (1) (Ka)) 44, blk (w13.heap.size) (pkc (1) (⟨#[111, 110, 101]⟩) (Ga) (0) (zk)) 44, blk (w.heap.size) (plc (plA)) 25] := hM.put 0 rfl t_ b_
  clear t_ b_
  (try simp only [Act.put, st_a, st_0, st_s])
  refine wl_give rfl (g_assign _ (.int .i64 (0)) rfl ?_)
  (try simp only [Act.put, st_a, st_0, st_s])
  refine wl_nil ?_
  refine hK36 _ _ ?_
  (try clear hK36 K36)
  refine wp_seq_k (fun K40 hK40 => ?_)
  refine wl_region ?_
  refine wl_give rfl (g_move _ (.pointer (some ⟨p7, 0, none⟩)) rfl ?_)
  (try simp only [Act.put, st_a, st_0, st_s])
  refine wl_give rfl (g_call 13 _ _ [.pointer (some ⟨p7, 0, none⟩)] (kf13 _ _) rfl ((renew_yes (show Ms w w39 [sn p7 (k1) (plA) (3), blk (w37.heap.size) (kc (Kc)) 23, blk (w33.heap.size) (kc (Kb)) 23, blk (w29.heap.size) (kc (Ka)) 23, blk (w25.heap.size) (pkc (0) (⟨#[]⟩) (⟨#[]⟩) (0) (zk)) 44, blk (w21.heap.size) (pkc (0) (⟨#[]⟩) (⟨#[]⟩) (0) (zk)) 44, blk (w17.heap.size) (pkc (3) (⟨#[116, 104, 114, 101, 101]⟩) (Gb) (1) (Ka)) 44, blk (w13.heap.size) (pkc (1) (⟨#[111, 110, 101]⟩) (Ga) (0) (zk)) 44, blk (w.heap.size) (plc (plA)) 25] from (hM.up 4 rfl)) hT plB hB).mono ?_))
  rintro e w41 ⟨q42, rfl, h_⟩
  refine ⟨_, rfl, ?_⟩
  replace hM : Ms w w41 [sn q42 (tg k1 seedW) (plB) (0), sn p7 (k1) (plA) (3), blk (w37.heap.size) (kc (Kc)) 23, blk (w33.heap.size) (kc (Kb)) 23, blk (w29.heap.size) (kc (Ka)) 23, blk (w25.heap.size) (pkc (0) (⟨#[]⟩) (⟨#[]⟩) (0) (zk)) 44, blk (w21.heap.size) (pkc (0) (⟨#[]⟩) (⟨#[]⟩) (0) (zk)) 44, blk (w17.heap.size) (pkc (3) (⟨#[116, 104, 114, 101, 101]⟩) (Gb) (1) (Ka)) 44, blk (w13.heap.size) (pkc (1) (⟨#[111, 110, 101]⟩) (Ga) (0) (zk)) 44, blk (w.heap.size) (plc (plA)) 25] := h_
  clear h_
  (try simp only [Act.put, st_a, st_0, st_s])
  refine wl_give rfl (g_move _ (.tuple #[.pointer (some ⟨q42, 0, none⟩), .int .i64 (0)]) rfl ?_)
  (try simp only [Act.put, st_a, st_0, st_s])
  refine wl_give rfl (g_extract _ #[.pointer (some ⟨q42, 0, none⟩), .int .i64 (0)] 0 (.pointer (some ⟨q42, 0, none⟩)) rfl rfl ?_)
  (try simp only [Act.put, st_a, st_0, st_s])
  refine wl_give rfl (g_extract _ #[.pointer (some ⟨q42, 0, none⟩), .int .i64 (0)] 1 (.int .i64 (0)) rfl rfl ?_)
  (try simp only [Act.put, st_a, st_0, st_s])
  refine wl_give rfl (g_assign _ (.pointer (some ⟨q42, 0, none⟩)) rfl ?_)
  (try simp only [Act.put, st_a, st_0, st_s])
  refine wl_give rfl (g_assign _ (.int .i64 (0)) rfl ?_)
  (try simp only [Act.put, st_a, st_0, st_s])
  refine wl_nil ?_
  refine hK40 _ _ ?_
  (try clear hK40 K40)
  refine wp_seq_k (fun K43 hK43 => ?_)
  refine wp_seq_k (fun K44 hK44 => ?_)
  refine wl_region ?_
  refine wl_give rfl (g_move _ (.pointer (some ⟨q42, 0, none⟩)) rfl ?_)
  (try simp only [Act.put, st_a, st_0, st_s])
  refine wl_give rfl (g_peqS _ ((some ⟨q42, 0, none⟩)) false rfl rfl ?_)
  (try simp only [Act.put, st_a, st_0, st_s])
  refine wl_nil ?_
  refine hK44 _ _ ?_
  (try clear hK44 K44)
  refine wp_cond_false rfl ?_
  refine wp_skip ?_
  refine hK43 _ _ ?_
  (try clear hK43 K43)
  refine wp_seq_k (fun K45 hK45 => ?_)
  refine wl_region ?_
  refine wl_give rfl (g_move _ (.pointer (some ⟨q42, 0, none⟩)) rfl ?_)
  (try simp only [Act.put, st_a, st_0, st_s])
  refine wl_give rfl (g_call 15 _ _ [.pointer (some ⟨q42, 0, none⟩), .int .i64 (49), .string (⟨#[97, 104, 101, 97, 100]⟩)] (kf15 _ _) rfl ((send_any hM hT (49) ⟨by decide, by decide⟩ (⟨#[97, 104, 101, 97, 100]⟩) (0) (⟨#[]⟩) (⟨#[]⟩) (0) (zk) (15) (0) hS5).mono ?_))
  rintro e w46 ⟨rfl, h_⟩
  refine ⟨_, rfl, ?_⟩
  replace hM : Ms w w46 [sn q42 (tg k1 seedW) (plB) (0), sn p7 (k1) (plA) (3), blk (w37.heap.size) (kc (Kc)) 23, blk (w33.heap.size) (kc (Kb)) 23, blk (w29.heap.size) (kc (Ka)) 23, blk (w25.heap.size) (pkc (0) (⟨#[]⟩) (⟨#[]⟩) (0) (zk)) 44, blk (w21.heap.size) (pkc (0) (⟨#[]⟩) (⟨#[]⟩) (0) (zk)) 44, blk (w17.heap.size) (pkc (3) (⟨#[116, 104, 114, 101, 101]⟩) (Gb) (1) (Ka)) 44, blk (w13.heap.size) (pkc (1) (⟨#[111, 110, 101]⟩) (Ga) (0) (zk)) 44, blk (w.heap.size) (plc (plA)) 25] := h_
  clear h_
  (try simp only [Act.put, st_a, st_0, st_s])
  refine wl_give rfl (g_move _ (.tuple #[.agg (pkc (0) (⟨#[]⟩) (⟨#[]⟩) (0) (zk)).toArray, .int .i64 (15)]) rfl ?_)
  (try simp only [Act.put, st_a, st_0, st_s])
  refine wl_give rfl (g_extract _ #[.agg (pkc (0) (⟨#[]⟩) (⟨#[]⟩) (0) (zk)).toArray, .int .i64 (15)] 0 (.agg (pkc (0) (⟨#[]⟩) (⟨#[]⟩) (0) (zk)).toArray) rfl rfl ?_)
  (try simp only [Act.put, st_a, st_0, st_s])
  refine wl_give rfl (g_extract _ #[.agg (pkc (0) (⟨#[]⟩) (⟨#[]⟩) (0) (zk)).toArray, .int .i64 (15)] 1 (.int .i64 (15)) rfl rfl ?_)
  (try simp only [Act.put, st_a, st_0, st_s])
  refine wl_give rfl (g_alloc 44 (pkc (0) (⟨#[]⟩) (⟨#[]⟩) (0) (zk)) zeroPk ?_)
  intro w47 t_ b_
  replace hM := hM.new t_ b_
  clear t_ b_
  (try simp only [Act.put, st_a, st_0, st_s])
  refine wl_give rfl (g_store_all 44 _ _ (w46.heap.size) (pkc (0) (⟨#[]⟩) (⟨#[]⟩) (0) (zk)) _ 44 rfl rfl (hM.get 0 rfl) (szPk _ _ _ _ _) (kk2_len _ _ _ _ _ _ _ _ _ _) (one_pkc _ _ _ _ _) ?_)
  intro w48 t_ b_
  replace hM : Ms w w48 [blk (w46.heap.size) (pkc (0) (⟨#[]⟩) (⟨#[]⟩) (0) (zk)) 44, sn q42 (tg k1 seedW) (plB) (0), sn p7 (k1) (plA) (3), blk (w37.heap.size) (kc (Kc)) 23, blk (w33.heap.size) (kc (Kb)) 23, blk (w29.heap.size) (kc (Ka)) 23, blk (w25.heap.size) (pkc (0) (⟨#[]⟩) (⟨#[]⟩) (0) (zk)) 44, blk (w21.heap.size) (pkc (0) (⟨#[]⟩) (⟨#[]⟩) (0) (zk)) 44, blk (w17.heap.size) (pkc (3) (⟨#[116, 104, 114, 101, 101]⟩) (Gb) (1) (Ka)) 44, blk (w13.heap.size) (pkc (1) (⟨#[111, 110, 101]⟩) (Ga) (0) (zk)) 44, blk (w.heap.size) (plc (plA)) 25] := hM.put 0 rfl t_ b_
  clear t_ b_
  (try simp only [Act.put, st_a, st_0, st_s])
  refine wl_give rfl (g_assign _ (.int .i64 (15)) rfl ?_)
  (try simp only [Act.put, st_a, st_0, st_s])
  refine wl_nil ?_
  refine hK45 _ _ ?_
  (try clear hK45 K45)
  refine wp_seq_k (fun K49 hK49 => ?_)
  (try simp only [List.append_eq, List.cons_append, List.nil_append])
  refine wp_region_fixed (by kernel_rfl) (by kernel_rfl) [.int .i64 (0), .bool true, .bool true, .int .i64 (1), .bool true, .bool true, .bool true, .int .i64 (0), .bool true, .bool true, .bool true, .pointer (some ⟨w13.heap.size, 0, none⟩), .int .i64 (1), .bool true, .bool true, .bool true, .pointer (some ⟨w13.heap.size, 3, none⟩), .int .i64 (0), .bool true, .bool true, .bool true, .pointer (some ⟨w13.heap.size, 2, none⟩), .string (Ga), .agg (kc (Ka)).toArray, .string (Ga), .bool true, .bool true, .bool true, .int .i64 (0), .bool true, .bool true, .bool true, .pointer (some ⟨w17.heap.size, 0, none⟩), .int .i64 (3), .bool true, .bool true, .bool true, .pointer (some ⟨w17.heap.size, 3, none⟩), .int .i64 (1), .bool true, .bool true, .bool true, .pointer (some ⟨w17.heap.size, 4, none⟩), .agg (kc (Ka)).toArray, .agg (kc (Ka)).toArray, .bool true, .bool true, .bool true, .agg (kc (Kb)).toArray, .agg (pkc (3) (⟨#[116, 104, 114, 101, 101]⟩) (Gb) (1) (Ka)).toArray, .bool true, .bool true, .bool true, .agg (kc (Kb)).toArray, .agg (pkc (1) (⟨#[111, 110, 101]⟩) (Ga) (0) (zk)).toArray, .bool false, .bool true, .bool true, .bool true, .int .i64 (14), .bool true, .bool true, .bool true, .int .i64 (10), .bool true, .bool true, .bool true, .pointer (some ⟨p7, 0, none⟩), .agg (kc (Kc)).toArray, .agg (kc (Kc)).toArray, .bool true, .bool true, .bool true, .pointer (some ⟨p7, 0, none⟩), .int .i64 (3), .bool true, .bool true, .bool true, .int .i64 (0), .bool true, .bool true, .bool true, .int .i64 (15), .bool true, .bool true, .bool true, .agg (kc (Ka)).toArray, .string (Ga), .pointer (some ⟨w13.heap.size, 2, none⟩), .string (Ga), .bool true, .bool true, .bool true] (by rfl) (fun wx => Ms w wx [blk (w46.heap.size) (pkc (0) (⟨#[]⟩) (⟨#[]⟩) (0) (zk)) 44, sn q42 (tg k1 seedW) (plB) (0), sn p7 (k1) (plA) (3), blk (w37.heap.size) (kc (Kc)) 23, blk (w33.heap.size) (kc (Kb)) 23, blk (w29.heap.size) (kc (Ka)) 23, blk (w25.heap.size) (pkc (0) (⟨#[]⟩) (⟨#[]⟩) (0) (zk)) 44, blk (w21.heap.size) (pkc (0) (⟨#[]⟩) (⟨#[]⟩) (0) (zk)) 44, blk (w17.heap.size) (pkc (3) (⟨#[116, 104, 114, 101, 101]⟩) (Gb) (1) (Ka)) 44, blk (w13.heap.size) (pkc (1) (⟨#[111, 110, 101]⟩) (Ga) (0) (zk)) 44, blk (w.heap.size) (plc (plA)) 25]) hM.drew ?_ ?_
  · simp only [fullL, Act.put, st_a, st_s, st_0]
    refine ⟨?_, ?_, ?_, ?_, ?_, ?_, ?_, ?_, ?_, ?_, ?_, ?_, ?_, ?_, ?_, ?_, ?_, ?_, ?_, ?_, ?_, ?_, ?_, ?_, ?_, ?_, ?_, ?_, ?_, ?_, ?_, ?_, ?_, ?_, ?_, ?_, ?_, ?_, ?_, ?_, ?_, ?_, ?_, ?_, ?_, ?_, ?_, ?_, ?_, ?_, ?_, ?_, ?_, ?_, ?_, ?_, ?_, ?_, ?_, ?_, ?_, ?_, ?_, ?_, ?_, ?_, ?_, ?_, ?_, ?_, ?_, ?_, ?_, ?_, ?_, ?_, ?_, ?_, ?_, ?_, ?_, ?_, ?_, ?_, ?_, ?_, ?_, ?_, ?_, ?_, ?_, ?_, ?_, trivial⟩
    · exact fun wx hM => gw rfl (g_move _ (.int .i64 (0)) rfl ⟨rfl, hM⟩)
    · exact fun wx hM => gw rfl (g_ieq 29 _ _ .i64 (0) (0) true rfl rfl (by decide) ⟨rfl, hM⟩)
    · exact fun wx hM => gw rfl (g_move _ (.bool true) rfl ⟨rfl, hM⟩)
    · exact fun wx hM => gw rfl (g_move _ (.int .i64 (1)) rfl ⟨rfl, hM⟩)
    · exact fun wx hM => gw rfl (g_ieq 29 _ _ .i64 (1) (1) true rfl rfl (by decide) ⟨rfl, hM⟩)
    · exact fun wx hM => gw rfl (g_pickt _ _ _ (.bool true) rfl rfl ⟨rfl, hM⟩)
    · exact fun wx hM => gw rfl (g_move _ (.bool true) rfl ⟨rfl, hM⟩)
    · exact fun wx hM => gw rfl (g_move _ (.int .i64 (0)) rfl ⟨rfl, hM⟩)
    · exact fun wx hM => gw rfl (g_ieq 29 _ _ .i64 (0) (0) true rfl rfl (by decide) ⟨rfl, hM⟩)
    · exact fun wx hM => gw rfl (g_pickt _ _ _ (.bool true) rfl rfl ⟨rfl, hM⟩)
    · exact fun wx hM => gw rfl (g_move _ (.bool true) rfl ⟨rfl, hM⟩)
    · exact fun wx hM => gw rfl (g_fa 44 _ (w13.heap.size) (0) (0) 0 rfl (faPk0 _ _ _) ⟨rfl, hM⟩)
    · exact fun wx hM => gw rfl (g_ld1 3 _ (w13.heap.size) (0) _ rfl (ld3 _ _ _ _ ((hM.get 9 rfl).cell (0) _ (rfl))) ⟨rfl, hM⟩)
    · exact fun wx hM => gw rfl (g_ieq 3 _ _ .i64 (1) (1) true rfl rfl (by decide) ⟨rfl, hM⟩)
    · exact fun wx hM => gw rfl (g_pickt _ _ _ (.bool true) rfl rfl ⟨rfl, hM⟩)
    · exact fun wx hM => gw rfl (g_move _ (.bool true) rfl ⟨rfl, hM⟩)
    · exact fun wx hM => gw rfl (g_fa 44 _ (w13.heap.size) (0) (3) 3 rfl (faPk3 _ _ _) ⟨rfl, hM⟩)
    · exact fun wx hM => gw rfl (g_ld1 3 _ (w13.heap.size) (3) _ rfl (ld3 _ _ _ _ ((hM.get 9 rfl).cell (3) _ (rfl))) ⟨rfl, hM⟩)
    · exact fun wx hM => gw rfl (g_ieq 3 _ _ .i64 (0) (0) true rfl rfl (by decide) ⟨rfl, hM⟩)
    · exact fun wx hM => gw rfl (g_pickt _ _ _ (.bool true) rfl rfl ⟨rfl, hM⟩)
    · exact fun wx hM => gw rfl (g_move _ (.bool true) rfl ⟨rfl, hM⟩)
    · exact fun wx hM => gw rfl (g_fa 44 _ (w13.heap.size) (0) (2) 2 rfl (faPk2 _ _ _) ⟨rfl, hM⟩)
    · exact fun wx hM => gw rfl (g_ld1 9 _ (w13.heap.size) (2) _ rfl (ld9 _ _ _ _ ((hM.get 9 rfl).cell (2) _ (rfl))) ⟨rfl, hM⟩)
    · exact fun wx hM => gw rfl (g_load_all 23 _ (w29.heap.size) (kc (Ka)) 23 _ rfl (hM.get 5 rfl) Tryd.underlying23 rfl (szK _) ⟨rfl, hM⟩)
    · exact fun wx hM => gw rfl (g_call 20 _ _ [.agg (kc (Ka)).toArray, .int .i64 (1), .string (⟨#[111, 110, 101]⟩)] (kf20 _ _) rfl ((rtagS_any Ka 1 ⟨#[111, 110, 101]⟩ wx (by decide) Ga hGa).mono (fun _ _ ⟨h1_, h2_⟩ => ⟨_, h1_, rfl, hM.call h2_⟩)))
    · exact fun wx hM => gw rfl (g_seql 9 _ _ (Ga) rfl rfl ⟨rfl, hM⟩)
    · exact fun wx hM => gw rfl (g_pickt _ _ _ (.bool true) rfl rfl ⟨rfl, hM⟩)
    · exact fun wx hM => gw rfl (g_move _ (.bool true) rfl ⟨rfl, hM⟩)
    · exact fun wx hM => gw rfl (g_move _ (.int .i64 (0)) rfl ⟨rfl, hM⟩)
    · exact fun wx hM => gw rfl (g_ieq 29 _ _ .i64 (0) (0) true rfl rfl (by decide) ⟨rfl, hM⟩)
    · exact fun wx hM => gw rfl (g_pickt _ _ _ (.bool true) rfl rfl ⟨rfl, hM⟩)
    · exact fun wx hM => gw rfl (g_move _ (.bool true) rfl ⟨rfl, hM⟩)
    · exact fun wx hM => gw rfl (g_fa 44 _ (w17.heap.size) (0) (0) 0 rfl (faPk0 _ _ _) ⟨rfl, hM⟩)
    · exact fun wx hM => gw rfl (g_ld1 3 _ (w17.heap.size) (0) _ rfl (ld3 _ _ _ _ ((hM.get 8 rfl).cell (0) _ (rfl))) ⟨rfl, hM⟩)
    · exact fun wx hM => gw rfl (g_ieq 3 _ _ .i64 (3) (3) true rfl rfl (by decide) ⟨rfl, hM⟩)
    · exact fun wx hM => gw rfl (g_pickt _ _ _ (.bool true) rfl rfl ⟨rfl, hM⟩)
    · exact fun wx hM => gw rfl (g_move _ (.bool true) rfl ⟨rfl, hM⟩)
    · exact fun wx hM => gw rfl (g_fa 44 _ (w17.heap.size) (0) (3) 3 rfl (faPk3 _ _ _) ⟨rfl, hM⟩)
    · exact fun wx hM => gw rfl (g_ld1 3 _ (w17.heap.size) (3) _ rfl (ld3 _ _ _ _ ((hM.get 8 rfl).cell (3) _ (rfl))) ⟨rfl, hM⟩)
    · exact fun wx hM => gw rfl (g_ieq 3 _ _ .i64 (1) (1) true rfl rfl (by decide) ⟨rfl, hM⟩)
    · exact fun wx hM => gw rfl (g_pickt _ _ _ (.bool true) rfl rfl ⟨rfl, hM⟩)
    · exact fun wx hM => gw rfl (g_move _ (.bool true) rfl ⟨rfl, hM⟩)
    · exact fun wx hM => gw rfl (g_fa 44 _ (w17.heap.size) (0) (4) 4 rfl (faPk4 _ _ _) ⟨rfl, hM⟩)
    · exact fun wx hM => gw rfl (g_load 23 _ (w17.heap.size) (4) 32 _ 44 _ rfl (hM.get 8 rfl) Tryd.underlying23 rfl size23 (by rw [pkc_length]; decide) (kc (Ka)) (pk_key (Ka) (3) (⟨#[116, 104, 114, 101, 101]⟩) (Gb) (1)) ⟨rfl, hM⟩)
    · exact fun wx hM => gw rfl (g_load_all 23 _ (w29.heap.size) (kc (Ka)) 23 _ rfl (hM.get 5 rfl) Tryd.underlying23 rfl (szK _) ⟨rfl, hM⟩)
    · exact fun wx hM => gw rfl (g_eqlK _ _ (Ka) (Ka) true rfl rfl (decide_eq_true rfl) ⟨rfl, hM⟩)
    · exact fun wx hM => gw rfl (g_pickt _ _ _ (.bool true) rfl rfl ⟨rfl, hM⟩)
    · exact fun wx hM => gw rfl (g_move _ (.bool true) rfl ⟨rfl, hM⟩)
    · exact fun wx hM => gw rfl (g_load_all 23 _ (w33.heap.size) (kc (Kb)) 23 _ rfl (hM.get 4 rfl) Tryd.underlying23 rfl (szK _) ⟨rfl, hM⟩)
    · exact fun wx hM => gw rfl (g_load_all 44 _ (w17.heap.size) (pkc (3) (⟨#[116, 104, 114, 101, 101]⟩) (Gb) (1) (Ka)) 44 _ rfl (hM.get 8 rfl) Tryd.underlying44 rfl (szPk _ _ _ _ _) ⟨rfl, hM⟩)
    · exact fun wx hM => gw rfl (g_call 22 _ _ [.agg (kc (Kb)).toArray, .agg (pkc (3) (⟨#[116, 104, 114, 101, 101]⟩) (Gb) (1) (Ka)).toArray] (kf22 _ _) rfl ((sright_any Kb 3 ⟨#[116, 104, 114, 101, 101]⟩ Gb 1 Ka wx (hM.tabs hT) (by decide) hGs true hRb).mono (fun _ _ ⟨h1_, h2_⟩ => ⟨_, h1_, rfl, hM.call h2_⟩)))
    · exact fun wx hM => gw rfl (g_pickt _ _ _ (.bool true) rfl rfl ⟨rfl, hM⟩)
    · exact fun wx hM => gw rfl (g_move _ (.bool true) rfl ⟨rfl, hM⟩)
    · exact fun wx hM => gw rfl (g_load_all 23 _ (w33.heap.size) (kc (Kb)) 23 _ rfl (hM.get 4 rfl) Tryd.underlying23 rfl (szK _) ⟨rfl, hM⟩)
    · exact fun wx hM => gw rfl (g_load_all 44 _ (w13.heap.size) (pkc (1) (⟨#[111, 110, 101]⟩) (Ga) (0) (zk)) 44 _ rfl (hM.get 9 rfl) Tryd.underlying44 rfl (szPk _ _ _ _ _) ⟨rfl, hM⟩)
    · exact fun wx hM => gw rfl (g_call 22 _ _ [.agg (kc (Kb)).toArray, .agg (pkc (1) (⟨#[111, 110, 101]⟩) (Ga) (0) (zk)).toArray] (kf22 _ _) rfl ((sright_any Kb 1 ⟨#[111, 110, 101]⟩ Ga 0 zk wx (hM.tabs hT) (by decide) hGs2 false hRa).mono (fun _ _ ⟨h1_, h2_⟩ => ⟨_, h1_, rfl, hM.call h2_⟩)))
    · exact fun wx hM => gw rfl (g_unot 4 _ false rfl ⟨rfl, hM⟩)
    · exact fun wx hM => gw rfl (g_pickt _ _ _ (.bool true) rfl rfl ⟨rfl, hM⟩)
    · exact fun wx hM => gw rfl (g_move _ (.bool true) rfl ⟨rfl, hM⟩)
    · exact fun wx hM => gw rfl (g_move _ (.int .i64 (14)) rfl ⟨rfl, hM⟩)
    · exact fun wx hM => gw rfl (g_ieq 29 _ _ .i64 (14) (14) true rfl rfl (by decide) ⟨rfl, hM⟩)
    · exact fun wx hM => gw rfl (g_pickt _ _ _ (.bool true) rfl rfl ⟨rfl, hM⟩)
    · exact fun wx hM => gw rfl (g_move _ (.bool true) rfl ⟨rfl, hM⟩)
    · exact fun wx hM => gw rfl (g_move _ (.int .i64 (10)) rfl ⟨rfl, hM⟩)
    · exact fun wx hM => gw rfl (g_ieq 29 _ _ .i64 (10) (10) true rfl rfl (by decide) ⟨rfl, hM⟩)
    · exact fun wx hM => gw rfl (g_pickt _ _ _ (.bool true) rfl rfl ⟨rfl, hM⟩)
    · exact fun wx hM => gw rfl (g_move _ (.bool true) rfl ⟨rfl, hM⟩)
    · exact fun wx hM => gw rfl (g_move _ (.pointer (some ⟨p7, 0, none⟩)) rfl ⟨rfl, hM⟩)
    · exact fun wx hM => gw rfl (g_call 19 _ _ [.pointer (some ⟨p7, 0, none⟩)] (kf19 _ _) rfl ((known_v (show Ms w wx [sn p7 (k1) (plA) (3), blk (w46.heap.size) (pkc (0) (⟨#[]⟩) (⟨#[]⟩) (0) (zk)) 44, sn q42 (tg k1 seedW) (plB) (0), blk (w37.heap.size) (kc (Kc)) 23, blk (w33.heap.size) (kc (Kb)) 23, blk (w29.heap.size) (kc (Ka)) 23, blk (w25.heap.size) (pkc (0) (⟨#[]⟩) (⟨#[]⟩) (0) (zk)) 44, blk (w21.heap.size) (pkc (0) (⟨#[]⟩) (⟨#[]⟩) (0) (zk)) 44, blk (w17.heap.size) (pkc (3) (⟨#[116, 104, 114, 101, 101]⟩) (Gb) (1) (Ka)) 44, blk (w13.heap.size) (pkc (1) (⟨#[111, 110, 101]⟩) (Ga) (0) (zk)) 44, blk (w.heap.size) (plc (plA)) 25] from (hM.up 2 rfl)) (Kc) hKn).mono (fun _ _ ⟨h1_, h2_⟩ => ⟨_, h1_, rfl, hM.call h2_⟩)))
    · exact fun wx hM => gw rfl (g_load_all 23 _ (w37.heap.size) (kc (Kc)) 23 _ rfl (hM.get 3 rfl) Tryd.underlying23 rfl (szK _) ⟨rfl, hM⟩)
    · exact fun wx hM => gw rfl (g_eqlK _ _ (Kc) (Kc) true rfl rfl (decide_eq_true rfl) ⟨rfl, hM⟩)
    · exact fun wx hM => gw rfl (g_pickt _ _ _ (.bool true) rfl rfl ⟨rfl, hM⟩)
    · exact fun wx hM => gw rfl (g_move _ (.bool true) rfl ⟨rfl, hM⟩)
    · exact fun wx hM => gw rfl (g_move _ (.pointer (some ⟨p7, 0, none⟩)) rfl ⟨rfl, hM⟩)
    · exact fun wx hM => gw rfl (g_call 17 _ _ [.pointer (some ⟨p7, 0, none⟩)] (kf17 _ _) rfl ((last_any (show Ms w wx [sn p7 (k1) (plA) (3), blk (w46.heap.size) (pkc (0) (⟨#[]⟩) (⟨#[]⟩) (0) (zk)) 44, sn q42 (tg k1 seedW) (plB) (0), blk (w37.heap.size) (kc (Kc)) 23, blk (w33.heap.size) (kc (Kb)) 23, blk (w29.heap.size) (kc (Ka)) 23, blk (w25.heap.size) (pkc (0) (⟨#[]⟩) (⟨#[]⟩) (0) (zk)) 44, blk (w21.heap.size) (pkc (0) (⟨#[]⟩) (⟨#[]⟩) (0) (zk)) 44, blk (w17.heap.size) (pkc (3) (⟨#[116, 104, 114, 101, 101]⟩) (Gb) (1) (Ka)) 44, blk (w13.heap.size) (pkc (1) (⟨#[111, 110, 101]⟩) (Ga) (0) (zk)) 44, blk (w.heap.size) (plc (plA)) 25] from (hM.up 2 rfl))).mono (fun _ _ ⟨h1_, h2_⟩ => ⟨_, h1_, rfl, hM.call h2_⟩)))
    · exact fun wx hM => gw rfl (g_ieq 3 _ _ .i64 (3) (3) true rfl rfl (by decide) ⟨rfl, hM⟩)
    · exact fun wx hM => gw rfl (g_pickt _ _ _ (.bool true) rfl rfl ⟨rfl, hM⟩)
    · exact fun wx hM => gw rfl (g_move _ (.bool true) rfl ⟨rfl, hM⟩)
    · exact fun wx hM => gw rfl (g_move _ (.int .i64 (0)) rfl ⟨rfl, hM⟩)
    · exact fun wx hM => gw rfl (g_ieq 29 _ _ .i64 (0) (0) true rfl rfl (by decide) ⟨rfl, hM⟩)
    · exact fun wx hM => gw rfl (g_pickt _ _ _ (.bool true) rfl rfl ⟨rfl, hM⟩)
    · exact fun wx hM => gw rfl (g_move _ (.bool true) rfl ⟨rfl, hM⟩)
    · exact fun wx hM => gw rfl (g_move _ (.int .i64 (15)) rfl ⟨rfl, hM⟩)
    · exact fun wx hM => gw rfl (g_ieq 29 _ _ .i64 (15) (15) true rfl rfl (by decide) ⟨rfl, hM⟩)
    · exact fun wx hM => gw rfl (g_pickt _ _ _ (.bool true) rfl rfl ⟨rfl, hM⟩)
    · exact fun wx hM => gw rfl (g_move _ (.bool true) rfl ⟨rfl, hM⟩)
    · exact fun wx hM => gw rfl (g_load_all 23 _ (w29.heap.size) (kc (Ka)) 23 _ rfl (hM.get 5 rfl) Tryd.underlying23 rfl (szK _) ⟨rfl, hM⟩)
    · exact fun wx hM => gw rfl (g_call 21 _ _ [.agg (kc (Ka)).toArray, .int .i64 (1), .string (⟨#[111, 110, 101]⟩)] (kf21 _ _) rfl ((tagS_any Ka 1 ⟨#[111, 110, 101]⟩ wx (hM.tabs hT) (by decide) Ga hGa).mono (fun _ _ ⟨h1_, h2_⟩ => ⟨_, h1_, rfl, hM.call h2_⟩)))
    · exact fun wx hM => gw rfl (g_fa 44 _ (w13.heap.size) (0) (2) 2 rfl (faPk2 _ _ _) ⟨rfl, hM⟩)
    · exact fun wx hM => gw rfl (g_ld1 9 _ (w13.heap.size) (2) _ rfl (ld9 _ _ _ _ ((hM.get 9 rfl).cell (2) _ (rfl))) ⟨rfl, hM⟩)
    · exact fun wx hM => gw rfl (g_seql 9 _ _ (Ga) rfl rfl ⟨rfl, hM⟩)
    · exact fun wx hM => gw rfl (g_pickt _ _ _ (.bool true) rfl rfl ⟨rfl, hM⟩)
    · exact fun wx hM => gw rfl (g_assign _ (.bool true) rfl ⟨rfl, hM⟩)
  · simp only [fullL, Act.put, st_a, st_s, st_0]
    intro w50 hM
    refine hK49 _ _ ?_
    (try clear hK49 K49)
    refine wp_ret ?_
    go_ret
    exact ⟨rfl, hM.below⟩
theorem sdA_ok (s : Ky) (P : Pl) (l t i T : Int) (x : ByteArray) (h1 : pat P t = (i, 0)) (h2 : l ≤ i) (h3 : x.size ≤ 1000) (h4 : pte P i = T) : sdA s P l t x = ((⟨i, x, tgs (kyk s P i) i x, T, if 0 < T then kyk s P T else zk⟩, 0), i) := by
  unfold sdA sdP
  rw [h1, h4, if_neg (by simp), if_neg (by show ¬ i < l; omega), if_neg (by omega)]
theorem sdA_err (s : Ky) (P : Pl) (l t i E : Int) (x : ByteArray) (h1 : pat P t = (i, E)) (h2 : E ≠ 0) : sdA s P l t x = ((pk0, E), l) := by
  unfold sdA
  rw [h1, if_pos h2]
theorem sdA_late (s : Ky) (P : Pl) (l t i : Int) (x : ByteArray) (h1 : pat P t = (i, 0)) (h2 : i < l) : sdA s P l t x = ((pk0, 14), l) := by
  unfold sdA
  rw [h1, if_neg (by simp), if_pos (by exact h2)]
theorem sdA_size (s : Ky) (P : Pl) (l t i : Int) (x : ByteArray) (h1 : pat P t = (i, 0)) (h2 : ¬ i < l) (h3 : 1000 < x.size) : sdA s P l t x = ((pk0, 5), l) := by
  unfold sdA
  rw [h1, if_neg (by simp), if_neg (by exact h2), if_pos h3]
theorem awake_any (w : World) (hT : Tabs w) : Calls Tryd.prog 9 #[] w fun e w' => e = .returned (.bool true) ∧ Below w.heap.size w w' := by
  have hK : ∀ i : Int, 0 ≤ i → i ≤ 5 → ky k1 5 i = (kyk k1 plA i, 0) := fun i h1 h2 => ky_kyk okA h1 h2
  refine awake_core w hT (kyk k1 plA 1) (kyk k1 plA 3) (kyk k1 plA 0) (tgs (kyk k1 plA 1) 1 ⟨#[111, 110, 101]⟩) (tgs (kyk k1 plA 3) 3 ⟨#[116, 104, 114, 101, 101]⟩) (by decide) ⟨?_⟩ ⟨?_⟩ ⟨?_⟩ ⟨?_⟩ ⟨?_⟩ ⟨hK 1 (by decide) (by decide)⟩ ⟨hK 3 (by decide) (by decide)⟩ ⟨hK 0 (by decide) (by decide)⟩ ⟨?_⟩ ⟨rfl⟩ ?_ ?_ ⟨decide_eq_true rfl⟩ ⟨tags_differ⟩ ⟨rfl⟩
  · exact sdA_ok k1 plA 0 5 1 0 _ (by decide) (by decide) (by decide) (by decide)
  · exact sdA_ok k1 plA 1 25 3 1 _ (by decide) (by decide) (by decide) (by decide)
  · exact sdA_late k1 plA 3 15 2 _ (by decide) (by decide)
  · exact sdA_err k1 plA 3 50 0 10 _ (by decide) (by decide)
  · exact sdA_err _ plB 0 49 0 15 _ (by decide) (by decide)
  · rfl
  · rw [tgs_size]; unfold maxLen; decide
  · rw [tgs_size]; unfold maxLen; decide
theorem in_i64 {n : Int} (h : (Lit.int .i64 n).wf = true) : -9223372036854775808 ≤ n ∧ n ≤ 9223372036854775807 := by
  simp [Lit.wf, IntKind.min, IntKind.max, IntKind.signed, IntKind.bits] at h
  omega
theorem in_u8 {n : Int} (h : (Lit.int .u8 n).wf = true) : 0 ≤ n ∧ n < 256 := by
  simp [Lit.wf, IntKind.min, IntKind.max, IntKind.signed, IntKind.bits] at h
  omega
theorem rem_nat (n : Int) (q : Nat) (hq : 0 < q) (h : 0 ≤ n) : ∃ r : Nat, n.tmod ((q : Nat) : Int) = ((r : Nat) : Int) ∧ r < q := by
  rw [Int.tmod_eq_emod_of_nonneg h]
  have h1 := Int.emod_nonneg n (show ((q : Nat) : Int) ≠ 0 by omega)
  have h2 := Int.emod_lt_of_pos n (show (0 : Int) < ((q : Nat) : Int) by omega)
  exact ⟨(n % ((q : Nat) : Int)).toNat, by omega, by omega⟩
end Go.Proofs.YtphocklnhoakcaaDoor
