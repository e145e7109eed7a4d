/- awake: what the calls that each law asks first answer; calls on a receiver, by what they tell. awake answers true. -/
import Derived.Test.YtcclcemdodoiiaaGreatDoorQRunG
import Derived.Test.YtcclcemdodoiiaaGreatDoorQRc5
import Derived.Test.YtcclcemdodoiiaaGreatDoorQPb1
import Derived.Test.YtcclcemdodoiiaaGreatDoorQSd1
import Derived.WalkKit
import Derived.WalkSpells
import Derived.WalkLawsBesides
import Derived.Test.YtcclcemdodoiiaaGreatDoorQRcM3
namespace Go.Proofs.YtcclcemdodoiiaaGreatDoor
set_option maxRecDepth 10000
open Go Go.RowKit
set_option linter.unusedVariables false
set_option linter.unusedSimpArgs false

section
variable {w0 w : World} {R : List HP} {p : Nat} {S : Rc}
theorem got_n (hM : Ms w0 w (rv p S :: R)) (hT : Tabs w0) (hS : RcOk S ∧ Sml 1000 S) (q : Pk) (la E2 : Int) (S2 : Rc) (h : got S q la = (([], E2), S2)) : Calls Tryz.prog 15 #[.pointer (some ⟨p, 0, none⟩), .agg (pkc q.i q.x q.g q.t q.k).toArray, .int .i64 la] w fun e w' => ∃ (o : Option Addr) (k : Nat), e = .returned (.tuple #[.slice o 0 k, .int .i64 E2]) ∧ Ms w0 w' (rv p S2 :: R) :=
  (got_v hM hT hS.1 hS.2 q la [] E2 S2 h).mono fun e w' ⟨o, k, h1, h2⟩ => ⟨o, k, h1, h2.tail⟩
theorem got_s (hM : Ms w0 w (rv p S :: R)) (hT : Tabs w0) (hS : RcOk S ∧ Sml 1000 S) (q : Pk) (la : Int) (T : List Thg) (hl : 0 < T.length) (E2 : Int) (S2 : Rc) (h : got S q la = ((T, E2), S2)) : Calls Tryz.prog 15 #[.pointer (some ⟨p, 0, none⟩), .agg (pkc q.i q.x q.g q.t q.k).toArray, .int .i64 la] w fun e w' => ∃ (g k : Nat), e = .returned (.tuple #[.slice (some ⟨g, 0, none⟩) T.length k, .int .i64 E2]) ∧ Ms w0 w' (sl 73 2 g k T.length (tcs T) :: rv p S2 :: R) :=
  (got_v hM hT hS.1 hS.2 q la T E2 S2 h).mono fun e w' ⟨o, k, h1, h2⟩ => by
    obtain ⟨g, c, hv, h3⟩ := row_sl h2 hl
    cases hv
    exact ⟨g, k, h1, h3⟩
theorem learn_n (hM : Ms w0 w (rv p S :: R)) (hT : Tabs w0) (hS : RcOk S ∧ Sml 1000 S) (kk : Ky) (i E2 : Int) (S2 : Rc) (h : lea S kk i = (([], E2), S2)) : Calls Tryz.prog 18 #[.pointer (some ⟨p, 0, none⟩), .agg (kc kk).toArray, .int .i64 i] w fun e w' => ∃ (o : Option Addr) (k : Nat), e = .returned (.tuple #[.slice o 0 k, .int .i64 E2]) ∧ Ms w0 w' (rv p S2 :: R) :=
  (learn_v hM hT hS.1 hS.2 kk i [] E2 S2 h).mono fun e w' ⟨o, k, h1, h2⟩ => ⟨o, k, h1, h2.tail⟩
theorem learn_s (hM : Ms w0 w (rv p S :: R)) (hT : Tabs w0) (hS : RcOk S ∧ Sml 1000 S) (kk : Ky) (i : Int) (T : List Thg) (hl : 0 < T.length) (E2 : Int) (S2 : Rc) (h : lea S kk i = ((T, E2), S2)) : Calls Tryz.prog 18 #[.pointer (some ⟨p, 0, none⟩), .agg (kc kk).toArray, .int .i64 i] w fun e w' => ∃ (g k : Nat), e = .returned (.tuple #[.slice (some ⟨g, 0, none⟩) T.length k, .int .i64 E2]) ∧ Ms w0 w' (sl 73 2 g k T.length (tcs T) :: rv p S2 :: R) :=
  (learn_v hM hT hS.1 hS.2 kk i T E2 S2 h).mono fun e w' ⟨o, k, h1, h2⟩ => by
    obtain ⟨g, c, hv, h3⟩ := row_sl h2 hl
    cases hv
    exact ⟨g, k, h1, h3⟩
theorem at_e (hM : Ms w0 w (rv p S :: R)) (v : Int) (h : S.n = v) : Calls Tryz.prog 21 #[.pointer (some ⟨p, 0, none⟩)] w fun e w' => e = .returned (.int .i64 v) ∧ Ms w0 w' (rv p S :: R) := h ▸ at_v hM
theorem waits_e (hM : Ms w0 w (rv p S :: R)) (v : Int) (h : ((S.L.length : Nat) : Int) = v) (hl : S.L.length ≤ 1000000) : Calls Tryz.prog 22 #[.pointer (some ⟨p, 0, none⟩)] w fun e w' => e = .returned (.int .i64 v) ∧ Ms w0 w' (rv p S :: R) := h ▸ waits_v hM hl
theorem believed_e (hM : Ms w0 w (rv p S :: R)) (i v : Int) (h : (((ofI i S.B).length : Nat) : Int) = v) : Calls Tryz.prog 23 #[.pointer (some ⟨p, 0, none⟩), .int .i64 i] w fun e w' => e = .returned (.int .i64 v) ∧ Ms w0 w' (rv p S :: R) := h ▸ believed_v hM i
end
section
variable {dst : Option Tmp} {ty : TypeId} {pos : String} {aft : Array Edge} {gd : Option (Nat × Bool)} {a : Act} {w : World} {K : Value → World → Prop}
theorem g_ldTA (x : Operand) (b o : Nat) (t : Thg) (hx : a.eval x = .pointer (some ⟨b, o, none⟩)) (h0 : w.cell? ⟨b, o, none⟩ = some (.int .i64 t.1)) (h1 : w.cell? ⟨b, o + 1, none⟩ = some (.string t.2))
    (hk : K (.agg (tc (t.1, t.2)).toArray) w) : gives Tryz.prog ⟨dst, .load 73 x, ty, pos, aft, gd⟩ a w K := by
  have hr : w.rangeAt b o (tc (t.1, t.2)) := fun j v hv => by
    match j with
    | 0 => simp [tc] at hv; subst hv; exact h0
    | 1 => simp [tc] at hv; subst hv; exact h1
    | j + 2 => simp [tc] at hv
  exact g_val _ w (by simp only [execOp, hx, Sem.run_bind, run_loadAt_mid w b o 73 _ _ hr fieldsTh rfl sizeTh, Result.andThen_ok, Sem.run_pure]) hk
end
/-- The digest of the digest, reckoned. -/
def wdg : Nat → List UInt8 → List UInt8
  | 0, k => k
  | n + 1, k => dig (wdg n k)
theorem wd_walk (n : Nat) (k : List UInt8) : walkF n k = wdg n k := by
  induction n with
  | zero => rfl
  | succ n ih => rw [walkF, wdg, ih, sum_dig]
theorem wl_l (n : Nat) (k : Ky) : (wl n k).l = walkF n k.l := by simp only [wl]
theorem tg_l (k : Ky) (t : ByteArray) : (tg k t).l = tag k.l t.data.toList := by simp only [tg]
theorem is_L : tag k1.l chainW.data.toList = [220, 38, 39, 15, 151, 80, 58, 61, 204, 5, 33, 143, 119, 189, 204, 20, 223, 164, 207, 127, 251, 126, 249, 181, 113, 206, 150, 232, 135, 98, 206, 249] := by
  rw [tag, sum_dig, sum_dig]
  decide +kernel
theorem is_2 : wdg 2 [220, 38, 39, 15, 151, 80, 58, 61, 204, 5, 33, 143, 119, 189, 204, 20, 223, 164, 207, 127, 251, 126, 249, 181, 113, 206, 150, 232, 135, 98, 206, 249] = [203, 79, 6, 231, 126, 73, 98, 205, 212, 103, 17, 98, 151, 104, 92, 172, 56, 121, 200, 90, 162, 176, 158, 167, 145, 95, 39, 108, 131, 53, 108, 233] := by decide +kernel
theorem is_4 : wdg 2 [203, 79, 6, 231, 126, 73, 98, 205, 212, 103, 17, 98, 151, 104, 92, 172, 56, 121, 200, 90, 162, 176, 158, 167, 145, 95, 39, 108, 131, 53, 108, 233] = [0, 203, 55, 216, 218, 172, 123, 216, 192, 16, 14, 94, 147, 186, 135, 21, 146, 88, 98, 139, 88, 143, 25, 39, 62, 68, 75, 212, 63, 7, 2, 36] := by decide +kernel
theorem last2 : (wl 2 (tg k1 chainW)).l = [203, 79, 6, 231, 126, 73, 98, 205, 212, 103, 17, 98, 151, 104, 92, 172, 56, 121, 200, 90, 162, 176, 158, 167, 145, 95, 39, 108, 131, 53, 108, 233] := by rw [wl_l, tg_l, is_L, wd_walk, is_2]
theorem last4 : (wl 4 (tg k1 chainW)).l = [0, 203, 55, 216, 218, 172, 123, 216, 192, 16, 14, 94, 147, 186, 135, 21, 146, 88, 98, 139, 88, 143, 25, 39, 62, 68, 75, 212, 63, 7, 2, 36] := by
  rw [← wl_add 2 2, wl_l 2, last2, wd_walk, is_4]
def plA : Pl := ⟨0, 10, 2, 5⟩
theorem okA : POk plA := by decide
theorem keyA (i : Nat) (hi : i ≤ 5) : kyk k1 plA i = wl (5 - i) (tg k1 chainW) := kyk_nat (by decide) (by decide) rfl i hi
def oneT : ByteArray := ⟨#[111, 110, 101]⟩
def threeT : ByteArray := ⟨#[116, 104, 114, 101, 101]⟩
section
variable {P : Program} {a : Act} {w : World} {dst : Option Tmp} {ty : TypeId} {pos : String} {aft : Array Edge} {gd : Option (Nat × Bool)} {K : Value → World → Prop}
theorem g_bldPk1 (x0 : Operand) (i : Int) (h0 : a.eval x0 = .int .i64 i) (hk : K (.agg (pkc i ⟨#[]⟩ ⟨#[]⟩ 0 zk).toArray) w) : gives Tryz.prog ⟨dst, .build 39 #[(0, x0)], ty, pos, aft, gd⟩ a w K :=
  g_bld 39 [(0, x0)] [(0, .int .i64 i)] _ (by simp only [List.map_cons, List.map_nil, h0]) (run_build _ _ _ _ _ _ zeroPk fieldsPk2 placesPk rfl w) hk
theorem fillPk5 (i : Int) (x g : ByteArray) (t : Int) (k : Ky) : Instr.fill ((#[(0, 1), (1, 1), (2, 1), (3, 1), (4, 32)] : Array (Nat × Nat))[·]?) (pkc 0 ⟨#[]⟩ ⟨#[]⟩ 0 zk).toArray [(0, .int .i64 i), (1, .string x), (2, .string g), (3, .int .i64 t), (4, .agg (kc k).toArray)] = some (pkc i x g t k).toArray := by
  have e := fill_part (place := ((#[(0, 1), (1, 1), (2, 1), (3, 1), (4, 32)] : Array (Nat × Nat))[·]?)) (i := 4) (off := 4) (size := 32) (v := .agg (kc k).toArray) (cs := kc k) (pre := [.int .i64 i, .string x, .string g, .int .i64 t]) (mid := kc zk) (post := []) (rest := []) rfl rfl (kc_length k) rfl (kc_length zk)
  rw [List.append_nil, List.append_nil] at e
  exact Eq.trans rfl (e.trans rfl)
theorem g_bldPk5 (x0 x1 x2 x3 x4 : Operand) (i : Int) (x g : ByteArray) (t : Int) (k : Ky) (h0 : a.eval x0 = .int .i64 i) (h1 : a.eval x1 = .string x) (h2 : a.eval x2 = .string g) (h3 : a.eval x3 = .int .i64 t) (h4 : a.eval x4 = .agg (kc k).toArray) (hk : K (.agg (pkc i x g t k).toArray) w) : gives Tryz.prog ⟨dst, .build 39 #[(0, x0), (1, x1), (2, x2), (3, x3), (4, x4)], ty, pos, aft, gd⟩ a w K :=
  g_bld 39 [(0, x0), (1, x1), (2, x2), (3, x3), (4, x4)] [(0, .int .i64 i), (1, .string x), (2, .string g), (3, .int .i64 t), (4, .agg (kc k).toArray)] _ (by simp only [List.map_cons, List.map_nil, h0, h1, h2, h3, h4]) (run_build _ _ _ _ _ _ zeroPk fieldsPk2 placesPk (fillPk5 i x g t k) w) hk
end
set_option maxHeartbeats 4000000 in
theorem awake_core (w : World) (hT : Tabs w) (K0 K1 K3 : Ky) (G1 G3 : ByteArray) (S1 S2 S3 : Rc) (hK0 : Shut (ky k1 5 0 = (K0, 0))) (hK1 : Shut (ky k1 5 1 = (K1, 0))) (hK3 : Shut (ky k1 5 3 = (K3, 0))) (hG1 : Shut (tgs K1 1 ⟨#[111, 110, 101]⟩ = G1)) (hG3 : Shut (tgs K3 3 ⟨#[116, 104, 114, 101, 101]⟩ = G3)) (o0 : RcOk ⟨plA, K0, 0, 9, 2, 3, 0, [], [], 0⟩ ∧ Sml 1000 ⟨plA, K0, 0, 9, 2, 3, 0, [], [], 0⟩) (o1 : RcOk S1 ∧ Sml 1000 S1) (o2 : RcOk S2 ∧ Sml 1000 S2) (o3 : RcOk S3 ∧ Sml 1000 S3)
    (h1 : got ⟨plA, K0, 0, 9, 2, 3, 0, [], [], 0⟩ ⟨1, ⟨#[111, 110, 101]⟩, G1, 0, zk⟩ 5 = (([], 0), S1)) (h2 : got S1 ⟨1, ⟨#[111, 110, 101]⟩, G1, 0, zk⟩ 6 = (([], 11), S1)) (w1 : ((S1.L.length : Nat) : Int) = 1) (h3 : got S1 ⟨3, ⟨#[116, 104, 114, 101, 101]⟩, G3, 1, K1⟩ 25 = (([(1, ⟨#[111, 110, 101]⟩)], 0), S2)) (h4 : got S2 ⟨1, ⟨#[111, 110, 101]⟩, G1, 0, zk⟩ 26 = (([], 14), S2)) (h5 : got S2 ⟨9, ⟨#[]⟩, ⟨#[]⟩, 0, zk⟩ 0 = (([], 2), S2)) (h6 : lea S2 K3 3 = (([(3, ⟨#[116, 104, 114, 101, 101]⟩)], 0), S3)) (h7 : lea S3 K1 3 = (([], 13), S3)) (v1 : S3.n = 3) (v2 : ((S3.L.length : Nat) : Int) = 0) (v3 : (((ofI 1 S3.B).length : Nat) : Int) = 1) : Calls Tryz.prog 10 #[] w fun e w' => e = .returned (.bool true) ∧ Below w.heap.size w w' := by
  have hM := Ms.refl w
  go_enter Tryz.func10, Tryz.ntmps10
  refine wp_seq_k fun _ κ1 => wl_region (wl_fare kn ?_)
  simp (config := { maxSteps := 10000000 }) (disch := omega) only [fx, pv, kx]
  refine wl_nil (κ1 _ _ ?_)
  refine wp_seq_k fun _ κ2 => wl_region (wl_give rfl (g_bldPl _ _ _ _ plA rfl rfl rfl rfl ?_))
  try simp only [nz]
  refine wl_give rfl (g_alloc 25 (plc (pl0)) zeroPl fun w3 t_ b_ => ?_)
  replace hM := hM.new t_ b_
  clear t_ b_
  try simp only [nz]
  refine wl_give rfl (g_store_all 25 _ _ (w.heap.size) (plc (plA)) _ 25 rfl rfl (hM.get 0 rfl) (szPl _) (pp_len _ _) (one_plc _) fun w4 t_ b_ => ?_)
  replace hM : Ms w w4 [blk (w.heap.size) (plc (plA)) 25] := hM.put 0 rfl t_ b_
  clear t_ b_
  try simp only [nz]
  refine wl_nil (κ2 _ _ ?_)
  refine wp_seq_k fun _ κ5 => wl_region (wl_give rfl (g_bldK1 ?_))
  try simp only [nz]
  refine wl_give rfl (g_alloc 23 (kc (zk)) zeroK fun w6 t_ b_ => ?_)
  replace hM := hM.new t_ b_
  clear t_ b_
  try simp only [nz]
  refine wl_give rfl (g_store_all 23 _ _ (w4.heap.size) (kc (k1)) _ 23 rfl rfl (hM.get 0 rfl) (szK _) (kk_len _ _) (one_kc _) fun w7 t_ b_ => ?_)
  replace hM : Ms w w7 [blk (w4.heap.size) (kc (k1)) 23, blk (w.heap.size) (plc (plA)) 25] := hM.put 0 rfl t_ b_
  clear t_ b_
  try simp only [nz]
  refine wl_nil (κ5 _ _ ?_)
  refine wp_seq_k fun _ κ8 => wl_region (wl_give rfl (g_load_all 23 _ (w4.heap.size) (kc (k1)) 23 _ rfl (hM.get 0 rfl) Tryz.underlying23 rfl (szK _) ?_))
  try simp only [nz]
  refine wl_give rfl (g_cM hM (kf29 _ _) (rckey_any k1 5 0 w7 K0 0 hK0) rfl fun w9 hM => wl_fare kn ?_)
  simp (config := { maxSteps := 10000000 }) (disch := omega) only [fx, pv, kx]
  refine wl_give rfl (g_alloc 23 (kc (zk)) zeroK fun w10 t_ b_ => ?_)
  replace hM := hM.new t_ b_
  clear t_ b_
  try simp only [nz]
  refine wl_give rfl (g_store_all 23 _ _ (w9.heap.size) (kc (K0)) _ 23 rfl rfl (hM.get 0 rfl) (szK _) (kk_len _ _) (one_kc _) fun w11 t_ b_ => ?_)
  replace hM : Ms w w11 [blk (w9.heap.size) (kc (K0)) 23, blk (w4.heap.size) (kc (k1)) 23, blk (w.heap.size) (plc (plA)) 25] := hM.put 0 rfl t_ b_
  clear t_ b_
  refine wl_fare kn ?_
  simp (config := { maxSteps := 10000000 }) (disch := omega) only [fx, pv, kx]
  refine wl_nil (κ8 _ _ ?_)
  refine wp_seq_k fun _ κ12 => wl_region (wl_give rfl (g_load_all 23 _ (w4.heap.size) (kc (k1)) 23 _ rfl (hM.get 1 rfl) Tryz.underlying23 rfl (szK _) ?_))
  try simp only [nz]
  refine wl_give rfl (g_cM hM (kf29 _ _) (rckey_any k1 5 1 w11 K1 0 hK1) rfl fun w13 hM => wl_fare kn ?_)
  simp (config := { maxSteps := 10000000 }) (disch := omega) only [fx, pv, kx]
  refine wl_give rfl (g_alloc 23 (kc (zk)) zeroK fun w14 t_ b_ => ?_)
  replace hM := hM.new t_ b_
  clear t_ b_
  try simp only [nz]
  refine wl_give rfl (g_store_all 23 _ _ (w13.heap.size) (kc (K1)) _ 23 rfl rfl (hM.get 0 rfl) (szK _) (kk_len _ _) (one_kc _) fun w15 t_ b_ => ?_)
  replace hM : Ms w w15 [blk (w13.heap.size) (kc (K1)) 23, blk (w9.heap.size) (kc (K0)) 23, blk (w4.heap.size) (kc (k1)) 23, blk (w.heap.size) (plc (plA)) 25] := hM.put 0 rfl t_ b_
  clear t_ b_
  refine wl_fare kn ?_
  simp (config := { maxSteps := 10000000 }) (disch := omega) only [fx, pv, kx]
  refine wl_nil (κ12 _ _ ?_)
  refine wp_seq_k fun _ κ16 => wl_region (wl_give rfl (g_load_all 23 _ (w4.heap.size) (kc (k1)) 23 _ rfl (hM.get 2 rfl) Tryz.underlying23 rfl (szK _) ?_))
  try simp only [nz]
  refine wl_give rfl (g_cM hM (kf29 _ _) (rckey_any k1 5 3 w15 K3 0 hK3) rfl fun w17 hM => wl_fare kn ?_)
  simp (config := { maxSteps := 10000000 }) (disch := omega) only [fx, pv, kx]
  refine wl_give rfl (g_alloc 23 (kc (zk)) zeroK fun w18 t_ b_ => ?_)
  replace hM := hM.new t_ b_
  clear t_ b_
  try simp only [nz]
  refine wl_give rfl (g_store_all 23 _ _ (w17.heap.size) (kc (K3)) _ 23 rfl rfl (hM.get 0 rfl) (szK _) (kk_len _ _) (one_kc _) fun w19 t_ b_ => ?_)
  replace hM : Ms w w19 [blk (w17.heap.size) (kc (K3)) 23, blk (w13.heap.size) (kc (K1)) 23, blk (w9.heap.size) (kc (K0)) 23, blk (w4.heap.size) (kc (k1)) 23, blk (w.heap.size) (plc (plA)) 25] := hM.put 0 rfl t_ b_
  clear t_ b_
  refine wl_fare kn ?_
  simp (config := { maxSteps := 10000000 }) (disch := omega) only [fx, pv, kx]
  refine wl_nil (κ16 _ _ ?_)
  refine wp_seq_k fun _ κ20 => wl_region (wl_give rfl (g_load_all 23 _ (w9.heap.size) (kc (K0)) 23 _ rfl (hM.get 2 rfl) Tryz.underlying23 rfl (szK _) ?_))
  try simp only [nz]
  refine wl_give rfl (g_load_all 25 _ (w.heap.size) (plc (plA)) 25 _ rfl (hM.get 4 rfl) Tryz.underlying25 rfl (szPl _) ?_)
  try simp only [nz]
  refine wl_give rfl (g_call 12 _ _ [.agg (kc (K0)).toArray, .agg (plc (plA)).toArray, .int .i64 (9), .int .i64 (2), .int .i64 (3)] (kf12 _ _) rfl ((rcnew_any K0 plA 9 2 3 hM okA (by decide) (by decide) (by decide)).mono ?_))
  rintro e w21 ⟨p22, rfl, h_⟩
  refine ⟨_, rfl, ?_⟩
  replace hM : Ms w w21 [rv p22 (⟨plA, K0, 0, 9, 2, 3, 0, [], [], 0⟩), blk (w17.heap.size) (kc (K3)) 23, blk (w13.heap.size) (kc (K1)) 23, blk (w9.heap.size) (kc (K0)) 23, blk (w4.heap.size) (kc (k1)) 23, blk (w.heap.size) (plc (plA)) 25] := h_
  clear h_
  refine wl_fare kn ?_
  simp (config := { maxSteps := 10000000 }) (disch := omega) only [fx, pv, kx]
  refine wl_nil (κ20 _ _ ?_)
  refine wp_seq_k fun _ κ23 => wl_region (wl_give rfl (g_load_all 23 _ (w9.heap.size) (kc (K0)) 23 _ rfl (hM.get 3 rfl) Tryz.underlying23 rfl (szK _) ?_))
  try simp only [nz]
  refine wl_give rfl (g_load_all 25 _ (w.heap.size) (plc (plA)) 25 _ rfl (hM.get 5 rfl) Tryz.underlying25 rfl (szPl _) ?_)
  try simp only [nz]
  refine wl_give rfl (g_cM hM (kf12 _ _) (rcnew_bad K0 plA 0 2 3 w21 (by decide)) rfl fun w24 hM => wl_fare kn ?_)
  simp (config := { maxSteps := 10000000 }) (disch := omega) only [fx, pv, kx]
  refine wl_nil (κ23 _ _ ?_)
  refine wp_seq_k fun _ κ25 => wp_seq_k fun _ κ26 => wl_region (wl_fare kn ?_)
  simp (config := { maxSteps := 10000000 }) (disch := omega) only [fx, pv, kx]
  refine wl_give rfl (g_peqC _ ((some ⟨p22, 0, none⟩)) false rfl rfl ?_)
  try simp only [nz]
  refine wl_nil (κ26 _ _ ?_)
  refine wp_cond_false rfl (wp_skip ?_)
  refine κ25 _ _ (wp_seq_k fun _ κ27 => ?_)
  refine wl_region (wl_give rfl (g_load_all 23 _ (w13.heap.size) (kc (K1)) 23 _ rfl (hM.get 2 rfl) Tryz.underlying23 rfl (szK _) ?_))
  try simp only [nz]
  refine wl_give rfl (g_cM hM (kf32 _ _) (rtagS_any K1 1 ⟨#[111, 110, 101]⟩ w24 (by decide) G1 hG1) rfl fun w28 hM => ?_)
  try simp only [nz]
  refine wl_give rfl (g_bldPk3 _ _ _ (1) (⟨#[111, 110, 101]⟩) (G1) rfl rfl rfl ?_)
  try simp only [nz]
  refine wl_give rfl (g_alloc 39 (pkc (0) (⟨#[]⟩) (⟨#[]⟩) (0) (zk)) zeroPk fun w29 t_ b_ => ?_)
  replace hM := hM.new t_ b_
  clear t_ b_
  try simp only [nz]
  refine wl_give rfl (g_store_all 39 _ _ (w28.heap.size) (pkc (1) (⟨#[111, 110, 101]⟩) (G1) (0) (zk)) _ 39 rfl rfl (hM.get 0 rfl) (szPk _ _ _ _ _) (kk2_len _ _ _ _ _ _ _ _ _ _) (one_pkc _ _ _ _ _) fun w30 t_ b_ => ?_)
  replace hM : Ms w w30 [blk (w28.heap.size) (pkc (1) (⟨#[111, 110, 101]⟩) (G1) (0) (zk)) 39, rv p22 (⟨plA, K0, 0, 9, 2, 3, 0, [], [], 0⟩), blk (w17.heap.size) (kc (K3)) 23, blk (w13.heap.size) (kc (K1)) 23, blk (w9.heap.size) (kc (K0)) 23, blk (w4.heap.size) (kc (k1)) 23, blk (w.heap.size) (plc (plA)) 25] := hM.put 0 rfl t_ b_
  clear t_ b_
  try simp only [nz]
  refine wl_nil (κ27 _ _ ?_)
  refine wp_seq_k fun _ κ31 => ?_
  refine wp_region_steps (by kernel_rfl) (by kernel_rfl) [4, 5] [0, 0, 0, 0, 0, 1] [1, 1, 1, 1, 1, 2] (by kernel_rfl) (Pm := Nat) (fun π => [.agg (kc (K3)).toArray, .string (G3), .agg (kc (K1)).toArray, .agg (pkc (3) (⟨#[116, 104, 114, 101, 101]⟩) (G3) (1) (K1)).toArray, .pointer (some ⟨π, 0, none⟩), undef]) (fun _ => by rfl) (fun j_ π wx => match j_ with | 0 => Ms w wx [blk (w28.heap.size) (pkc (1) (⟨#[111, 110, 101]⟩) (G1) (0) (zk)) 39, rv p22 (⟨plA, K0, 0, 9, 2, 3, 0, [], [], 0⟩), blk (w17.heap.size) (kc (K3)) 23, blk (w13.heap.size) (kc (K1)) 23, blk (w9.heap.size) (kc (K0)) 23, blk (w4.heap.size) (kc (k1)) 23, blk (w.heap.size) (plc (plA)) 25] | 1 => Ms w wx [blk (π) (pkc (0) (⟨#[]⟩) (⟨#[]⟩) (0) (zk)) 39, blk (w28.heap.size) (pkc (1) (⟨#[111, 110, 101]⟩) (G1) (0) (zk)) 39, rv p22 (⟨plA, K0, 0, 9, 2, 3, 0, [], [], 0⟩), blk (w17.heap.size) (kc (K3)) 23, blk (w13.heap.size) (kc (K1)) 23, blk (w9.heap.size) (kc (K0)) 23, blk (w4.heap.size) (kc (k1)) 23, blk (w.heap.size) (plc (plA)) 25] | _ => Ms w wx [blk (π) (pkc (3) (⟨#[116, 104, 114, 101, 101]⟩) (G3) (1) (K1)) 39, blk (w28.heap.size) (pkc (1) (⟨#[111, 110, 101]⟩) (G1) (0) (zk)) 39, rv p22 (⟨plA, K0, 0, 9, 2, 3, 0, [], [], 0⟩), blk (w17.heap.size) (kc (K3)) 23, blk (w13.heap.size) (kc (K1)) 23, blk (w9.heap.size) (kc (K0)) 23, blk (w4.heap.size) (kc (k1)) 23, blk (w.heap.size) (plc (plA)) 25]) (0) hM.drew ?_ ?_ ?_
  · intro j_ k_ o_ hj_ ho_ π wx hM
    rcases j_ with _ | _ | j_
    · obtain rfl := Option.some.inj hj_
      cases so ho_
      simp only [fullL, Act.put, st_a, st_s, st_0]
      change Ms _ _ _ at hM
      exact gw rfl (g_alloc 39 (pkc (0) (⟨#[]⟩) (⟨#[]⟩) (0) (zk)) zeroPk (fun w' t_ b_ => ⟨(wx.heap.size), rfl, fun i h1 h2 => by rcases i with _ | _ | _ | _ | _ | _ | i <;> first | rfl | trivial | exact absurd rfl h2 | exact absurd h1 (by decide), hM.new t_ b_⟩))
    · obtain rfl := Option.some.inj hj_
      cases so ho_
      simp only [fullL, Act.put, st_a, st_s, st_0]
      change Ms _ _ _ at hM
      exact gw rfl (g_store_all 39 _ _ (π) (pkc (3) (⟨#[116, 104, 114, 101, 101]⟩) (G3) (1) (K1)) _ 39 rfl rfl (hM.get 0 rfl) (szPk _ _ _ _ _) (kk2_len _ _ _ _ _ _ _ _ _ _) (one_pkc _ _ _ _ _) (fun w' t_ b_ => ⟨(π), rfl, fun i h1 h2 => by rcases i with _ | _ | _ | _ | _ | _ | i <;> first | rfl | trivial | exact absurd rfl h2 | exact absurd h1 (by decide), hM.put 0 rfl t_ b_⟩))
    · simp at hj_
  · intro i_ o_ ho_ hi_ j_ hd_ hh_ hj_ π wx hM
    simp only [fullL, Act.put, st_a, st_s, st_0]
    rcases i_ with _ | _ | _ | _ | _ | _ | i_
    · cases so ho_
      rcases j_ with _ | _ | _ | j_
      · change Ms _ _ _ at hM
        exact gw rfl (g_load_all 23 _ (w17.heap.size) (kc (K3)) 23 _ rfl (hM.get 2 rfl) Tryz.underlying23 rfl (szK _) ⟨rfl, hM⟩)
      · change Ms _ _ _ at hM
        exact gw rfl (g_load_all 23 _ (w17.heap.size) (kc (K3)) 23 _ rfl (hM.get 3 rfl) Tryz.underlying23 rfl (szK _) ⟨rfl, hM⟩)
      · exact absurd hh_ (by decide)
      · exact absurd hj_ (by simp)
    · cases so ho_
      rcases j_ with _ | _ | _ | j_
      · change Ms _ _ _ at hM
        exact gw rfl (g_call 32 _ _ [.agg (kc (K3)).toArray, .int .i64 (3), .string (⟨#[116, 104, 114, 101, 101]⟩)] (kf32 _ _) rfl ((rtagS_any K3 3 ⟨#[116, 104, 114, 101, 101]⟩ wx (by decide) G3 hG3).mono (fun _ _ ⟨h1_, h2_⟩ => ⟨_, h1_, rfl, hM.call h2_⟩)))
      · change Ms _ _ _ at hM
        exact gw rfl (g_call 32 _ _ [.agg (kc (K3)).toArray, .int .i64 (3), .string (⟨#[116, 104, 114, 101, 101]⟩)] (kf32 _ _) rfl ((rtagS_any K3 3 ⟨#[116, 104, 114, 101, 101]⟩ wx (by decide) G3 hG3).mono (fun _ _ ⟨h1_, h2_⟩ => ⟨_, h1_, rfl, hM.call h2_⟩)))
      · exact absurd hh_ (by decide)
      · exact absurd hj_ (by simp)
    · cases so ho_
      rcases j_ with _ | _ | _ | j_
      · change Ms _ _ _ at hM
        exact gw rfl (g_load_all 23 _ (w13.heap.size) (kc (K1)) 23 _ rfl (hM.get 3 rfl) Tryz.underlying23 rfl (szK _) ⟨rfl, hM⟩)
      · change Ms _ _ _ at hM
        exact gw rfl (g_load_all 23 _ (w13.heap.size) (kc (K1)) 23 _ rfl (hM.get 4 rfl) Tryz.underlying23 rfl (szK _) ⟨rfl, hM⟩)
      · exact absurd hh_ (by decide)
      · exact absurd hj_ (by simp)
    · cases so ho_
      exact gw rfl (g_bldPk5 _ _ _ _ _ (3) (⟨#[116, 104, 114, 101, 101]⟩) G3 (1) K1 rfl rfl rfl rfl rfl ⟨rfl, hM⟩)
    · exact absurd (by decide) hi_
    · exact absurd (by decide) hi_
    · simp at ho_
  · simp only [fullL, Act.put, st_a, st_s, st_0]
    rintro p33 w32 hM
    replace hM : Ms w w32 [blk (p33) (pkc (3) (⟨#[116, 104, 114, 101, 101]⟩) (G3) (1) (K1)) 39, blk (w28.heap.size) (pkc (1) (⟨#[111, 110, 101]⟩) (G1) (0) (zk)) 39, rv p22 (⟨plA, K0, 0, 9, 2, 3, 0, [], [], 0⟩), blk (w17.heap.size) (kc (K3)) 23, blk (w13.heap.size) (kc (K1)) 23, blk (w9.heap.size) (kc (K0)) 23, blk (w4.heap.size) (kc (k1)) 23, blk (w.heap.size) (plc (plA)) 25] := hM
    refine κ31 _ _ (wp_seq_k fun _ κ34 => ?_)
    refine wl_region (wl_fare kn ?_)
    simp (config := { maxSteps := 10000000 }) (disch := omega) only [fx, pv, kx]
    refine wl_give rfl (g_load_all 39 _ (w28.heap.size) (pkc (1) (⟨#[111, 110, 101]⟩) (G1) (0) (zk)) 39 _ rfl (hM.get 1 rfl) Tryz.underlying39 rfl (szPk _ _ _ _ _) ?_)
    try simp only [nz]
    refine wl_give rfl (g_call 15 _ _ [.pointer (some ⟨p22, 0, none⟩), .agg (pkc (1) (⟨#[111, 110, 101]⟩) (G1) (0) (zk)).toArray, .int .i64 (5)] (kf15 _ _) rfl ((got_n (show Ms w w32 [rv p22 (⟨plA, K0, 0, 9, 2, 3, 0, [], [], 0⟩), blk (p33) (pkc (3) (⟨#[116, 104, 114, 101, 101]⟩) (G3) (1) (K1)) 39, blk (w28.heap.size) (pkc (1) (⟨#[111, 110, 101]⟩) (G1) (0) (zk)) 39, blk (w17.heap.size) (kc (K3)) 23, blk (w13.heap.size) (kc (K1)) 23, blk (w9.heap.size) (kc (K0)) 23, blk (w4.heap.size) (kc (k1)) 23, blk (w.heap.size) (plc (plA)) 25] from (hM.up 2 rfl)) hT o0 ⟨1, ⟨#[111, 110, 101]⟩, G1, 0, zk⟩ 5 0 S1 h1).mono ?_))
    rintro e w35 ⟨o36, k37, rfl, h_⟩
    refine ⟨_, rfl, ?_⟩
    replace hM : Ms w w35 [rv p22 (S1), blk (p33) (pkc (3) (⟨#[116, 104, 114, 101, 101]⟩) (G3) (1) (K1)) 39, blk (w28.heap.size) (pkc (1) (⟨#[111, 110, 101]⟩) (G1) (0) (zk)) 39, blk (w17.heap.size) (kc (K3)) 23, blk (w13.heap.size) (kc (K1)) 23, blk (w9.heap.size) (kc (K0)) 23, blk (w4.heap.size) (kc (k1)) 23, blk (w.heap.size) (plc (plA)) 25] := h_
    clear h_
    refine wl_fare kn ?_
    simp (config := { maxSteps := 10000000 }) (disch := omega) only [fx, pv, kx]
    refine wl_nil (κ34 _ _ ?_)
    refine wp_seq_k fun _ κ38 => wl_region (wl_fare kn ?_)
    simp (config := { maxSteps := 10000000 }) (disch := omega) only [fx, pv, kx]
    refine wl_give rfl (g_load_all 39 _ (w28.heap.size) (pkc (1) (⟨#[111, 110, 101]⟩) (G1) (0) (zk)) 39 _ rfl (hM.get 2 rfl) Tryz.underlying39 rfl (szPk _ _ _ _ _) ?_)
    try simp only [nz]
    refine wl_give rfl (g_call 15 _ _ [.pointer (some ⟨p22, 0, none⟩), .agg (pkc (1) (⟨#[111, 110, 101]⟩) (G1) (0) (zk)).toArray, .int .i64 (6)] (kf15 _ _) rfl ((got_n hM hT o1 ⟨1, ⟨#[111, 110, 101]⟩, G1, 0, zk⟩ 6 11 S1 h2).mono ?_))
    rintro e w39 ⟨o40, k41, rfl, h_⟩
    refine ⟨_, rfl, ?_⟩
    replace hM : Ms w w39 [rv p22 (S1), blk (p33) (pkc (3) (⟨#[116, 104, 114, 101, 101]⟩) (G3) (1) (K1)) 39, blk (w28.heap.size) (pkc (1) (⟨#[111, 110, 101]⟩) (G1) (0) (zk)) 39, blk (w17.heap.size) (kc (K3)) 23, blk (w13.heap.size) (kc (K1)) 23, blk (w9.heap.size) (kc (K0)) 23, blk (w4.heap.size) (kc (k1)) 23, blk (w.heap.size) (plc (plA)) 25] := h_
    clear h_
    refine wl_fare kn ?_
    simp (config := { maxSteps := 10000000 }) (disch := omega) only [fx, pv, kx]
    refine wl_nil (κ38 _ _ ?_)
    refine wp_seq_k fun _ κ42 => wl_region (wl_fare kn ?_)
    simp (config := { maxSteps := 10000000 }) (disch := omega) only [fx, pv, kx]
    refine wl_give rfl (g_call 22 _ _ [.pointer (some ⟨p22, 0, none⟩)] (kf22 _ _) rfl ((keep1 0 rfl (fun R_ h_ => waits_e h_ 1 w1 (by omega)) hM).mono ?_))
    rintro e w43 ⟨rfl, h_⟩
    refine ⟨_, rfl, ?_⟩
    replace hM : Ms w w43 [rv p22 (S1), blk (p33) (pkc (3) (⟨#[116, 104, 114, 101, 101]⟩) (G3) (1) (K1)) 39, blk (w28.heap.size) (pkc (1) (⟨#[111, 110, 101]⟩) (G1) (0) (zk)) 39, blk (w17.heap.size) (kc (K3)) 23, blk (w13.heap.size) (kc (K1)) 23, blk (w9.heap.size) (kc (K0)) 23, blk (w4.heap.size) (kc (k1)) 23, blk (w.heap.size) (plc (plA)) 25] := h_
    clear h_
    refine wl_fare kn ?_
    simp (config := { maxSteps := 10000000 }) (disch := omega) only [fx, pv, kx]
    refine wl_nil (κ42 _ _ ?_)
    refine wp_seq_k fun _ κ44 => wl_region (wl_fare kn ?_)
    simp (config := { maxSteps := 10000000 }) (disch := omega) only [fx, pv, kx]
    refine wl_give rfl (g_load_all 39 _ (p33) (pkc (3) (⟨#[116, 104, 114, 101, 101]⟩) (G3) (1) (K1)) 39 _ rfl (hM.get 1 rfl) Tryz.underlying39 rfl (szPk _ _ _ _ _) ?_)
    try simp only [nz]
    refine wl_give rfl (g_call 15 _ _ [.pointer (some ⟨p22, 0, none⟩), .agg (pkc (3) (⟨#[116, 104, 114, 101, 101]⟩) (G3) (1) (K1)).toArray, .int .i64 (25)] (kf15 _ _) rfl ((got_s hM hT o1 ⟨3, ⟨#[116, 104, 114, 101, 101]⟩, G3, 1, K1⟩ 25 ([(1, ⟨#[111, 110, 101]⟩)] : List Thg) (by decide) 0 S2 h3).mono ?_))
    rintro e w45 ⟨g46, k47, rfl, h_⟩
    refine ⟨_, rfl, ?_⟩
    replace hM : Ms w w45 [sl 73 2 g46 k47 1 (tcs [(1, ⟨#[111, 110, 101]⟩)]), rv p22 (S2), blk (p33) (pkc (3) (⟨#[116, 104, 114, 101, 101]⟩) (G3) (1) (K1)) 39, blk (w28.heap.size) (pkc (1) (⟨#[111, 110, 101]⟩) (G1) (0) (zk)) 39, blk (w17.heap.size) (kc (K3)) 23, blk (w13.heap.size) (kc (K1)) 23, blk (w9.heap.size) (kc (K0)) 23, blk (w4.heap.size) (kc (k1)) 23, blk (w.heap.size) (plc (plA)) 25] := h_
    clear h_
    refine wl_fare kn ?_
    simp (config := { maxSteps := 10000000 }) (disch := omega) only [fx, pv, kx]
    refine wl_nil (κ44 _ _ ?_)
    refine wp_seq_k fun _ κ48 => wl_region (wl_fare kn ?_)
    simp (config := { maxSteps := 10000000 }) (disch := omega) only [fx, pv, kx]
    refine wl_give rfl (g_load_all 39 _ (w28.heap.size) (pkc (1) (⟨#[111, 110, 101]⟩) (G1) (0) (zk)) 39 _ rfl (hM.get 3 rfl) Tryz.underlying39 rfl (szPk _ _ _ _ _) ?_)
    try simp only [nz]
    refine wl_give rfl (g_call 15 _ _ [.pointer (some ⟨p22, 0, none⟩), .agg (pkc (1) (⟨#[111, 110, 101]⟩) (G1) (0) (zk)).toArray, .int .i64 (26)] (kf15 _ _) rfl ((got_n (show Ms w w45 [rv p22 (S2), sl 73 2 g46 k47 1 (tcs [(1, ⟨#[111, 110, 101]⟩)]), blk (p33) (pkc (3) (⟨#[116, 104, 114, 101, 101]⟩) (G3) (1) (K1)) 39, blk (w28.heap.size) (pkc (1) (⟨#[111, 110, 101]⟩) (G1) (0) (zk)) 39, blk (w17.heap.size) (kc (K3)) 23, blk (w13.heap.size) (kc (K1)) 23, blk (w9.heap.size) (kc (K0)) 23, blk (w4.heap.size) (kc (k1)) 23, blk (w.heap.size) (plc (plA)) 25] from (hM.up 1 rfl)) hT o2 ⟨1, ⟨#[111, 110, 101]⟩, G1, 0, zk⟩ 26 14 S2 h4).mono ?_))
    rintro e w49 ⟨o50, k51, rfl, h_⟩
    refine ⟨_, rfl, ?_⟩
    replace hM : Ms w w49 [rv p22 (S2), sl 73 2 g46 k47 1 (tcs [(1, ⟨#[111, 110, 101]⟩)]), blk (p33) (pkc (3) (⟨#[116, 104, 114, 101, 101]⟩) (G3) (1) (K1)) 39, blk (w28.heap.size) (pkc (1) (⟨#[111, 110, 101]⟩) (G1) (0) (zk)) 39, blk (w17.heap.size) (kc (K3)) 23, blk (w13.heap.size) (kc (K1)) 23, blk (w9.heap.size) (kc (K0)) 23, blk (w4.heap.size) (kc (k1)) 23, blk (w.heap.size) (plc (plA)) 25] := h_
    clear h_
    refine wl_fare kn ?_
    simp (config := { maxSteps := 10000000 }) (disch := omega) only [fx, pv, kx]
    refine wl_nil (κ48 _ _ ?_)
    refine wp_seq_k fun _ κ52 => wl_region (wl_fare kn ?_)
    simp (config := { maxSteps := 10000000 }) (disch := omega) only [fx, pv, kx]
    refine wl_give rfl (g_bldPk1 _ (9) rfl ?_)
    try simp only [nz]
    refine wl_give rfl (g_call 15 _ _ [.pointer (some ⟨p22, 0, none⟩), .agg (pkc (9) (⟨#[]⟩) (⟨#[]⟩) (0) (zk)).toArray, .int .i64 (0)] (kf15 _ _) rfl ((got_n hM hT o2 ⟨9, ⟨#[]⟩, ⟨#[]⟩, 0, zk⟩ 0 2 S2 h5).mono ?_))
    rintro e w53 ⟨o54, k55, rfl, h_⟩
    refine ⟨_, rfl, ?_⟩
    replace hM : Ms w w53 [rv p22 (S2), sl 73 2 g46 k47 1 (tcs [(1, ⟨#[111, 110, 101]⟩)]), blk (p33) (pkc (3) (⟨#[116, 104, 114, 101, 101]⟩) (G3) (1) (K1)) 39, blk (w28.heap.size) (pkc (1) (⟨#[111, 110, 101]⟩) (G1) (0) (zk)) 39, blk (w17.heap.size) (kc (K3)) 23, blk (w13.heap.size) (kc (K1)) 23, blk (w9.heap.size) (kc (K0)) 23, blk (w4.heap.size) (kc (k1)) 23, blk (w.heap.size) (plc (plA)) 25] := h_
    clear h_
    refine wl_fare kn ?_
    simp (config := { maxSteps := 10000000 }) (disch := omega) only [fx, pv, kx]
    refine wl_nil (κ52 _ _ ?_)
    refine wp_seq_k fun _ κ56 => wl_region (wl_fare kn ?_)
    simp (config := { maxSteps := 10000000 }) (disch := omega) only [fx, pv, kx]
    refine wl_give rfl (g_load_all 23 _ (w17.heap.size) (kc (K3)) 23 _ rfl (hM.get 4 rfl) Tryz.underlying23 rfl (szK _) ?_)
    try simp only [nz]
    refine wl_give rfl (g_call 18 _ _ [.pointer (some ⟨p22, 0, none⟩), .agg (kc (K3)).toArray, .int .i64 (3)] (kf18 _ _) rfl ((learn_s hM hT o2 K3 3 ([(3, ⟨#[116, 104, 114, 101, 101]⟩)] : List Thg) (by decide) 0 S3 h6).mono ?_))
    rintro e w57 ⟨g58, k59, rfl, h_⟩
    refine ⟨_, rfl, ?_⟩
    replace hM : Ms w w57 [sl 73 2 g58 k59 1 (tcs [(3, ⟨#[116, 104, 114, 101, 101]⟩)]), rv p22 (S3), sl 73 2 g46 k47 1 (tcs [(1, ⟨#[111, 110, 101]⟩)]), blk (p33) (pkc (3) (⟨#[116, 104, 114, 101, 101]⟩) (G3) (1) (K1)) 39, blk (w28.heap.size) (pkc (1) (⟨#[111, 110, 101]⟩) (G1) (0) (zk)) 39, blk (w17.heap.size) (kc (K3)) 23, blk (w13.heap.size) (kc (K1)) 23, blk (w9.heap.size) (kc (K0)) 23, blk (w4.heap.size) (kc (k1)) 23, blk (w.heap.size) (plc (plA)) 25] := h_
    clear h_
    refine wl_fare kn ?_
    simp (config := { maxSteps := 10000000 }) (disch := omega) only [fx, pv, kx]
    refine wl_nil (κ56 _ _ ?_)
    refine wp_seq_k fun _ κ60 => wl_region (wl_fare kn ?_)
    simp (config := { maxSteps := 10000000 }) (disch := omega) only [fx, pv, kx]
    refine wl_give rfl (g_load_all 23 _ (w13.heap.size) (kc (K1)) 23 _ rfl (hM.get 6 rfl) Tryz.underlying23 rfl (szK _) ?_)
    try simp only [nz]
    refine wl_give rfl (g_call 18 _ _ [.pointer (some ⟨p22, 0, none⟩), .agg (kc (K1)).toArray, .int .i64 (3)] (kf18 _ _) rfl ((learn_n (show Ms w w57 [rv p22 (S3), sl 73 2 g58 k59 1 (tcs [(3, ⟨#[116, 104, 114, 101, 101]⟩)]), sl 73 2 g46 k47 1 (tcs [(1, ⟨#[111, 110, 101]⟩)]), blk (p33) (pkc (3) (⟨#[116, 104, 114, 101, 101]⟩) (G3) (1) (K1)) 39, blk (w28.heap.size) (pkc (1) (⟨#[111, 110, 101]⟩) (G1) (0) (zk)) 39, blk (w17.heap.size) (kc (K3)) 23, blk (w13.heap.size) (kc (K1)) 23, blk (w9.heap.size) (kc (K0)) 23, blk (w4.heap.size) (kc (k1)) 23, blk (w.heap.size) (plc (plA)) 25] from (hM.up 1 rfl)) hT o3 K1 3 13 S3 h7).mono ?_))
    rintro e w61 ⟨o62, k63, rfl, h_⟩
    refine ⟨_, rfl, ?_⟩
    replace hM : Ms w w61 [rv p22 (S3), sl 73 2 g58 k59 1 (tcs [(3, ⟨#[116, 104, 114, 101, 101]⟩)]), sl 73 2 g46 k47 1 (tcs [(1, ⟨#[111, 110, 101]⟩)]), blk (p33) (pkc (3) (⟨#[116, 104, 114, 101, 101]⟩) (G3) (1) (K1)) 39, blk (w28.heap.size) (pkc (1) (⟨#[111, 110, 101]⟩) (G1) (0) (zk)) 39, blk (w17.heap.size) (kc (K3)) 23, blk (w13.heap.size) (kc (K1)) 23, blk (w9.heap.size) (kc (K0)) 23, blk (w4.heap.size) (kc (k1)) 23, blk (w.heap.size) (plc (plA)) 25] := h_
    clear h_
    refine wl_fare kn ?_
    simp (config := { maxSteps := 10000000 }) (disch := omega) only [fx, pv, kx]
    refine wl_nil (κ60 _ _ ?_)
    refine wp_seq_k fun _ κ64 => ?_
    (try simp only [List.append_eq, List.cons_append, List.nil_append])
    refine wl_text (C := fun wx => Ms w wx [rv p22 (S3), sl 73 2 g58 k59 1 (tcs [(3, ⟨#[116, 104, 114, 101, 101]⟩)]), sl 73 2 g46 k47 1 (tcs [(1, ⟨#[111, 110, 101]⟩)]), blk (p33) (pkc (3) (⟨#[116, 104, 114, 101, 101]⟩) (G3) (1) (K1)) 39, blk (w28.heap.size) (pkc (1) (⟨#[111, 110, 101]⟩) (G1) (0) (zk)) 39, blk (w17.heap.size) (kc (K3)) 23, blk (w13.heap.size) (kc (K1)) 23, blk (w9.heap.size) (kc (K0)) 23, blk (w4.heap.size) (kc (k1)) 23, blk (w.heap.size) (plc (plA)) 25]) (by kernel_rfl) [.int .i64 (0), .bool true, .bool true, .int .i64 (1), .bool true, .bool true, .bool true, .slice o36 (0) (k37), .int .i64 (0), .bool true, .bool true, .bool true, .int .i64 (0), .bool true, .bool true, .bool true, .int .i64 (11), .bool true, .bool true, .bool true, .int .i64 (1), .bool true, .bool true, .bool true, .slice (some ⟨g46, 0, none⟩) (1) (k47), .int .i64 (1), .bool true, .bool true, .bool true, .slice (some ⟨g46, 0, none⟩) (1) (k47), .pointer (some ⟨g46, 0, none⟩), .agg (tc (1, ⟨#[111, 110, 101]⟩)).toArray, .agg (tc (1, ⟨#[111, 110, 101]⟩)).toArray, .bool true, .bool true, .bool true, .int .i64 (0), .bool true, .bool true, .bool true, .int .i64 (14), .bool true, .bool true, .bool true, .int .i64 (2), .bool true, .bool true, .bool true, .slice (some ⟨g58, 0, none⟩) (1) (k59), .int .i64 (1), .bool true, .bool true, .bool true, .slice (some ⟨g58, 0, none⟩) (1) (k59), .pointer (some ⟨g58, 0, none⟩), .pointer (some ⟨g58, 1, none⟩), .string (⟨#[116, 104, 114, 101, 101]⟩), .bool true, .bool true, .bool true, .int .i64 (0), .bool true, .bool true, .bool true, .int .i64 (13), .bool true, .bool true, .bool true, .pointer (some ⟨p22, 0, none⟩), .int .i64 (3), .bool true, .bool true, .bool true, .pointer (some ⟨p22, 0, none⟩), .int .i64 (0), .bool true, .bool true, .bool true, .pointer (some ⟨p22, 0, none⟩), .int .i64 (1), .bool true, .bool true, .bool true] (by rfl) hM (by simp only [fullL, Act.put, st_a, st_s, st_0]; exact ⟨mvL rfl rfl, fun _ hM => gw rfl (g_ieq 31 _ _ .i64 (0) (0) true rfl rfl (by decide) ⟨rfl, hM⟩), mvL rfl rfl, mvL rfl rfl, fun _ hM => gw rfl (g_ieq 31 _ _ .i64 (1) (1) true rfl rfl (by decide) ⟨rfl, hM⟩), ptL rfl rfl rfl, mvL rfl rfl, mvL rfl rfl, fun _ hM => gw rfl (g_len _ 43 73 (o36) (0) (k37) (0) Tryz.underlying43 rfl (rfl) ⟨rfl, hM⟩), fun _ hM => gw rfl (g_ieq 3 _ _ .i64 (0) (0) true rfl rfl (by decide) ⟨rfl, hM⟩), ptL rfl rfl rfl, mvL rfl rfl, mvL rfl rfl, fun _ hM => gw rfl (g_ieq 31 _ _ .i64 (0) (0) true rfl rfl (by decide) ⟨rfl, hM⟩), ptL rfl rfl rfl, mvL rfl rfl, mvL rfl rfl, fun _ hM => gw rfl (g_ieq 31 _ _ .i64 (11) (11) true rfl rfl (by decide) ⟨rfl, hM⟩), ptL rfl rfl rfl, mvL rfl rfl, mvL rfl rfl, fun _ hM => gw rfl (g_ieq 3 _ _ .i64 (1) (1) true rfl rfl (by decide) ⟨rfl, hM⟩), ptL rfl rfl rfl, mvL rfl rfl, mvL rfl rfl, fun _ hM => gw rfl (g_len _ 43 73 ((some ⟨g46, 0, none⟩)) (1) (k47) (1) Tryz.underlying43 rfl (rfl) ⟨rfl, hM⟩), fun _ hM => gw rfl (g_ieq 3 _ _ .i64 (1) (1) true rfl rfl (by decide) ⟨rfl, hM⟩), ptL rfl rfl rfl, mvL rfl rfl, mvL rfl rfl, fun _ hM => gw rfl (g_ix _ _ 43 73 2 Tryz.underlying43 szof73 g46 0 1 k47 0 (0) _ rfl rfl rfl (by decide) rfl ⟨rfl, hM⟩), fun _ hM => gw rfl (g_ldTA _ (g46) (0) ((1, ⟨#[111, 110, 101]⟩) : Thg) rfl (sl_cell (show Ms w _ [sl 73 2 g46 k47 1 (tcs [(1, ⟨#[111, 110, 101]⟩)]), rv p22 (S3), sl 73 2 g58 k59 1 (tcs [(3, ⟨#[116, 104, 114, 101, 101]⟩)]), blk (p33) (pkc (3) (⟨#[116, 104, 114, 101, 101]⟩) (G3) (1) (K1)) 39, blk (w28.heap.size) (pkc (1) (⟨#[111, 110, 101]⟩) (G1) (0) (zk)) 39, blk (w17.heap.size) (kc (K3)) 23, blk (w13.heap.size) (kc (K1)) 23, blk (w9.heap.size) (kc (K0)) 23, blk (w4.heap.size) (kc (k1)) 23, blk (w.heap.size) (plc (plA)) 25] from (hM.up 2 rfl)) 0 _ rfl) (sl_cell (show Ms w _ [sl 73 2 g46 k47 1 (tcs [(1, ⟨#[111, 110, 101]⟩)]), rv p22 (S3), sl 73 2 g58 k59 1 (tcs [(3, ⟨#[116, 104, 114, 101, 101]⟩)]), blk (p33) (pkc (3) (⟨#[116, 104, 114, 101, 101]⟩) (G3) (1) (K1)) 39, blk (w28.heap.size) (pkc (1) (⟨#[111, 110, 101]⟩) (G1) (0) (zk)) 39, blk (w17.heap.size) (kc (K3)) 23, blk (w13.heap.size) (kc (K1)) 23, blk (w9.heap.size) (kc (K0)) 23, blk (w4.heap.size) (kc (k1)) 23, blk (w.heap.size) (plc (plA)) 25] from (hM.up 2 rfl)) 1 _ rfl) ⟨rfl, hM⟩), fun _ hM => gw rfl (g_bld73 _ _ (1) (⟨#[111, 110, 101]⟩) rfl rfl ⟨rfl, hM⟩), fun _ hM => gw rfl (g_thE _ _ (1, ⟨#[111, 110, 101]⟩) (1, ⟨#[111, 110, 101]⟩) true rfl rfl (decide_eq_true rfl) ⟨rfl, hM⟩), ptL rfl rfl rfl, mvL rfl rfl, mvL rfl rfl, fun _ hM => gw rfl (g_ieq 31 _ _ .i64 (0) (0) true rfl rfl (by decide) ⟨rfl, hM⟩), ptL rfl rfl rfl, mvL rfl rfl, mvL rfl rfl, fun _ hM => gw rfl (g_ieq 31 _ _ .i64 (14) (14) true rfl rfl (by decide) ⟨rfl, hM⟩), ptL rfl rfl rfl, mvL rfl rfl, mvL rfl rfl, fun _ hM => gw rfl (g_ieq 31 _ _ .i64 (2) (2) true rfl rfl (by decide) ⟨rfl, hM⟩), ptL rfl rfl rfl, mvL rfl rfl, mvL rfl rfl, fun _ hM => gw rfl (g_len _ 43 73 ((some ⟨g58, 0, none⟩)) (1) (k59) (1) Tryz.underlying43 rfl (rfl) ⟨rfl, hM⟩), fun _ hM => gw rfl (g_ieq 3 _ _ .i64 (1) (1) true rfl rfl (by decide) ⟨rfl, hM⟩), ptL rfl rfl rfl, mvL rfl rfl, mvL rfl rfl, fun _ hM => gw rfl (g_ix _ _ 43 73 2 Tryz.underlying43 szof73 g58 0 1 k59 0 (0) _ rfl rfl rfl (by decide) rfl ⟨rfl, hM⟩), fun _ hM => gw rfl (g_fa 73 _ g58 (0) (1) 1 rfl (fa73_1 _ _ _) ⟨rfl, hM⟩), fun _ hM => gw rfl (g_ld1 9 _ (g58) (1) _ rfl (ld9 _ _ _ _ (sl_cell (show Ms w _ [sl 73 2 g58 k59 1 (tcs [(3, ⟨#[116, 104, 114, 101, 101]⟩)]), rv p22 (S3), sl 73 2 g46 k47 1 (tcs [(1, ⟨#[111, 110, 101]⟩)]), blk (p33) (pkc (3) (⟨#[116, 104, 114, 101, 101]⟩) (G3) (1) (K1)) 39, blk (w28.heap.size) (pkc (1) (⟨#[111, 110, 101]⟩) (G1) (0) (zk)) 39, blk (w17.heap.size) (kc (K3)) 23, blk (w13.heap.size) (kc (K1)) 23, blk (w9.heap.size) (kc (K0)) 23, blk (w4.heap.size) (kc (k1)) 23, blk (w.heap.size) (plc (plA)) 25] from (hM.up 1 rfl)) 1 _ rfl)) ⟨rfl, hM⟩), fun _ hM => gw rfl (g_seql 9 _ _ (⟨#[116, 104, 114, 101, 101]⟩) rfl rfl ⟨rfl, hM⟩), ptL rfl rfl rfl, mvL rfl rfl, mvL rfl rfl, fun _ hM => gw rfl (g_ieq 31 _ _ .i64 (0) (0) true rfl rfl (by decide) ⟨rfl, hM⟩), ptL rfl rfl rfl, mvL rfl rfl, mvL rfl rfl, fun _ hM => gw rfl (g_ieq 31 _ _ .i64 (13) (13) true rfl rfl (by decide) ⟨rfl, hM⟩), ptL rfl rfl rfl, mvL rfl rfl, mvL rfl rfl, fun _ hM => gw rfl (g_call 21 _ _ [.pointer (some ⟨p22, 0, none⟩)] (kf21 _ _) rfl ((keep1 0 rfl (fun R_ h_ => at_e h_ 3 v1) hM).mono (fun _ _ ⟨h1_, h2_⟩ => ⟨_, h1_, rfl, h2_⟩))), fun _ hM => gw rfl (g_ieq 3 _ _ .i64 (3) (3) true rfl rfl (by decide) ⟨rfl, hM⟩), ptL rfl rfl rfl, mvL rfl rfl, mvL rfl rfl, fun _ hM => gw rfl (g_call 22 _ _ [.pointer (some ⟨p22, 0, none⟩)] (kf22 _ _) rfl ((keep1 0 rfl (fun R_ h_ => waits_e h_ 0 v2 (by omega)) hM).mono (fun _ _ ⟨h1_, h2_⟩ => ⟨_, h1_, rfl, h2_⟩))), fun _ hM => gw rfl (g_ieq 3 _ _ .i64 (0) (0) true rfl rfl (by decide) ⟨rfl, hM⟩), ptL rfl rfl rfl, mvL rfl rfl, mvL rfl rfl, fun _ hM => gw rfl (g_call 23 _ _ [.pointer (some ⟨p22, 0, none⟩), .int .i64 (1)] (kf23 _ _) rfl ((keep1 0 rfl (fun R_ h_ => believed_e h_ 1 1 v3) hM).mono (fun _ _ ⟨h1_, h2_⟩ => ⟨_, h1_, rfl, h2_⟩))), fun _ hM => gw rfl (g_ieq 3 _ _ .i64 (1) (1) true rfl rfl (by decide) ⟨rfl, hM⟩), ptL rfl rfl rfl, asL rfl rfl, trivial⟩) ?_
    simp only [fullL, Act.put, st_a, st_s, st_0]
    intro w65 hM
    refine κ64 _ _ (wp_ret ?_)
    go_ret
    exact ⟨rfl, hM.below⟩
end Go.Proofs.YtcclcemdodoiiaaGreatDoor
namespace Go.Proofs.YtcclcemdodoiiaaGreatDoor
set_option maxRecDepth 10000
open Go Go.RowKit
set_option linter.unusedVariables false
set_option linter.unusedSimpArgs false

theorem blv_one {S : Rc} {i : Int} {c : ByteArray} (hL : S.L = [(i, c)]) (hi : i ≤ S.n) (h1 : hd16 c = tgs (wl (S.n - i).toNat S.k) i (tl16 c)) (h2 : hasT i (tl16 c) S.B = false) : blv S = ([(i, tl16 c)], { S with L := [], B := S.B ++ [(i, tl16 c)] }) := by
  have e1 : ivs [(i, c)] = [i] := rfl
  have e2 : ofI i [(i, c)] = [c] := by simp [ofI]
  have e3 : notI i [(i, c)] = [] := by simp [notI]
  have e4 : blF S.k S.n S.B [i] (([], S.wr), [(i, c)]) = (([(i, tl16 c)], S.wr), []) := by
    show blS S.k S.n S.B (([], S.wr), [(i, c)]) i = _
    rw [blS_lo hi]
    dsimp only
    rw [e2, e3, List.append_nil]
    show (([] ++ (tkS _ i S.B ([], S.wr) c).1, (tkS _ i S.B ([], S.wr) c).2), _) = _
    rw [tkS_new h1 (by show hasT i _ (S.B ++ []) = false; rw [List.append_nil]; exact h2)]
    rfl
  unfold blv
  rw [hL, e1, e4]
theorem bpE_empty {x y i : Int} (s : ByteArray) (hx : 1 ≤ x) (hy : 1 ≤ y) (hi : 1 ≤ i) : bpE x y i s [] = 0 := by
  unfold bpE
  have e1 : hasT i s [] = false := rfl
  have e2 : ofI i [] = [] := rfl
  have e3 : ivs [] = [] := rfl
  rw [if_neg (by omega), e1, e2, e3]
  simp only [List.length_nil]
  rw [if_neg (by decide), if_neg (by omega)]
theorem bpE_there {x y i : Int} {s : ByteArray} {L : List Thg} (hi : 1 ≤ i) (h : hasT i s L = true) : bpE x y i s L = 11 := by
  unfold bpE; rw [if_neg (by omega), if_pos h]
theorem awake_any (w : World) (hT : Tabs w) : Calls Tryz.prog 10 #[] w fun e w' => e = .returned (.bool true) ∧ Below w.heap.size w w' := by
  have hK : ∀ i : Int, 0 ≤ i → i ≤ 5 → ky k1 5 i = (kyk k1 plA i, 0) := fun i h1 h2 => ky_kyk okA h1 h2
  obtain ⟨K0, e0⟩ : ∃ K, kyk k1 plA 0 = K := ⟨_, rfl⟩
  obtain ⟨K1, e1⟩ : ∃ K, kyk k1 plA 1 = K := ⟨_, rfl⟩
  obtain ⟨K3, e3⟩ : ∃ K, kyk k1 plA 3 = K := ⟨_, rfl⟩
  have f0 : K0 = wl 5 (tg k1 chainW) := by rw [← e0]; exact keyA 0 (by decide)
  have f1 : K1 = wl 4 (tg k1 chainW) := by rw [← e1]; exact keyA 1 (by decide)
  have f3 : K3 = wl 2 (tg k1 chainW) := by rw [← e3]; exact keyA 3 (by decide)
  have l1 : (wl 1 K1).l = K0.l := by rw [f1, f0, wl_add]
  have l3 : (wl 2 K3).l = K1.l := by rw [f3, f1, wl_add]
  have l9 : ¬ (wl 0 K3).l = K1.l := by rw [wl_zero, f3, f1, last2, last4]; decide
  obtain ⟨G1, g1⟩ : ∃ G, tgs K1 1 oneT = G := ⟨_, rfl⟩
  obtain ⟨G3, g3⟩ : ∃ G, tgs K3 3 threeT = G := ⟨_, rfl⟩
  have s1 : G1.size = 16 := by rw [← g1]; exact tgs_size _ _ _
  have s3 : G3.size = 16 := by rw [← g3]; exact tgs_size _ _ _
  have t1 : (G1 ++ oneT).size = 19 := by rw [ByteArray.size_append, s1]; rfl
  have t3 : (G3 ++ threeT).size = 21 := by rw [ByteArray.size_append, s3]; rfl
  have F1 : Fmd plA ⟨1, oneT, G1, 0, zk⟩ := ⟨(by decide : (1 : Int) ≤ 1 ∧ (1 : Int) ≤ plA.ct), s1, (by decide : (oneT).size ≤ 1000), (by decide : (0 : Int) = pte plA 1), .inr rfl⟩
  have F3 : Fmd plA ⟨3, threeT, G3, 1, K1⟩ := ⟨(by decide : (1 : Int) ≤ 3 ∧ (3 : Int) ≤ plA.ct), s3, (by decide : (threeT).size ≤ 1000), (by decide : (1 : Int) = pte plA 3), .inl (by decide : (0 : Int) < 1)⟩
  have p5 : psf plA 1 5 = true := by decide
  have p6 : psf plA 1 6 = true := by decide
  have p26 : psf plA 1 26 = false := by decide
  have p25 : psf plA 3 25 = true := by decide
  have n31 : hasT 3 threeT [(1, oneT)] = false := by decide
  have z0 : ¬ (0 : Int) < 0 := by decide
  have z1 : (0 : Int) < 1 := by decide
  have h1 : got ⟨plA, K0, 0, 9, 2, 3, 0, [], [], 0⟩ ⟨1, oneT, G1, 0, zk⟩ 5 = (([], 0), ⟨plA, K0, 0, 9, 2, 3, 0, [(1, G1 ++ oneT)], [], 0⟩) := got_ok F1 (lnp_none z0) (wtg_put p5 rfl (bpE_empty _ (by decide : (1 : Int) ≤ 2) (by decide : (1 : Int) ≤ 3) (by decide : (1 : Int) ≤ 1)))
  have h2 : got ⟨plA, K0, 0, 9, 2, 3, 0, [(1, G1 ++ oneT)], [], 0⟩ ⟨1, oneT, G1, 0, zk⟩ 6 = (([], 11), ⟨plA, K0, 0, 9, 2, 3, 0, [(1, G1 ++ oneT)], [], 0⟩) := got_ok F1 (lnp_none z0) (wtg_err p6 rfl (bpE_there (by decide : (1 : Int) ≤ 1) (by simp [hasT])) (by decide) (by decide))
  have b1 : blv ⟨plA, K1, 1, 9, 2, 3, 0, [(1, G1 ++ oneT)], [], 0⟩ = ([(1, oneT)], ⟨plA, K1, 1, 9, 2, 3, 0, [], [(1, oneT)], 0⟩) := by
    have := blv_one (S := ⟨plA, K1, 1, 9, 2, 3, 0, [(1, G1 ++ oneT)], [], 0⟩) rfl (Int.le_refl _) (by rw [hd16_app s1, tl16_app s1]; show G1 = tgs (wl 0 K1) 1 _; rw [wl_zero, g1]) rfl
    rw [tl16_app s1] at this
    exact this
  have l1' : (wl ((1 : Int) - 0).toNat K1).l = K0.l := l1
  have q1 : lea ⟨plA, K0, 0, 9, 2, 3, 0, [(1, G1 ++ oneT)], [], 0⟩ K1 1 = (([(1, oneT)], 0), ⟨plA, K1, 1, 9, 2, 3, 0, [], [(1, oneT)], 0⟩) := by
    have h := lea_go (S := ⟨plA, K0, 0, 9, 2, 3, 0, [(1, G1 ++ oneT)], [], 0⟩) (k := K1) (i := 1) (by decide : (1 : Int) ≤ 1) (by decide : (1 : Int) ≤ 5) (by decide : (0 : Int) < 1) (by decide : (1 : Int) - 0 ≤ 9) l1'
    have e : blv { (⟨plA, K0, 0, 9, 2, 3, 0, [(1, G1 ++ oneT)], [], 0⟩ : Rc) with k := K1, n := 1 } = ([(1, oneT)], ⟨plA, K1, 1, 9, 2, 3, 0, [], [(1, oneT)], 0⟩) := b1
    rw [e] at h
    exact h
  have h3 : got ⟨plA, K0, 0, 9, 2, 3, 0, [(1, G1 ++ oneT)], [], 0⟩ ⟨3, threeT, G3, 1, K1⟩ 25 = (([(1, oneT)], 0), ⟨plA, K1, 1, 9, 2, 3, 0, [(3, G3 ++ threeT)], [(1, oneT)], 0⟩) :=
    got_ok F3 ((lnp_some z1).trans q1) (wtg_put (S := ⟨plA, K1, 1, 9, 2, 3, 0, [], [(1, oneT)], 0⟩) p25 n31 (bpE_empty _ (by decide : (1 : Int) ≤ 2) (by decide : (1 : Int) ≤ 3) (by decide : (1 : Int) ≤ 3)))
  have b3 : blv ⟨plA, K3, 3, 9, 2, 3, 0, [(3, G3 ++ threeT)], [(1, oneT)], 0⟩ = ([(3, threeT)], ⟨plA, K3, 3, 9, 2, 3, 0, [], [(1, oneT), (3, threeT)], 0⟩) := by
    have := blv_one (S := ⟨plA, K3, 3, 9, 2, 3, 0, [(3, G3 ++ threeT)], [(1, oneT)], 0⟩) rfl (Int.le_refl _) (by rw [hd16_app s3, tl16_app s3]; show G3 = tgs (wl 0 K3) 3 _; rw [wl_zero, g3]) (by rw [tl16_app s3]; exact n31)
    rw [tl16_app s3] at this
    exact this
  have l3' : (wl ((3 : Int) - 1).toNat K3).l = K1.l := l3
  have h6 : lea ⟨plA, K1, 1, 9, 2, 3, 0, [(3, G3 ++ threeT)], [(1, oneT)], 0⟩ K3 3 = (([(3, threeT)], 0), ⟨plA, K3, 3, 9, 2, 3, 0, [], [(1, oneT), (3, threeT)], 0⟩) := by
    have h := lea_go (S := ⟨plA, K1, 1, 9, 2, 3, 0, [(3, G3 ++ threeT)], [(1, oneT)], 0⟩) (k := K3) (i := 3) (by decide : (1 : Int) ≤ 3) (by decide : (3 : Int) ≤ 5) (by decide : (1 : Int) < 3) (by decide : (3 : Int) - 1 ≤ 9) l3'
    have e : blv { (⟨plA, K1, 1, 9, 2, 3, 0, [(3, G3 ++ threeT)], [(1, oneT)], 0⟩ : Rc) with k := K3, n := 3 } = ([(3, threeT)], ⟨plA, K3, 3, 9, 2, 3, 0, [], [(1, oneT), (3, threeT)], 0⟩) := b3
    rw [e] at h
    exact h
  have m : ∀ (c : ByteArray) (i : Int) (u : Thg), u ∈ [(i, c)] → 1 ≤ i → i ≤ 5 → 16 ≤ c.size → c.size ≤ 1016 → 1 ≤ u.1 ∧ u.1 ≤ plA.ct ∧ 16 ≤ u.2.size ∧ u.2.size ≤ 1016 := fun c i u hu a b d e => by
    obtain rfl := List.mem_singleton.1 hu; exact ⟨a, b, d, e⟩
  refine awake_core w hT K0 K1 K3 G1 G3 ⟨plA, K0, 0, 9, 2, 3, 0, [(1, G1 ++ oneT)], [], 0⟩ ⟨plA, K1, 1, 9, 2, 3, 0, [(3, G3 ++ threeT)], [(1, oneT)], 0⟩ ⟨plA, K3, 3, 9, 2, 3, 0, [], [(1, oneT), (3, threeT)], 0⟩ ⟨e0 ▸ hK 0 (by decide) (by decide)⟩ ⟨e1 ▸ hK 1 (by decide) (by decide)⟩ ⟨e3 ▸ hK 3 (by decide) (by decide)⟩ ⟨g1⟩ ⟨g3⟩
    ⟨⟨okA, (by decide : (0 : Int) ≤ 0), (by decide : (0 : Int) ≤ 5), (by decide : (1 : Int) ≤ 9 ∧ (9 : Int) ≤ 64), (by decide : 1 ≤ 2 ∧ 2 ≤ 64), (by decide : (1 : Int) ≤ 3 ∧ (3 : Int) ≤ 64), fun u hu => by cases hu⟩, ⟨(by decide : 0 + 0 ≤ 1000), (by decide : (0 : Int) ≤ 0), (by decide : (0 : Int) + ((0 : Nat) : Int) ≤ 1000), (by decide : (0 : Int) ≤ 0 ∧ (0 : Int) ≤ 1000)⟩⟩
    ⟨⟨okA, (by decide : (0 : Int) ≤ 0), (by decide : (0 : Int) ≤ 5), (by decide : (1 : Int) ≤ 9 ∧ (9 : Int) ≤ 64), (by decide : 1 ≤ 2 ∧ 2 ≤ 64), (by decide : (1 : Int) ≤ 3 ∧ (3 : Int) ≤ 64), fun u hu => m _ 1 u hu (by decide) (by decide) (by omega) (by omega)⟩, ⟨(by decide : 1 + 0 ≤ 1000), (by decide : (0 : Int) ≤ 0), (by decide : (0 : Int) + ((1 : Nat) : Int) ≤ 1000), (by decide : (0 : Int) ≤ 0 ∧ (0 : Int) ≤ 1000)⟩⟩
    ⟨⟨okA, (by decide : (0 : Int) ≤ 1), (by decide : (1 : Int) ≤ 5), (by decide : (1 : Int) ≤ 9 ∧ (9 : Int) ≤ 64), (by decide : 1 ≤ 2 ∧ 2 ≤ 64), (by decide : (1 : Int) ≤ 3 ∧ (3 : Int) ≤ 64), fun u hu => m _ 3 u hu (by decide) (by decide) (by omega) (by omega)⟩, ⟨(by decide : 1 + 1 ≤ 1000), (by decide : (0 : Int) ≤ 0), (by decide : (0 : Int) + ((1 : Nat) : Int) ≤ 1000), (by decide : (0 : Int) ≤ 0 ∧ (0 : Int) ≤ 1000)⟩⟩
    ⟨⟨okA, (by decide : (0 : Int) ≤ 3), (by decide : (3 : Int) ≤ 5), (by decide : (1 : Int) ≤ 9 ∧ (9 : Int) ≤ 64), (by decide : 1 ≤ 2 ∧ 2 ≤ 64), (by decide : (1 : Int) ≤ 3 ∧ (3 : Int) ≤ 64), fun u hu => by cases hu⟩, ⟨(by decide : 0 + 2 ≤ 1000), (by decide : (0 : Int) ≤ 0), (by decide : (0 : Int) + ((0 : Nat) : Int) ≤ 1000), (by decide : (0 : Int) ≤ 0 ∧ (0 : Int) ≤ 1000)⟩⟩
    h1 h2 rfl h3 ?_ ?_ h6 ?_ rfl rfl ?_
  · exact got_ok F1 (lnp_none z0) (wtg_late p26)
  · exact got_form (fun h => absurd h.1.2 (by show ¬ (9 : Int) ≤ 5; decide))
  · exact lea_other (by decide : (1 : Int) ≤ 3) (by decide : (3 : Int) ≤ 5) (by decide : (3 : Int) ≤ 3) l9
  · rfl
end Go.Proofs.YtcclcemdodoiiaaGreatDoor
