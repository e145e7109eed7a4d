/- What the program's sha.Key and Sum answer. Lengths of keys and states as the program has them; calls among the operations of a statement. -/
import Derived.Test.YtpenicjlpiechaaDoorQShaW2
import Derived.Test.YtpenicjlpiechaaDoorQBas
import Derived.Test.YtpenicjlpiechaaDoorQShelf
import Derived.Test.YtpenicjlpiechaaDoorQLib
namespace Go.Proofs.YtpenicjlpiechaaDoor
set_option maxRecDepth 10000
open Go.RowKit
set_option linter.unusedVariables false
theorem size113 : (Tryd.prog.info? 113).map (·.size) = some 32 := by kernel_rfl
theorem zero113 (w : World) : (zeroValue 113).run Tryd.prog w = .ok (.agg (bc (List.replicate 32 0)).toArray) w := Tryd.zeroValue113 w
theorem bc_one (l : List UInt8) : ∀ v ∈ bc l, v.oneCell' = true := by
  intro v hv; obtain ⟨_, _, rfl⟩ := List.mem_map.1 hv; rfl
theorem pad80 (f : Nat) (w : World) (h1 : 1 ≤ f) (h2 : f ≤ 64) :
    Calls Tryd.prog 91 #[.string ⟨#[128]⟩, .int .i64 f] w fun e w' => e = .returned (.string ⟨(128 :: List.replicate (f - 1) 0).toArray⟩) ∧ Below w.heap.size w w' := by
  by_cases h : f = 1
  · subst h
    refine (pad_full ⟨#[128]⟩ 1 w (by decide) (by decide) (by decide)).mono ?_
    rintro e w' ⟨rfl, rfl⟩
    exact ⟨rfl, Below.refl _ _⟩
  · have hs : (⟨#[128]⟩ : ByteArray).size = 1 := rfl
    refine (pad_more ⟨#[128]⟩ f 1 (f - 1) w (by rw [hs]; exact Nat.mod_eq_of_lt (by omega)) (by omega) (by omega) (by omega) (by omega) (by decide)).mono ?_
    rintro e w' ⟨rfl, hb⟩
    exact ⟨rfl, hb⟩
theorem wrap_i64 (n : Int) (h0 : 0 ≤ n) (h1 : n < 9223372036854775808) : IntKind.i64.wrap n = n := by
  simp [IntKind.wrap, IntKind.bits, IntKind.signed]; omega
/-- What Key has laid after k rounds. -/
def kpl (G : List (BitVec 32)) (k : Nat) : List UInt8 := bytesW (G.take k) ++ List.replicate (32 - 4 * k) 0
theorem kpl_length (G : List (BitVec 32)) (k : Nat) (hG : G.length = 8) (hk : k ≤ 8) : (kpl G k).length = 32 := by
  rw [kpl, List.length_append, bytesW_length, List.length_take, List.length_replicate]; omega
theorem bytesW_snoc (l : List (BitVec 32)) (x : BitVec 32) : bytesW (l ++ [x]) = bytesW l ++ putL x.toNat 4 := by simp [bytesW]
theorem kpl_step (G : List (BitVec 32)) (k : Nat) (hG : G.length = 8) (hk : k < 8) (x : BitVec 32) (hx : G.getD k 0 = x) :
    (bc (kpl G k)).take (4 * k) ++ (putL x.toNat 4).map (fun c => Value.int .u8 c.toNat) ++ (bc (kpl G k)).drop (4 * k + 4) = bc (kpl G (k + 1)) := by
  have hl : (bytesW (G.take k)).length = 4 * k := by rw [bytesW_length, List.length_take]; omega
  have hx2 : G[k]'(by omega) = x := by rw [← hx]; simp [show k < G.length by omega]
  have e1 : (bc (kpl G k)).take (4 * k) = bc (bytesW (G.take k)) := by
    rw [kpl, bc, List.map_append, List.take_append_of_le_length (by simp; omega), List.take_of_length_le (by simp; omega)]; rfl
  have e2 : (bc (kpl G k)).drop (4 * k + 4) = bc (List.replicate (32 - 4 * (k + 1)) 0) := by
    rw [kpl, bc, List.map_append, List.drop_append, List.length_map, hl, List.drop_eq_nil_of_le (by simp; omega), List.nil_append, show 4 * k + 4 - 4 * k = 4 by omega, ← List.map_drop, List.drop_replicate, show 32 - 4 * k - 4 = 32 - 4 * (k + 1) by omega]; rfl
  rw [e1, e2, kpl, List.take_succ_eq_append_getElem (by omega), bytesW_snoc, hx2]
  simp [bc]
theorem kpl_end (G : List (BitVec 32)) (hG : G.length = 8) : kpl G 8 = bytesW G := by rw [kpl, List.take_of_length_le (by omega)]; simp
theorem put8 (n : Nat) (w : World) :
    Calls Tryd.prog 66 #[.int .u64 ((n : Int) * 8), .int .i64 8] w fun e w' => e = .returned (.string ⟨(putL (8 * n) 8).toArray⟩) ∧ Below w.heap.size w w' := by
  have h := put_mid (8 * n) 8 w (by decide)
  rw [show (((8 * n : Nat)) : Int) = (n : Int) * 8 by omega] at h
  exact h
theorem cf18 (vs : Array Value) (w : World) : (callFunc 86 vs).run Tryd.prog w = .ok (.enter 86 vs) w := by go_simp
theorem cf27 (vs : Array Value) (w : World) : (callFunc 91 vs).run Tryd.prog w = .ok (.enter 91 vs) w := by go_simp
theorem cf26 (vs : Array Value) (w : World) : (callFunc 66 vs).run Tryd.prog w = .ok (.enter 66 vs) w := by go_simp
set_option maxRecDepth 100000 in
set_option maxHeartbeats 1000000 in
theorem key_any (s : St) (h : s.Ok) (w : World) (hT : Tabs w) (hn : s.n ≤ 549755813888) :
    Calls Tryd.prog 87 #[.agg (stc s).toArray] w fun e w' => e = .returned (.agg (bc (key s)).toArray) ∧ Below w.heap.size w w' := by
  have hts := hT.size
  obtain ⟨f, hf⟩ : ∃ f : Nat, 64 - ((s.n : Int) + 8) % 64 = (f : Int) := ⟨(64 - ((s.n : Int) + 8) % 64).toNat, by omega⟩
  have hf1 : 1 ≤ f := by omega
  have hf2 : f ≤ 64 := by omega
  have hfb : Hid (fillB s.n = 128 :: List.replicate (f - 1) 0) := by show _ = _; rw [fillB]; congr 2; omega
  go_enter Tryd.func87, Tryd.ntmps87
  go_wp2_with (first
    | ((with_reducible refine at_box 136 ?_); refine L_box 136 _ (stc s) rfl ?_; intro w1 h1 hb1)
    | ((with_reducible refine at_alloc 113 ?_); refine L_alloc 113 _ zero113 ?_; intro w2 h2 hb2; have c72 := (h2.blk hb1 (by have := hb1.lt; omega)).cell 72 _ (stc_n s h)))
  have n1 : w.heap.size < w1.heap.size := hb1.lt
  have n2 : w1.heap.size < w2.heap.size := hb2.lt
  have b1 := h2.blk hb1 (by omega)
  have hB2 : Below w.heap.size w w2 := h2.below (h1.below (Below.refl _ _) (Nat.le_refl _)) h1.size
  clear h1 h2 hb1 c72
  refine (put8 s.n w2).mono ?_; rintro e w3 ⟨rfl, hb3⟩
  have n3 : w2.heap.size ≤ w3.heap.size := hb3.size
  have hB3 : Below w.heap.size w w3 := hB2.trans (hb3.mono (by omega))
  have c1 := b1.below hb3 (by omega)
  have c2 := hb2.below hb3 (by omega)
  clear hB2 hb3 b1 hb2
  obtain ⟨C, hC⟩ : ∃ C : ByteArray, (⟨(putL (8 * s.n) 8).toArray⟩ : ByteArray) = C := ⟨_, rfl⟩
  rw [hC]
  obtain ⟨F, hF⟩ : ∃ F : ByteArray, (⟨(128 :: List.replicate (f - 1) 0).toArray⟩ : ByteArray) = F := ⟨_, rfl⟩
  have HC : Hid (C.data.toList = putL (8 * s.n) 8) := by show _ = _; rw [← hC]
  have HF : Hid (F.data.toList = fillB s.n) := by show _ = _; rw [← hF, hfb.out]
  have hCs : C.size = 8 := by rw [Lib.size_eq, HC.out, putL_length]
  have hFs : F.size = f := by rw [Lib.size_eq, ← hF]; simp; omega
  have HFF : Hid ((⟨(128 :: List.replicate (f - 1) 0).toArray⟩ : ByteArray) = F) := hF
  clear hC hF
  obtain ⟨s1, hs1⟩ : ∃ s1, more s F.data.toList = s1 := ⟨_, rfl⟩
  obtain ⟨s2, hs2⟩ : ∃ s2, more s1 C.data.toList = s2 := ⟨_, rfl⟩
  have o1 : s1.Ok := by rw [← hs1]; exact more_ok _ _ h
  have o2 : s2.Ok := by rw [← hs2]; exact more_ok _ _ o1
  have m1 : s1.n = s.n + F.size := by rw [← hs1, more_n, Lib.size_eq]
  have H1 : Hid (more s F.data.toList = s1) := hs1
  have H2 : Hid (more s1 C.data.toList = s2) := hs2
  have hz35 : Hid ((Tryd.prog.info? 136).map (·.size) = some (stc s).length) := by show _ = _; rw [stc_length s h]; exact size136
  have hz2 : Hid ((Tryd.prog.info? 136).map (·.size) = some (stc s2).length) := by show _ = _; rw [stc_length s2 o2]; exact size136
  have hl2 : Hid ((stc s2).length = (stc zeroSt).length) := by show _ = _; rw [stc_length s2 o2]; rfl
  have HS1 : Hid (s1.n = s.n + F.size) := m1
  clear hs1 hs2 m1
  go_wp2_with fail
  clear hf
  refine wp_region_inv (by kernel_rfl) (by kernel_rfl) (fun t v wx => Below w3.heap.size w3 wx ∧ (t 0 = true → v 0 = .agg (stc s).toArray) ∧ (t 1 = true → v 1 = .int .i64 f) ∧ (t 2 = true → v 2 = .string F) ∧ (t 3 = true → v 3 = .agg (stc s1).toArray) ∧ (t 4 = true → v 4 = .string C) ∧ (t 5 = true → v 5 = .agg (stc s2).toArray) ∧ (t 6 = true → ∃ p, v 6 = .pointer (some ⟨p, 0, none⟩) ∧ w3.heap.size ≤ p ∧ (t 7 = false → Blk wx p (stc zeroSt) 136) ∧ (t 7 = true → Blk wx p (stc s2) 136)) ∧ (t 7 = true → t 6 = true)) ?_ ?_ ?_
  · exact ⟨(Below.refl _ _).drew, (fun h => by cases h), (fun h => by cases h), (fun h => by cases h), (fun h => by cases h), (fun h => by cases h), (fun h => by cases h), (fun h => by cases h), (fun h => by cases h)⟩
  · simp only [full, Act.put, List.setIfInBounds_toArray, List.set_cons_succ, List.set_cons_zero, Nat.zero_add, Nat.reduceAdd]
    intro i o ho t v wx hS hti hall
    obtain ⟨hB, k0, k1, k2, k3, k4, k5, k6, k7⟩ := hS
    have hnw : w3.heap.size ≤ wx.heap.size := hB.size
    have hTx : Tabs wx := (hT.below hB3 hts).below hB (by omega)
    rcases i with _ | _ | _ | _ | _ | _ | _ | _ | i
    · obtain rfl := Option.some.inj ho
      refine g_load_all 136 _ w.heap.size (stc s) 136 _ rfl (c1.below hB (by omega)) Tryd.underlying136 rfl hz35.out ?_
      exact ⟨hB, newE rfl, keepE (by decide) k1, keepE (by decide) k2, keepE (by decide) k3, keepE (by decide) k4, keepE (by decide) k5, k6, k7⟩
    · obtain rfl := Option.some.inj ho
      refine g_move _ _ rfl ?_
      exact ⟨hB, keepE (by decide) k0, newE rfl, keepE (by decide) k2, keepE (by decide) k3, keepE (by decide) k4, keepE (by decide) k5, k6, k7⟩
    · obtain rfl := Option.some.inj ho
      have d1 := k1 (hall ⟨1, .data⟩ (by simp) rfl)
      refine g_call 91 _ _ [.string ⟨#[128]⟩, .int .i64 f] (cf27 _ _) (by show [_, v 1] = _; rw [d1]; rfl) ((pad80 f wx hf1 hf2).mono ?_)
      rintro e w' ⟨rfl, hb⟩
      refine ⟨_, rfl, hB.trans (hb.mono hnw), keepE (by decide) k0, keepE (by decide) k1, newE (congrArg _ HFF.out), keepE (by decide) k3, keepE (by decide) k4, keepE (by decide) k5, fun ht => ?_, k7⟩
      obtain ⟨p, e1, e2, e3, e4⟩ := k6 ht
      exact ⟨p, e1, e2, fun h7 => (e3 h7).below hb (e3 h7).lt, fun h7 => (e4 h7).below hb (e4 h7).lt⟩
    · obtain rfl := Option.some.inj ho
      have d0 := k0 (hall ⟨0, .data⟩ (by simp) rfl)
      have d2 := k2 (hall ⟨2, .data⟩ (by simp) rfl)
      refine g_call 86 _ _ [.agg (stc s).toArray, .string F] (cf18 _ _) (by show [v 0, v 2] = _; rw [d0, d2]) ((more_any s F h wx hTx (by omega)).mono ?_)
      rw [H1.out]
      rintro e w' ⟨rfl, hb⟩
      refine ⟨_, rfl, hB.trans (hb.mono hnw), keepE (by decide) k0, keepE (by decide) k1, keepE (by decide) k2, newE rfl, keepE (by decide) k4, keepE (by decide) k5, fun ht => ?_, k7⟩
      obtain ⟨p, e1, e2, e3, e4⟩ := k6 ht
      exact ⟨p, e1, e2, fun h7 => (e3 h7).below hb (e3 h7).lt, fun h7 => (e4 h7).below hb (e4 h7).lt⟩
    · obtain rfl := Option.some.inj ho
      refine g_move _ _ rfl ?_
      exact ⟨hB, keepE (by decide) k0, keepE (by decide) k1, keepE (by decide) k2, keepE (by decide) k3, newE rfl, keepE (by decide) k5, k6, k7⟩
    · obtain rfl := Option.some.inj ho
      have d3 := k3 (hall ⟨3, .data⟩ (by simp) rfl)
      have d4 := k4 (hall ⟨4, .data⟩ (by simp) rfl)
      refine g_call 86 _ _ [.agg (stc s1).toArray, .string C] (cf18 _ _) (by show [v 3, v 4] = _; rw [d3, d4]) ((more_any s1 C o1 wx hTx (by have := HS1.out; omega)).mono ?_)
      rw [H2.out]
      rintro e w' ⟨rfl, hb⟩
      refine ⟨_, rfl, hB.trans (hb.mono hnw), keepE (by decide) k0, keepE (by decide) k1, keepE (by decide) k2, keepE (by decide) k3, keepE (by decide) k4, newE rfl, fun ht => ?_, k7⟩
      obtain ⟨p, e1, e2, e3, e4⟩ := k6 ht
      exact ⟨p, e1, e2, fun h7 => (e3 h7).below hb (e3 h7).lt, fun h7 => (e4 h7).below hb (e4 h7).lt⟩
    · obtain rfl := Option.some.inj ho
      refine g_alloc 136 _ zero136 (fun w' h1 h2 => ?_)
      refine ⟨h1.below hB hnw, keepE (by decide) k0, keepE (by decide) k1, keepE (by decide) k2, keepE (by decide) k3, keepE (by decide) k4, keepE (by decide) k5, fun ht => ?_, fun _ => setB_self _ _⟩
      refine ⟨wx.heap.size, setV_self _ _ _, hnw, fun _ => h2, fun h7 => ?_⟩
      have h6 := k7 h7
      rw [hti] at h6
      cases h6
    · obtain rfl := Option.some.inj ho
      have d5 := k5 (hall ⟨5, .data⟩ (by simp) rfl)
      have ht6 := hall ⟨6, .data⟩ (by simp) rfl
      obtain ⟨p, e1, e2, e3, e4⟩ := k6 ht6
      refine g_store_all 136 _ _ p (stc s2) _ 136 (show v 6 = _ from e1) (show v 5 = _ from d5) (e3 hti) hz2.out hl2.out (stc_one _) (fun w' h1 h2 => ?_)
      refine ⟨h1.below hB e2, keepE (by decide) k0, keepE (by decide) k1, keepE (by decide) k2, keepE (by decide) k3, keepE (by decide) k4, keepE (by decide) k5, fun ht => ?_, fun _ => ht6⟩
      refine ⟨p, e1, e2, fun h7 => ?_, fun _ => h2⟩
      have h8 := setB_self t 7
      rw [h7] at h8
      cases h8
    · simp at ho
  · simp only [full, Act.put, List.setIfInBounds_toArray, List.set_cons_succ, List.set_cons_zero, Nat.zero_add, Nat.reduceAdd]
    intro t v w4 hS ht
    obtain ⟨hB, -, -, -, -, -, -, k6, -⟩ := hS
    obtain ⟨p, e1, e2, -, e4⟩ := k6 (ht 6 (by decide))
    have bp := e4 (ht 7 (by decide))
    rw [e1]
    generalize v 0 = x0
    generalize v 1 = x1
    generalize v 2 = x2
    generalize v 3 = x3
    generalize v 4 = x4
    generalize v 5 = x5
    clear k6 e1 e4 ht
    have hB4 : Below w.heap.size w w4 := hB3.trans (hB.mono (by omega))
    have d2 := c2.below hB (by omega)
    have n4 : w3.heap.size ≤ w4.heap.size := hB.size
    have np := bp.lt
    clear c1 c2 hB hB3
    obtain ⟨G, hG⟩ : ∃ G, reach s2.g = G := ⟨_, rfl⟩
    have hGl : G.length = 8 := by rw [← hG]; exact reach_length _ o2.g
    have HG : Hid (key s = bytesW G) := by show _ = _; rw [key, keyG, ← HF.out, H1.out, ← HC.out, H2.out, hG]
    have HG2 : Hid (reach s2.g = G) := hG
    have hl8 : Hid (0 + 8 ≤ (stc s2).length) := by show _ ≤ _; rw [stc_length _ o2]; decide
    clear hG
    go_wp2_with (first
      | ((with_reducible refine at_alloc 113 ?_); refine L_alloc 113 _ zero113 ?_; intro w5 h5 hb5)
      | ((with_reducible refine at_load 134 ?_); refine L_load 134 _ p 0 8 _ 136 _ rfl (h5.blk bp (by omega)) Tryd.underlying134 rfl size134 hl8.out _ (stc_g _ o2) ?_))
    have n5 := hb5.lt
    have hB5 : Below w.heap.size w w5 := h5.below hB4 (by omega)
    have d3 := h5.blk d2 (by omega)
    refine (reached_any s2.g o2.g w5 (hT.below hB5 hts)).mono ?_; rw [HG2.out]; rintro e w6 ⟨rfl, hb6⟩
    have f5 := hb5.below hb6 (by omega)
    have f3 := d3.below hb6 (by omega)
    have hB6 : Below w.heap.size w w6 := hB5.trans (hb6.mono (by omega))
    clear d2 d3 hb5 hb6 h5 hB5 hB4 bp
    go_wp2_with fail
    have hG2 : Hid (G.length = 8) := hGl
    clear hGl
    go_loopw [28] (fun i wr => ∃ k : Nat, k ≤ 8 ∧ i = .int .i64 k ∧ Blk wr w4.heap.size (bc (kpl G k)) 113 ∧ Blk wr w1.heap.size (bc (List.replicate 32 0)) 113 ∧ Below w.heap.size w wr) (fun i _ => 8 - (intOf i).toNat)
    case atStart => exact ⟨0, by omega, rfl, f5, f3, hB6⟩
    case round =>
      clear f5 f3 hB6
      obtain ⟨k, hk, rfl, f5, f3, hbw⟩ := hrel
      by_cases hlt : k < 8
      · obtain ⟨x, hx⟩ : ∃ x, G.getD k 0 = x := ⟨_, rfl⟩
        have hix := run_index_arr wr 134 56 8 k k (c32 G) _ Tryd.underlying134 Tryd.isAgg56 Tryd.sizeOf56 rfl hlt (c32_at G k (by have := hG2.out; omega))
        rw [hx] at hix
        have HX : Hid (G.getD k 0 = x) := hx
        clear hx
        go_wp2_with fail
        have hxl : x.toNat < 4294967296 := x.isLt
        have n8 := f5.lt
        refine wp_region_inv (by kernel_rfl) (by kernel_rfl) (fun t v wx => Below w4.heap.size wr wx ∧ wr.heap.size ≤ wx.heap.size ∧ (t 0 = true → v 0 = .int .i64 k) ∧ (t 1 = true → v 1 = .int .i64 (4 * (k : Int))) ∧ (t 2 = true → v 2 = .slice (some ⟨w4.heap.size, 4 * k, none⟩) (32 - 4 * k) (32 - 4 * k)) ∧ (t 3 = true → v 3 = .int .u32 x.toNat) ∧ (t 4 = true → v 4 = .int .u64 x.toNat) ∧ (t 5 = true → v 5 = .string ⟨(putL x.toNat 4).toArray⟩) ∧ (t 6 = false → Blk wx w4.heap.size (bc (kpl G k)) 113) ∧ (t 6 = true → v 6 = .int .i64 4) ∧ (t 6 = true → Blk wx w4.heap.size (bc (kpl G (k + 1))) 113)) ?_ ?_ ?_
        · exact ⟨(Below.refl _ _).drew, Nat.le_refl _, (fun h => by cases h), (fun h => by cases h), (fun h => by cases h), (fun h => by cases h), (fun h => by cases h), (fun h => by cases h), fun _ => f5, (fun h => by cases h), (fun h => by cases h)⟩
        · simp only [full, Act.put, List.setIfInBounds_toArray, List.set_cons_succ, List.set_cons_zero, Nat.zero_add, Nat.reduceAdd]
          intro i o ho t v wx hS hti hall
          obtain ⟨hB, hsz, k0, k1, k2, k3, k4, k5, k6, k7, k8⟩ := hS
          rcases i with _ | _ | _ | _ | _ | _ | _ | i
          · obtain rfl := Option.some.inj ho
            refine g_move _ _ rfl ?_
            exact ⟨hB, hsz, newE rfl, keepE (by decide) k1, keepE (by decide) k2, keepE (by decide) k3, keepE (by decide) k4, keepE (by decide) k5, k6, keepE (by decide) k7, k8⟩
          · obtain rfl := Option.some.inj ho
            have d0 := k0 (hall ⟨0, .data⟩ (by simp) rfl)
            refine g_val (.int .i64 (4 * (k : Int))) wx ?_ ?_
            · rw [d0]
              go_simp
              exact wrap_i64 _ (by omega) (by omega)
            · exact ⟨hB, hsz, keepE (by decide) k0, newE rfl, keepE (by decide) k2, keepE (by decide) k3, keepE (by decide) k4, keepE (by decide) k5, k6, keepE (by decide) k7, k8⟩
          · obtain rfl := Option.some.inj ho
            have d1 := k1 (hall ⟨1, .data⟩ (by simp) rfl)
            have hsl := run_slice_l wx w4.heap.size 0 32 (4 * k) (4 * (k : Int)) 113 5 Tryd.underlying113 Tryd.sizeOf5 (by omega) (by omega)
            rw [Nat.zero_add] at hsl
            refine g_val (.slice (some ⟨w4.heap.size, 4 * k, none⟩) (32 - 4 * k) (32 - 4 * k)) wx ?_ ?_
            · rw [d1]
              go_simp
            · exact ⟨hB, hsz, keepE (by decide) k0, keepE (by decide) k1, newE rfl, keepE (by decide) k3, keepE (by decide) k4, keepE (by decide) k5, k6, keepE (by decide) k7, k8⟩
          · obtain rfl := Option.some.inj ho
            refine g_move _ _ rfl ?_
            exact ⟨hB, hsz, keepE (by decide) k0, keepE (by decide) k1, keepE (by decide) k2, newE rfl, keepE (by decide) k4, keepE (by decide) k5, k6, keepE (by decide) k7, k8⟩
          · obtain rfl := Option.some.inj ho
            have d3 := k3 (hall ⟨3, .data⟩ (by simp) rfl)
            refine g_val (.int .u64 x.toNat) wx ?_ ?_
            · rw [d3]
              go_simp
              exact wraps_u64 _ (by omega) (by omega)
            · exact ⟨hB, hsz, keepE (by decide) k0, keepE (by decide) k1, keepE (by decide) k2, keepE (by decide) k3, newE rfl, keepE (by decide) k5, k6, keepE (by decide) k7, k8⟩
          · obtain rfl := Option.some.inj ho
            have d4 := k4 (hall ⟨4, .data⟩ (by simp) rfl)
            refine g_call 66 _ _ [.int .u64 x.toNat, .int .i64 4] (cf26 _ _) (by show [v 4, _] = _; rw [d4]; rfl) ((put_mid x.toNat 4 wx (by decide)).mono ?_)
            rintro e w' ⟨rfl, hb⟩
            exact ⟨_, rfl, hB.trans (hb.mono (by omega)), Nat.le_trans hsz hb.size, keepE (by decide) k0, keepE (by decide) k1, keepE (by decide) k2, keepE (by decide) k3, keepE (by decide) k4, newE rfl, fun h6 => (k6 h6).below hb (k6 h6).lt, keepE (by decide) k7, fun h6 => (k8 h6).below hb (k8 h6).lt⟩
          · obtain rfl := Option.some.inj ho
            have d2 := k2 (hall ⟨2, .data⟩ (by simp) rfl)
            have d5 := k5 (hall ⟨5, .data⟩ (by simp) rfl)
            refine g_copy _ _ 48 9 5 w4.heap.size (4 * k) (32 - 4 * k) (32 - 4 * k) 4 ⟨(putL x.toNat 4).toArray⟩ (bc (kpl G k)) 113 d2 d5 Tryd.underlying48 Tryd.sizeOf5 (k6 hti) (by rw [bc_length, kpl_length G k hG2.out hk]; omega) (by rw [Lib.size_eq]; simp [putL_length]; omega) (fun w' h1 h2 => ?_)
            have h2' : Blk w' w4.heap.size (bc (kpl G (k + 1))) 113 := by
              rw [← kpl_step G k hG2.out hlt x HX.out]
              have e : (putL x.toNat 4).take 4 = putL x.toNat 4 := List.take_of_length_le (by rw [putL_length]; exact Nat.le_refl _)
              simp only [e] at h2
              exact h2
            refine ⟨h1.below hB (Nat.le_refl _), Nat.le_trans hsz h1.size, keepE (by decide) k0, keepE (by decide) k1, keepE (by decide) k2, keepE (by decide) k3, keepE (by decide) k4, keepE (by decide) k5, fun h6 => ?_, newE rfl, fun _ => h2'⟩
            have h8 := setB_self t 6
            rw [h6] at h8
            cases h8
          · simp at ho
        · simp only [full, Act.put, List.setIfInBounds_toArray, List.set_cons_succ, List.set_cons_zero, Nat.zero_add, Nat.reduceAdd]
          intro t v wx hS ht
          obtain ⟨hB, hsz, -, -, -, -, -, -, -, -, k8⟩ := hS
          have k9 := k8 (ht 6 (by decide))
          clear k8 ht
          generalize v 0 = x0
          generalize v 1 = x1
          generalize v 2 = x2
          generalize v 3 = x3
          generalize v 4 = x4
          generalize v 5 = x5
          generalize v 6 = x6
          go_wp2_with fail
          exact ⟨⟨k + 1, by omega, by go_num, k9, f3.below hB (by omega), hbw.trans (hB.mono (by omega))⟩, by simp [intOf]; omega⟩
      · obtain rfl : k = 8 := by omega
        rw [kpl_end G hG2.out, ← HG.out] at f5
        have hl32 : (bc (key s)).length = 32 := by rw [bc_length, key_length s h]
        have hz : Hid ((Tryd.prog.info? 113).map (·.size) = some (bc (key s)).length) := by rw [hl32]; exact size113
        have HL : Hid ((bc (key s)).length = (bc (List.replicate 32 0)).length) := by rw [hl32]; rfl
        clear hl32
        go_wp2_with (first
          | ((with_reducible refine at_load 113 ?_); refine L_load_all 113 _ w4.heap.size _ 113 _ rfl f5 Tryd.underlying113 rfl hz.out ?_)
          | ((with_reducible refine at_store 113 ?_); refine L_store_all 113 _ _ w1.heap.size (bc (key s)) _ 113 rfl rfl f3 hz.out HL.out (bc_one _) ?_; intro w8 h8 hb8))
        (try simp only [Exit.inBlock, Exit.then])
        exact bodyPost_ret (results_blk rfl w1.heap.size (bc (key s)) _ rfl hb8 Tryd.underlying113 rfl hz.out) rfl ⟨rfl, h8.below hbw (by omega)⟩
set_option maxHeartbeats 400000 in
theorem sum_any (T : ByteArray) (w : World) (hT : Tabs w) (hn : T.size ≤ 549755813888) :
    Calls Tryd.prog 88 #[.string T] w fun e w' => e = .returned (.agg (bc (sum T.data.toList)).toArray) ∧ Below w.heap.size w w' := by
  have hts := hT.size
  have hl32 : (bc (sum T.data.toList)).length = 32 := by rw [bc_length, sum_length]
  have hz : Hid ((Tryd.prog.info? 113).map (·.size) = some (bc (sum T.data.toList)).length) := by rw [hl32]; exact size113
  have HL : Hid ((bc (sum T.data.toList)).length = (bc (List.replicate 32 0)).length) := by rw [hl32]; rfl
  have hm : (more zeroSt T.data.toList).n = T.size := by rw [more_n, Lib.size_eq]; simp [zeroSt]
  have HM : Hid ((more zeroSt T.data.toList).n ≤ 549755813888) := by rw [hm]; exact hn
  have HN : Hid (zeroSt.n + T.size ≤ 1099511627776) := by show 0 + T.size ≤ _; omega
  clear hl32 hm
  go_enter Tryd.func88, Tryd.ntmps88
  go_wp2_with (first
    | ((with_reducible refine at_alloc 113 ?_); refine L_alloc 113 _ zero113 ?_; intro w1 h1 hb1))
  have hB1 : Below w.heap.size w w1 := h1.below (Below.refl _ _) (Nat.le_refl _)
  have n1 := hb1.lt
  refine (new_any w1).mono ?_; rintro e w2 ⟨rfl, hb2⟩
  have hB2 := hB1.trans (hb2.mono (by omega))
  have c2 := hb1.below hb2 n1
  have n2 := c2.lt
  go_wp2_with fail
  refine (more_any zeroSt T zeroSt_ok w2 (hT.below hB2 hts) HN.out).mono ?_; rintro e w3 ⟨rfl, hb3⟩
  have hB3 := hB2.trans (hb3.mono (by omega))
  have c3 := c2.below hb3 n2
  have n3 := c3.lt
  go_wp2_with fail
  refine (key_any _ (more_ok _ _ zeroSt_ok) w3 (hT.below hB3 hts) HM.out).mono ?_; rintro e w4 ⟨rfl, hb4⟩
  have hB4 := hB3.trans (hb4.mono (by omega))
  have c4 := c3.below hb4 n3
  rw [show key (more zeroSt T.data.toList) = sum T.data.toList from rfl]
  go_wp2_with (first
    | ((with_reducible refine at_store 113 ?_); refine L_store_all 113 _ _ w.heap.size (bc (sum T.data.toList)) _ 113 rfl rfl c4 hz.out HL.out (bc_one _) ?_; intro w8 h8 hb8))
  (try simp only [Exit.inBlock, Exit.then])
  exact bodyPost_ret (results_blk rfl w.heap.size (bc (sum T.data.toList)) _ rfl hb8 Tryd.underlying113 rfl hz.out) rfl ⟨rfl, h8.below hB4 (Nat.le_refl _)⟩
end Go.Proofs.YtpenicjlpiechaaDoor
namespace Go.Proofs.YtpenicjlpiechaaDoor
set_option maxRecDepth 10000
open Go.RowKit
set_option linter.unusedVariables false
theorem bc_set (l : List UInt8) (i : Nat) (b : UInt8) : (bc l).set i (.int .u8 b.toNat) = bc (l.set i b) := by simp [bc]
theorem bc_at (l : List UInt8) (i : Nat) (h : i < l.length) : (bc l)[i]? = some (.int .u8 ((l.getD i 0).toNat : Int)) := by simp [bc, h]
theorem zk113 (k : List UInt8) (hk : k.length = 32) : (Tryd.prog.info? 113).map (·.size) = some (bc k).length := by rw [bc_length, hk]; exact size113
theorem zs136 (s : St) (h : s.Ok) : (Tryd.prog.info? 136).map (·.size) = some (stc s).length := by rw [stc_length s h]; exact size136
/-- Calls as the operations of a statement meet them: the value known, the world in the class. -/
theorem mono_val {f : FuncId} {vs : Array Value} {w W : World} {x : Value} (hw : Below W.heap.size W w) (h : Calls Tryd.prog f vs w fun e w' => e = .returned x ∧ Below w.heap.size w w') :
    Calls Tryd.prog f vs w (fun e w'' => ∃ v, e = .returned v ∧ (v = x ∧ Below W.heap.size W w'')) := by
  refine h.mono ?_
  rintro e w' ⟨rfl, hb⟩
  exact ⟨_, rfl, rfl, hw.trans (hb.mono hw.size)⟩
end Go.Proofs.YtpenicjlpiechaaDoor
