/- There are never more things, nor intervals, than may be; what finds no room is counted, and changes nothing that lies there. -/
import Derived.Test.YtpkjocibgmjhdaaActs
namespace Go.Proofs.Ytpkjocibgmjhdaa.bufferRoom
set_option maxRecDepth 10000
open Go Go.RowKit
set_option linter.unusedVariables false
set_option linter.unusedSimpArgs false

structure Ro (y : Int) (L : List Thg) (d : Int) (j : Nat) : Prop where
  le : L.length ≤ j
  iv : (((ivs L).length : Nat) : Int) ≤ y
  d0 : 0 ≤ d
  d1 : d ≤ ((j : Nat) : Int)
section
variable {x y d i : Int} {L : List Thg} {j : Nat} {s : ByteArray}
theorem ro_nil (hy : 0 ≤ y) : Ro y [] 0 0 := ⟨Nat.le_refl _, hy, Int.le_refl _, Int.le_refl _⟩
theorem ro_add (h : Ro y L d j) (he : bpE x y i s L = 0) : Ro y (L ++ [(i, s)]) d (j + 1) := ⟨by have := h.le; simp; omega, ivs_put he h.iv, h.d0, by have := h.d1; omega⟩
theorem ro_more (h : Ro y L d j) : Ro y L (d + 1) (j + 1) := ⟨by have := h.le; omega, h.iv, by have := h.d0; omega, by have := h.d1; omega⟩
theorem ro_same (h : Ro y L d j) : Ro y L d (j + 1) := ⟨by have := h.le; omega, h.iv, h.d0, by have := h.d1; omega⟩
theorem ro_take (h : Ro y L d j) (i : Int) : Ro y (notI i L) d (j + 1) :=
  ⟨by have := h.le; have := notI_length i L; omega, by have := h.iv; have := ivs_sub (L := L) (L' := notI i L) (fun t ht => (List.mem_filter.1 ht).1); omega, h.d0, by have := h.d1; omega⟩
theorem ro_drop (h : Ro y L d j) (i : Int) : Ro y (notB i L) d (j + 1) :=
  ⟨by have := h.le; have := bdN_len i L; omega, by have := h.iv; have := ivs_sub (L := L) (L' := notB i L) (fun t ht => (List.mem_filter.1 ht).1); omega, h.d0, by have := h.d1; omega⟩
end
set_option maxHeartbeats 4000000 in
theorem walk_on (a c : Int) (ao : Option Addr) (n cap q r : Nat) (w : World) (hl : LA w ao n) (hn : n ≤ 9223372036854775807) (hq : Shut (a.tmod 64 = ((q : Nat) : Int))) (hqc : Shut (IntKind.i64.wrap ((q : Nat) : Int) = ((q : Nat) : Int))) (hq1 : Shut (IntKind.i64.wrap (((q : Nat) : Int) + 1) = ((q + 1 : Nat) : Int))) (hq2 : q < 64) (hr : Shut (c.tmod 64 = ((r : Nat) : Int))) (hrc : Shut (IntKind.i64.wrap ((r : Nat) : Int) = ((r : Nat) : Int))) (hr1 : Shut (IntKind.i64.wrap (((r : Nat) : Int) + 1) = ((r + 1 : Nat) : Int))) (hr2 : r < 64) : Calls Try.prog 5 #[.int .u8 a, .int .u8 c, .slice ao n cap] w fun e w' => e = .returned (.bool true) ∧ Below w.heap.size w w' := by
  have hM := Ms.refl w
  go_enter Try.func5, Try.ntmps5
  refine wp_seq_k (fun K1 hK1 => ?_)
  refine wl_region ?_
  refine wl_give rfl (g_assign _ (.bool false) rfl ?_)
  (try simp only [Act.put, List.setIfInBounds_toArray, List.set_cons_zero, List.set_cons_succ])
  refine wl_nil ?_
  refine hK1 _ _ ?_
  (try clear hK1 K1)
  refine wp_seq_k (fun K2 hK2 => ?_)
  refine wp_seq_k (fun K3 hK3 => ?_)
  refine wl_region ?_
  refine wl_give rfl (g_call 10 _ _ [] (kf10 _ _) rfl ((awake_any w).mono ?_))
  rintro e w4 ⟨rfl, t_⟩
  refine ⟨_, rfl, ?_⟩
  replace hM := hM.call t_
  clear t_
  (try simp only [Act.put, List.setIfInBounds_toArray, List.set_cons_zero, List.set_cons_succ])
  refine wl_give rfl (g_unot 4 _ true rfl ?_)
  (try simp only [Act.put, List.setIfInBounds_toArray, List.set_cons_zero, List.set_cons_succ])
  refine wl_nil ?_
  refine hK3 _ _ ?_
  (try clear hK3 K3)
  refine wp_cond_false rfl ?_
  refine wp_skip ?_
  refine hK2 _ _ ?_
  (try clear hK2 K2)
  refine wp_seq_k (fun K5 hK5 => ?_)
  refine wl_region ?_
  refine wl_give rfl (g_move _ (.int .u8 (a)) rfl ?_)
  (try simp only [Act.put, List.setIfInBounds_toArray, List.set_cons_zero, List.set_cons_succ])
  refine wl_give rfl (g_irem 5 _ _ .u8 (a) (64) (((q : Nat) : Int)) rfl rfl (by decide) hq.out ?_)
  (try simp only [Act.put, List.setIfInBounds_toArray, List.set_cons_zero, List.set_cons_succ])
  refine wl_give rfl (g_cv_5_3 _ (((q : Nat) : Int)) (((q : Nat) : Int)) rfl (hqc.out) ?_)
  (try simp only [Act.put, List.setIfInBounds_toArray, List.set_cons_zero, List.set_cons_succ])
  refine wl_give rfl (g_ia 3 _ _ .i64 (((q : Nat) : Int)) (1) (((q + 1 : Nat) : Int)) rfl rfl hq1.out ?_)
  (try simp only [Act.put, List.setIfInBounds_toArray, List.set_cons_zero, List.set_cons_succ])
  refine wl_give rfl (g_move _ (.int .u8 (c)) rfl ?_)
  (try simp only [Act.put, List.setIfInBounds_toArray, List.set_cons_zero, List.set_cons_succ])
  refine wl_give rfl (g_irem 5 _ _ .u8 (c) (64) (((r : Nat) : Int)) rfl rfl (by decide) hr.out ?_)
  (try simp only [Act.put, List.setIfInBounds_toArray, List.set_cons_zero, List.set_cons_succ])
  refine wl_give rfl (g_cv_5_3 _ (((r : Nat) : Int)) (((r : Nat) : Int)) rfl (hrc.out) ?_)
  (try simp only [Act.put, List.setIfInBounds_toArray, List.set_cons_zero, List.set_cons_succ])
  refine wl_give rfl (g_ia 3 _ _ .i64 (((r : Nat) : Int)) (1) (((r + 1 : Nat) : Int)) rfl rfl hr1.out ?_)
  (try simp only [Act.put, List.setIfInBounds_toArray, List.set_cons_zero, List.set_cons_succ])
  refine wl_give rfl (g_assign _ (.int .i64 (((q + 1 : Nat) : Int))) rfl ?_)
  (try simp only [Act.put, List.setIfInBounds_toArray, List.set_cons_zero, List.set_cons_succ])
  refine wl_give rfl (g_assign _ (.int .i64 (((r + 1 : Nat) : Int))) rfl ?_)
  (try simp only [Act.put, List.setIfInBounds_toArray, List.set_cons_zero, List.set_cons_succ])
  refine wl_nil ?_
  refine hK5 _ _ ?_
  (try clear hK5 K5)
  refine wp_seq_k (fun K6 hK6 => ?_)
  refine wl_region ?_
  refine wl_give rfl (g_move _ (.int .i64 (((q + 1 : Nat) : Int))) rfl ?_)
  (try simp only [Act.put, List.setIfInBounds_toArray, List.set_cons_zero, List.set_cons_succ])
  refine wl_give rfl (g_move _ (.int .i64 (((r + 1 : Nat) : Int))) rfl ?_)
  (try simp only [Act.put, List.setIfInBounds_toArray, List.set_cons_zero, List.set_cons_succ])
  refine wl_give rfl (g_call 11 _ _ [.int .i64 (((q + 1 : Nat) : Int)), .int .i64 (((r + 1 : Nat) : Int))] (kf11 _ _) rfl ((new_any (q + 1) (((r + 1 : Nat) : Int)) hM (by omega) (by omega) (by omega) (by omega)).mono ?_))
  rintro e w7 ⟨p8, rfl, h_⟩
  refine ⟨_, rfl, ?_⟩
  replace hM : Ms w w7 [bf p8 (q + 1) (((r + 1 : Nat) : Int)) (0) ([])] := h_
  clear h_
  (try simp only [Act.put, List.setIfInBounds_toArray, List.set_cons_zero, List.set_cons_succ])
  refine wl_give rfl (g_move _ (.tuple #[.pointer (some ⟨p8, 0, none⟩), .int .i64 (0)]) rfl ?_)
  (try simp only [Act.put, List.setIfInBounds_toArray, List.set_cons_zero, List.set_cons_succ])
  refine wl_give rfl (g_extract _ #[.pointer (some ⟨p8, 0, none⟩), .int .i64 (0)] 0 (.pointer (some ⟨p8, 0, none⟩)) rfl rfl ?_)
  (try simp only [Act.put, List.setIfInBounds_toArray, List.set_cons_zero, List.set_cons_succ])
  refine wl_give rfl (g_extract _ #[.pointer (some ⟨p8, 0, none⟩), .int .i64 (0)] 1 (.int .i64 (0)) rfl rfl ?_)
  (try simp only [Act.put, List.setIfInBounds_toArray, List.set_cons_zero, List.set_cons_succ])
  refine wl_give rfl (g_assign _ (.pointer (some ⟨p8, 0, none⟩)) rfl ?_)
  (try simp only [Act.put, List.setIfInBounds_toArray, List.set_cons_zero, List.set_cons_succ])
  refine wl_give rfl (g_assign _ (.int .i64 (0)) rfl ?_)
  (try simp only [Act.put, List.setIfInBounds_toArray, List.set_cons_zero, List.set_cons_succ])
  refine wl_nil ?_
  refine hK6 _ _ ?_
  (try clear hK6 K6)
  refine wp_seq_k (fun K9 hK9 => ?_)
  refine wp_seq_k (fun K10 hK10 => ?_)
  refine wl_region ?_
  refine wl_give rfl (g_move _ (.pointer (some ⟨p8, 0, none⟩)) rfl ?_)
  (try simp only [Act.put, List.setIfInBounds_toArray, List.set_cons_zero, List.set_cons_succ])
  refine wl_give rfl (g_peq _ ((some ⟨p8, 0, none⟩)) false rfl rfl ?_)
  (try simp only [Act.put, List.setIfInBounds_toArray, List.set_cons_zero, List.set_cons_succ])
  refine wl_nil ?_
  refine hK10 _ _ ?_
  (try clear hK10 K10)
  refine wp_cond_false rfl ?_
  refine wp_skip ?_
  refine hK9 _ _ ?_
  (try clear hK9 K9)
  refine wp_seq_k (fun K11 hK11 => ?_)
  refine wp_seq_k (fun K12 hK12 => ?_)
  refine wl_region ?_
  refine wl_give rfl (g_assign _ (.int .i64 (0)) rfl ?_)
  (try simp only [Act.put, List.setIfInBounds_toArray, List.set_cons_zero, List.set_cons_succ])
  refine wl_nil ?_
  refine hK12 _ _ ?_
  (try clear hK12 K12)
  refine wp_block ?_
  have h9 := (hM.up 0 rfl)
  refine wp_rounds (fun m st wr => ∃ (j : Nat) (d : Int) (L : List Thg) (t : Nat → Value), st = ⟨#[.int .u8 (a), .int .u8 (c), .slice ao (n) (cap), undef, undef, undef, .bool false, .int .i64 (((q + 1 : Nat) : Int)), .int .i64 (((r + 1 : Nat) : Int)), .pointer (some ⟨p8, 0, none⟩), .int .i64 (0), .int .i64 ((j : Nat) : Int), t 12, t 13, t 14, t 15, t 16, .bool true, .bool false, .int .u8 (a), .int .u8 (((q : Nat) : Int)), .int .i64 (((q : Nat) : Int)), .int .i64 (((q + 1 : Nat) : Int)), .int .u8 (c), .int .u8 (((r : Nat) : Int)), .int .i64 (((r : Nat) : Int)), .int .i64 (((r + 1 : Nat) : Int)), .tuple #[.pointer (some ⟨p8, 0, none⟩), .int .i64 (0)], .int .i64 (((q + 1 : Nat) : Int)), .int .i64 (((r + 1 : Nat) : Int)), .tuple #[.pointer (some ⟨p8, 0, none⟩), .int .i64 (0)], .pointer (some ⟨p8, 0, none⟩), .int .i64 (0), .pointer (some ⟨p8, 0, none⟩), .bool false, t 35, t 36, t 37, t 38, t 39, t 40, t 41, t 42, t 43, t 44, t 45, t 46, t 47, t 48, t 49, t 50, t 51, t 52, t 53, t 54, t 55, t 56, t 57, t 58, t 59, t 60, t 61, t 62, t 63, t 64, t 65, t 66, t 67, t 68, t 69, t 70, t 71, t 72, t 73, t 74, t 75, t 76, t 77, t 78, t 79, t 80, t 81, t 82, t 83, t 84, t 85, t 86, t 87, t 88, t 89, t 90, t 91, t 92, t 93, t 94, t 95, t 96, t 97, t 98, t 99, t 100, t 101, t 102, t 103, t 104, t 105, t 106, t 107, t 108, t 109, t 110, t 111, t 112, t 113, t 114, t 115, t 116, t 117, t 118, t 119, t 120, t 121, t 122, t 123, t 124, t 125, t 126, t 127, t 128, t 129, t 130, t 131, t 132, t 133, t 134, t 135, t 136, t 137, t 138, t 139, t 140, t 141, t 142, t 143, t 144, t 145, t 146, t 147, t 148, t 149, t 150, t 151, t 152, t 153, t 154, t 155, t 156, t 157, t 158, t 159, t 160, t 161, t 162, t 163], []⟩ ∧ j + m = 100 ∧ Shut (Ro ((r + 1 : Nat) : Int) L d j) ∧ Ms w wr [bf p8 (q + 1) (((r + 1 : Nat) : Int)) (d) (L)]) 100 ⟨0, 0, [], (tl [.int .u8 (a), .int .u8 (c), .slice ao (n) (cap), undef, undef, undef, .bool false, .int .i64 (((q + 1 : Nat) : Int)), .int .i64 (((r + 1 : Nat) : Int)), .pointer (some ⟨p8, 0, none⟩), .int .i64 (0), .int .i64 (0), undef, undef, undef, undef, undef, .bool true, .bool false, .int .u8 (a), .int .u8 (((q : Nat) : Int)), .int .i64 (((q : Nat) : Int)), .int .i64 (((q + 1 : Nat) : Int)), .int .u8 (c), .int .u8 (((r : Nat) : Int)), .int .i64 (((r : Nat) : Int)), .int .i64 (((r + 1 : Nat) : Int)), .tuple #[.pointer (some ⟨p8, 0, none⟩), .int .i64 (0)], .int .i64 (((q + 1 : Nat) : Int)), .int .i64 (((r + 1 : Nat) : Int)), .tuple #[.pointer (some ⟨p8, 0, none⟩), .int .i64 (0)], .pointer (some ⟨p8, 0, none⟩), .int .i64 (0), .pointer (some ⟨p8, 0, none⟩), .bool false, undef, undef, undef, undef, undef, undef, undef, undef, undef, undef, undef, undef, undef, undef, undef, undef, undef, undef, undef, undef, undef, undef, undef, undef, undef, undef, undef, undef, undef, undef, undef, undef, undef, undef, undef, undef, undef, undef, undef, undef, undef, undef, undef, undef, undef, undef, undef, undef, undef, undef, undef, undef, undef, undef, undef, undef, undef, undef, undef, undef, undef, undef, undef, undef, undef, undef, undef, undef, undef, undef, undef, undef, undef, undef, undef, undef, undef, undef, undef, undef, undef, undef, undef, undef, undef, undef, undef, undef, undef, undef, undef, undef, undef, undef, undef, undef, undef, undef, undef, undef, undef, undef, undef, undef, undef, undef, undef, undef, undef, undef, undef, undef, undef, undef, undef, undef, undef, undef, undef, undef, undef, undef, undef, undef, undef, undef, undef, undef, undef]), rfl, Nat.zero_add _, ⟨ro_nil (by omega)⟩, h9⟩ ?_
  clear hM h9
  rintro m st wr ⟨j, d, L, t, rfl, hj, hI, hM⟩
  by_cases h1 : ((j : Nat) : Int) < ((n : Nat) : Int)
  · by_cases h2 : ((j : Nat) : Int) < 100
    · skip
      obtain ⟨b, o, k, i, s, rfl, hc0, hc1, hc2, hik⟩ := hl.on hM j (by omega)
      have hjn : j < n := by omega
      have hj1 : Shut (IntKind.i64.wrap (((j : Nat) : Int) + 1) = ((j + 1 : Nat) : Int)) := ⟨by rw [wrap_id _ (by omega) (by omega)]; omega⟩
      have hle := hI.out.le
      have hiv := hI.out.iv
      have hd0 := hI.out.d0
      have hd1 := hI.out.d1
      have hlow := blow hM
      refine wp_seq_k (fun K13 hK13 => ?_)
      refine wp_seq_k (fun K14 hK14 => ?_)
      refine wl_region ?_
      refine wl_give rfl (g_move _ (.int .i64 (((j : Nat) : Int))) rfl ?_)
      (try simp only [Act.put, List.setIfInBounds_toArray, List.set_cons_zero, List.set_cons_succ])
      refine wl_give rfl (g_move _ (.slice (some ⟨b, o, none⟩) (n) (cap)) rfl ?_)
      (try simp only [Act.put, List.setIfInBounds_toArray, List.set_cons_zero, List.set_cons_succ])
      refine wl_give rfl (g_len _ 22 32 ((some ⟨b, o, none⟩)) (n) (cap) (((n : Nat) : Int)) Try.underlying22 rfl rfl ?_)
      (try simp only [Act.put, List.setIfInBounds_toArray, List.set_cons_zero, List.set_cons_succ])
      refine wl_give rfl (g_ilss 3 _ _ .i64 (((j : Nat) : Int)) (((n : Nat) : Int)) true rfl rfl (decide_eq_true h1) ?_)
      (try simp only [Act.put, List.setIfInBounds_toArray, List.set_cons_zero, List.set_cons_succ])
      refine wl_give rfl (g_move _ (.bool true) rfl ?_)
      (try simp only [Act.put, List.setIfInBounds_toArray, List.set_cons_zero, List.set_cons_succ])
      refine wl_give rfl (g_move _ (.int .i64 (((j : Nat) : Int))) rfl ?_)
      (try simp only [Act.put, List.setIfInBounds_toArray, List.set_cons_zero, List.set_cons_succ])
      refine wl_give rfl (g_ilss 3 _ _ .i64 (((j : Nat) : Int)) (100) true rfl rfl (decide_eq_true h2) ?_)
      (try simp only [Act.put, List.setIfInBounds_toArray, List.set_cons_zero, List.set_cons_succ])
      refine wl_give rfl (g_pickt _ _ _ (.bool true) rfl rfl ?_)
      (try simp only [Act.put, List.setIfInBounds_toArray, List.set_cons_zero, List.set_cons_succ])
      refine wl_nil ?_
      refine hK14 _ _ ?_
      (try clear hK14 K14)
      refine wp_cond_true rfl ?_
      refine wp_skip ?_
      refine hK13 _ _ ?_
      (try clear hK13 K13)
      refine wp_seq_k (fun K15 hK15 => ?_)
      refine wp_block ?_
      refine wp_seq_k (fun K16 hK16 => ?_)
      refine wl_region ?_
      refine wl_give rfl (g_move _ (.slice (some ⟨b, o, none⟩) (n) (cap)) rfl ?_)
      (try simp only [Act.put, List.setIfInBounds_toArray, List.set_cons_zero, List.set_cons_succ])
      refine wl_give rfl (g_move _ (.int .i64 (((j : Nat) : Int))) rfl ?_)
      (try simp only [Act.put, List.setIfInBounds_toArray, List.set_cons_zero, List.set_cons_succ])
      refine wl_give rfl (g_ix _ _ 22 32 3 Try.underlying22 szof32 b o n cap j (o + j * 3) _ rfl rfl rfl hjn rfl ?_)
      (try simp only [Act.put, List.setIfInBounds_toArray, List.set_cons_zero, List.set_cons_succ])
      refine wl_give rfl (g_ldAct _ (b) (o + j * 3) k i s rfl hc0 hc1 hc2 ?_)
      (try simp only [Act.put, List.setIfInBounds_toArray, List.set_cons_zero, List.set_cons_succ])
      refine wl_give rfl (g_alloc 32 (([.int .i64 (0), .int .i64 (0), .string (⟨#[]⟩)] : List Value)) zeroA ?_)
      intro w17 t_ b_
      replace hM : Ms w w17 [blk (wr.heap.size) (([.int .i64 (0), .int .i64 (0), .string (⟨#[]⟩)] : List Value)) 32, bf p8 (q + 1) (((r + 1 : Nat) : Int)) (d) (L)] := hM.new t_ b_
      clear t_ b_
      (try simp only [Act.put, List.setIfInBounds_toArray, List.set_cons_zero, List.set_cons_succ])
      refine wl_give rfl (g_store_all 32 _ _ (wr.heap.size) (([.int .i64 (k), .int .i64 (i), .string (s)] : List Value)) _ 32 rfl rfl (hM.get 0 rfl) (size32) (rfl) ((by simp [Value.oneCell'])) ?_)
      intro w18 t_ b_
      replace hM : Ms w w18 [blk (wr.heap.size) (([.int .i64 (k), .int .i64 (i), .string (s)] : List Value)) 32, bf p8 (q + 1) (((r + 1 : Nat) : Int)) (d) (L)] := hM.put 0 rfl t_ b_
      clear t_ b_
      (try simp only [Act.put, List.setIfInBounds_toArray, List.set_cons_zero, List.set_cons_succ])
      refine wl_nil ?_
      refine hK16 _ _ ?_
      (try clear hK16 K16)
      refine wp_seq_k (fun K19 hK19 => ?_)
      by_cases hs : (200 : Int) < ((s.size : Nat) : Int)
      · skip
        refine wp_seq_k (fun K20 hK20 => ?_)
        refine wl_region ?_
        refine wl_give rfl (g_load_all 32 _ (wr.heap.size) (([.int .i64 (k), .int .i64 (i), .string (s)] : List Value)) 32 _ rfl (hM.get 0 rfl) Try.underlying32 rfl (size32) ?_)
        (try simp only [Act.put, List.setIfInBounds_toArray, List.set_cons_zero, List.set_cons_succ])
        refine wl_give rfl (g_call 13 _ _ [.agg (([.int .i64 (k), .int .i64 (i), .string (s)] : List Value)).toArray] (kf13 _ _) rfl ((large_t k i s w18 hs).mono ?_))
        rintro e w21 ⟨rfl, t_⟩
        refine ⟨_, rfl, ?_⟩
        replace hM := hM.call t_
        clear t_
        (try simp only [Act.put, List.setIfInBounds_toArray, List.set_cons_zero, List.set_cons_succ])
        refine wl_nil ?_
        refine hK20 _ _ ?_
        (try clear hK20 K20)
        refine wp_cond_true rfl ?_
        refine wp_seq_k (fun K22 hK22 => ?_)
        refine wl_region ?_
        refine wl_give rfl (g_assign _ (.bool true) rfl ?_)
        (try simp only [Act.put, List.setIfInBounds_toArray, List.set_cons_zero, List.set_cons_succ])
        refine wl_nil ?_
        refine hK22 _ _ ?_
        (try clear hK22 K22)
        refine wp_ret ?_
        go_ret
        exact ⟨rfl, hM.below⟩
      · skip
        refine wp_seq_k (fun K23 hK23 => ?_)
        refine wl_region ?_
        refine wl_give rfl (g_load_all 32 _ (wr.heap.size) (([.int .i64 (k), .int .i64 (i), .string (s)] : List Value)) 32 _ rfl (hM.get 0 rfl) Try.underlying32 rfl (size32) ?_)
        (try simp only [Act.put, List.setIfInBounds_toArray, List.set_cons_zero, List.set_cons_succ])
        refine wl_give rfl (g_call 13 _ _ [.agg (([.int .i64 (k), .int .i64 (i), .string (s)] : List Value)).toArray] (kf13 _ _) rfl ((large_f k i s w18 hs).mono ?_))
        rintro e w24 ⟨rfl, t_⟩
        refine ⟨_, rfl, ?_⟩
        replace hM := hM.call t_
        clear t_
        (try simp only [Act.put, List.setIfInBounds_toArray, List.set_cons_zero, List.set_cons_succ])
        refine wl_nil ?_
        refine hK23 _ _ ?_
        (try clear hK23 K23)
        refine wp_cond_false rfl ?_
        refine wp_skip ?_
        refine hK19 _ _ ?_
        (try clear hK19 K19)
        refine wp_seq_k (fun K25 hK25 => ?_)
        refine wl_region ?_
        refine wl_give rfl (g_move _ (.pointer (some ⟨p8, 0, none⟩)) rfl ?_)
        (try simp only [Act.put, List.setIfInBounds_toArray, List.set_cons_zero, List.set_cons_succ])
        refine wl_give rfl (g_call 23 _ _ [.pointer (some ⟨p8, 0, none⟩)] (kf23 _ _) rfl ((keep1 1 rfl (fun R_ h_ => size_v (n := ((L.length : Nat) : Int)) h_ (by omega) (rfl)) hM).mono ?_))
        rintro e w26 ⟨rfl, h_⟩
        refine ⟨_, rfl, ?_⟩
        replace hM : Ms w w26 [blk (wr.heap.size) (([.int .i64 (k), .int .i64 (i), .string (s)] : List Value)) 32, bf p8 (q + 1) (((r + 1 : Nat) : Int)) (d) (L)] := h_
        clear h_
        (try simp only [Act.put, List.setIfInBounds_toArray, List.set_cons_zero, List.set_cons_succ])
        refine wl_give rfl (g_move _ (.pointer (some ⟨p8, 0, none⟩)) rfl ?_)
        (try simp only [Act.put, List.setIfInBounds_toArray, List.set_cons_zero, List.set_cons_succ])
        refine wl_give rfl (g_call 24 _ _ [.pointer (some ⟨p8, 0, none⟩)] (kf24 _ _) rfl ((keep1 1 rfl (fun R_ h_ => dropped_any h_) hM).mono ?_))
        rintro e w27 ⟨rfl, h_⟩
        refine ⟨_, rfl, ?_⟩
        replace hM : Ms w w27 [blk (wr.heap.size) (([.int .i64 (k), .int .i64 (i), .string (s)] : List Value)) 32, bf p8 (q + 1) (((r + 1 : Nat) : Int)) (d) (L)] := h_
        clear h_
        (try simp only [Act.put, List.setIfInBounds_toArray, List.set_cons_zero, List.set_cons_succ])
        refine wl_give rfl (g_assign _ (.int .i64 (((L.length : Nat) : Int))) rfl ?_)
        (try simp only [Act.put, List.setIfInBounds_toArray, List.set_cons_zero, List.set_cons_succ])
        refine wl_give rfl (g_assign _ (.int .i64 (d)) rfl ?_)
        (try simp only [Act.put, List.setIfInBounds_toArray, List.set_cons_zero, List.set_cons_succ])
        refine wl_nil ?_
        refine hK25 _ _ ?_
        (try clear hK25 K25)
        refine wp_seq_k (fun K28 hK28 => ?_)
        by_cases hk0 : k = 0
        · have hee := bpE_cases ((q + 1 : Nat) : Int) ((r + 1 : Nat) : Int) i s L
          obtain ⟨e, he⟩ : ∃ e, bpE ((q + 1 : Nat) : Int) ((r + 1 : Nat) : Int) i s L = e := ⟨_, rfl⟩
          rw [he] at hee
          have hd2 : Shut (IntKind.i64.wrap (d + 1) = d + 1) := ⟨wrap_id _ (by omega) (by omega)⟩
          have hl2 : Shut (IntKind.i64.wrap (((L.length : Nat) : Int) + 1) = ((L.length + 1 : Nat) : Int)) := ⟨by rw [wrap_id _ (by omega) (by omega)]; omega⟩
          rcases hee with rfl | rfl | rfl | rfl
          · skip
            refine wp_seq_k (fun K29 hK29 => ?_)
            refine wl_region ?_
            refine wl_give rfl (g_fa 32 _ (wr.heap.size) (0) (0) 0 rfl (fa32_0 _ _ _) ?_)
            (try simp only [Act.put, List.setIfInBounds_toArray, List.set_cons_zero, List.set_cons_succ])
            refine wl_give rfl (g_ld1 3 _ (wr.heap.size) 0 _ rfl (ld3 _ _ _ _ ((hM.get 0 rfl).cell 0 _ rfl)) ?_)
            (try simp only [Act.put, List.setIfInBounds_toArray, List.set_cons_zero, List.set_cons_succ])
            refine wl_nil ?_
            refine hK29 _ _ ?_
            (try clear hK29 K29)
            refine wp_block ?_
            refine wp_seq_k (fun K30 hK30 => ?_)
            refine wl_region ?_
            refine wl_give rfl (g_ieq 3 _ _ .i64 (k) (0) true rfl rfl (decide_eq_true hk0) ?_)
            (try simp only [Act.put, List.setIfInBounds_toArray, List.set_cons_zero, List.set_cons_succ])
            refine wl_give rfl (g_assign _ (.bool true) rfl ?_)
            (try simp only [Act.put, List.setIfInBounds_toArray, List.set_cons_zero, List.set_cons_succ])
            refine wl_nil ?_
            refine hK30 _ _ ?_
            (try clear hK30 K30)
            refine wp_cond_true rfl ?_
            refine wp_seq_k (fun K31 hK31 => ?_)
            refine wl_region ?_
            refine wl_give rfl (g_move _ (.pointer (some ⟨p8, 0, none⟩)) rfl ?_)
            (try simp only [Act.put, List.setIfInBounds_toArray, List.set_cons_zero, List.set_cons_succ])
            refine wl_give rfl (g_fa 32 _ (wr.heap.size) (0) (1) 1 rfl (fa32_1 _ _ _) ?_)
            (try simp only [Act.put, List.setIfInBounds_toArray, List.set_cons_zero, List.set_cons_succ])
            refine wl_give rfl (g_ld1 3 _ (wr.heap.size) 1 _ rfl (ld3 _ _ _ _ ((hM.get 0 rfl).cell 1 _ rfl)) ?_)
            (try simp only [Act.put, List.setIfInBounds_toArray, List.set_cons_zero, List.set_cons_succ])
            refine wl_give rfl (g_fa 32 _ (wr.heap.size) (0) (2) 2 rfl (fa32_2 _ _ _) ?_)
            (try simp only [Act.put, List.setIfInBounds_toArray, List.set_cons_zero, List.set_cons_succ])
            refine wl_give rfl (g_ld1 9 _ (wr.heap.size) 2 _ rfl (ld9 _ _ _ _ ((hM.get 0 rfl).cell 2 _ rfl)) ?_)
            (try simp only [Act.put, List.setIfInBounds_toArray, List.set_cons_zero, List.set_cons_succ])
            refine wl_give rfl (g_call 14 _ _ [.pointer (some ⟨p8, 0, none⟩), .int .i64 (i), .string (s)] (kf14 _ _) rfl ((put_0 (show Ms w w27 [bf p8 (q + 1) (((r + 1 : Nat) : Int)) (d) (L), blk (wr.heap.size) (([.int .i64 (k), .int .i64 (i), .string (s)] : List Value)) 32] from (hM.up 1 rfl)) (by omega) (by omega) hik (by omega) (by omega) ⟨he⟩).mono ?_))
            rintro e w32 ⟨rfl, h_⟩
            refine ⟨_, rfl, ?_⟩
            replace hM : Ms w w32 [bf p8 (q + 1) (((r + 1 : Nat) : Int)) (d) (L ++ [(i, s)]), blk (wr.heap.size) (([.int .i64 (k), .int .i64 (i), .string (s)] : List Value)) 32] := h_
            clear h_
            (try simp only [Act.put, List.setIfInBounds_toArray, List.set_cons_zero, List.set_cons_succ])
            refine wl_give rfl (g_assign _ (.int .i64 (0)) rfl ?_)
            (try simp only [Act.put, List.setIfInBounds_toArray, List.set_cons_zero, List.set_cons_succ])
            refine wl_nil ?_
            refine hK31 _ _ ?_
            (try clear hK31 K31)
            refine wp_seq_k (fun K33 hK33 => ?_)
            (try simp only [List.append_eq, List.cons_append, List.nil_append])
            refine wl_region ?_
            refine wl_give rfl (g_move _ (.int .i64 (0)) rfl ?_)
            (try simp only [Act.put, List.setIfInBounds_toArray, List.set_cons_zero, List.set_cons_succ])
            refine wl_give rfl (g_ieq 25 _ _ .i64 (0) (0) true rfl rfl (by decide) ?_)
            (try simp only [Act.put, List.setIfInBounds_toArray, List.set_cons_zero, List.set_cons_succ])
            refine wl_give rfl (g_move _ (.bool true) rfl ?_)
            (try simp only [Act.put, List.setIfInBounds_toArray, List.set_cons_zero, List.set_cons_succ])
            refine wl_give rfl (g_move _ (.pointer (some ⟨p8, 0, none⟩)) rfl ?_)
            (try simp only [Act.put, List.setIfInBounds_toArray, List.set_cons_zero, List.set_cons_succ])
            refine wl_give rfl (g_call 23 _ _ [.pointer (some ⟨p8, 0, none⟩)] (kf23 _ _) rfl ((keep1 0 rfl (fun R_ h_ => size_v (n := ((L.length + 1 : Nat) : Int)) h_ (by simp; omega) (by simp)) hM).mono ?_))
            rintro e w34 ⟨rfl, h_⟩
            refine ⟨_, rfl, ?_⟩
            replace hM : Ms w w34 [bf p8 (q + 1) (((r + 1 : Nat) : Int)) (d) (L ++ [(i, s)]), blk (wr.heap.size) (([.int .i64 (k), .int .i64 (i), .string (s)] : List Value)) 32] := h_
            clear h_
            (try simp only [Act.put, List.setIfInBounds_toArray, List.set_cons_zero, List.set_cons_succ])
            refine wl_give rfl (g_move _ (.int .i64 (((L.length : Nat) : Int))) rfl ?_)
            (try simp only [Act.put, List.setIfInBounds_toArray, List.set_cons_zero, List.set_cons_succ])
            refine wl_give rfl (g_ia 3 _ _ .i64 (((L.length : Nat) : Int)) (1) (((L.length + 1 : Nat) : Int)) rfl rfl (hl2.out) ?_)
            (try simp only [Act.put, List.setIfInBounds_toArray, List.set_cons_zero, List.set_cons_succ])
            refine wl_give rfl (g_ine 3 _ _ .i64 (((L.length + 1 : Nat) : Int)) (((L.length + 1 : Nat) : Int)) false rfl rfl (decide_eq_false (fun h => h rfl)) ?_)
            (try simp only [Act.put, List.setIfInBounds_toArray, List.set_cons_zero, List.set_cons_succ])
            refine wl_give rfl (g_pickt _ _ _ (.bool false) rfl rfl ?_)
            (try simp only [Act.put, List.setIfInBounds_toArray, List.set_cons_zero, List.set_cons_succ])
            refine wl_give rfl (g_move _ (.bool false) rfl ?_)
            (try simp only [Act.put, List.setIfInBounds_toArray, List.set_cons_zero, List.set_cons_succ])
            refine wl_give rfl (g_move _ (.int .i64 (0)) rfl ?_)
            (try simp only [Act.put, List.setIfInBounds_toArray, List.set_cons_zero, List.set_cons_succ])
            refine wl_give rfl (g_ine 25 _ _ .i64 (0) (0) false rfl rfl (by decide) ?_)
            (try simp only [Act.put, List.setIfInBounds_toArray, List.set_cons_zero, List.set_cons_succ])
            refine wl_give rfl (g_move _ (.bool false) rfl ?_)
            (try simp only [Act.put, List.setIfInBounds_toArray, List.set_cons_zero, List.set_cons_succ])
            refine wl_skip rfl ?_
            (try simp only [Act.put, List.setIfInBounds_toArray, List.set_cons_zero, List.set_cons_succ])
            refine wl_skip rfl ?_
            (try simp only [Act.put, List.setIfInBounds_toArray, List.set_cons_zero, List.set_cons_succ])
            refine wl_skip rfl ?_
            (try simp only [Act.put, List.setIfInBounds_toArray, List.set_cons_zero, List.set_cons_succ])
            refine wl_skip rfl ?_
            (try simp only [Act.put, List.setIfInBounds_toArray, List.set_cons_zero, List.set_cons_succ])
            refine wl_give rfl (g_pickf _ _ _ (.bool false) rfl rfl ?_)
            (try simp only [Act.put, List.setIfInBounds_toArray, List.set_cons_zero, List.set_cons_succ])
            refine wl_give rfl (g_pickf _ _ _ (.bool false) rfl rfl ?_)
            (try simp only [Act.put, List.setIfInBounds_toArray, List.set_cons_zero, List.set_cons_succ])
            refine wl_give rfl (g_move _ (.bool false) rfl ?_)
            (try simp only [Act.put, List.setIfInBounds_toArray, List.set_cons_zero, List.set_cons_succ])
            refine wl_give rfl (g_move _ (.int .i64 (0)) rfl ?_)
            (try simp only [Act.put, List.setIfInBounds_toArray, List.set_cons_zero, List.set_cons_succ])
            refine wl_give rfl (g_ieq 25 _ _ .i64 (0) (4) false rfl rfl (by decide) ?_)
            (try simp only [Act.put, List.setIfInBounds_toArray, List.set_cons_zero, List.set_cons_succ])
            refine wl_give rfl (g_move _ (.pointer (some ⟨p8, 0, none⟩)) rfl ?_)
            (try simp only [Act.put, List.setIfInBounds_toArray, List.set_cons_zero, List.set_cons_succ])
            refine wl_give rfl (g_call 24 _ _ [.pointer (some ⟨p8, 0, none⟩)] (kf24 _ _) rfl ((keep1 0 rfl (fun R_ h_ => dropped_any h_) hM).mono ?_))
            rintro e w35 ⟨rfl, h_⟩
            refine ⟨_, rfl, ?_⟩
            replace hM : Ms w w35 [bf p8 (q + 1) (((r + 1 : Nat) : Int)) (d) (L ++ [(i, s)]), blk (wr.heap.size) (([.int .i64 (k), .int .i64 (i), .string (s)] : List Value)) 32] := h_
            clear h_
            (try simp only [Act.put, List.setIfInBounds_toArray, List.set_cons_zero, List.set_cons_succ])
            refine wl_give rfl (g_move _ (.int .i64 (d)) rfl ?_)
            (try simp only [Act.put, List.setIfInBounds_toArray, List.set_cons_zero, List.set_cons_succ])
            refine wl_give rfl (g_ia 3 _ _ .i64 (d) (1) (d + 1) rfl rfl (hd2.out) ?_)
            (try simp only [Act.put, List.setIfInBounds_toArray, List.set_cons_zero, List.set_cons_succ])
            refine wl_give rfl (g_ieq 3 _ _ .i64 (d) (d + 1) false rfl rfl (decide_eq_false (by omega)) ?_)
            (try simp only [Act.put, List.setIfInBounds_toArray, List.set_cons_zero, List.set_cons_succ])
            refine wl_give rfl (g_bne _ _ false false false rfl rfl rfl ?_)
            (try simp only [Act.put, List.setIfInBounds_toArray, List.set_cons_zero, List.set_cons_succ])
            refine wl_give rfl (g_pickf _ _ _ (.bool false) rfl rfl ?_)
            (try simp only [Act.put, List.setIfInBounds_toArray, List.set_cons_zero, List.set_cons_succ])
            refine wl_give rfl (g_move _ (.bool false) rfl ?_)
            (try simp only [Act.put, List.setIfInBounds_toArray, List.set_cons_zero, List.set_cons_succ])
            refine wl_give rfl (g_move _ (.pointer (some ⟨p8, 0, none⟩)) rfl ?_)
            (try simp only [Act.put, List.setIfInBounds_toArray, List.set_cons_zero, List.set_cons_succ])
            refine wl_give rfl (g_fa 32 _ (wr.heap.size) (0) (1) 1 rfl (fa32_1 _ _ _) ?_)
            (try simp only [Act.put, List.setIfInBounds_toArray, List.set_cons_zero, List.set_cons_succ])
            refine wl_give rfl (g_ld1 3 _ (wr.heap.size) 1 _ rfl (ld3 _ _ _ _ ((hM.get 1 rfl).cell 1 _ rfl)) ?_)
            (try simp only [Act.put, List.setIfInBounds_toArray, List.set_cons_zero, List.set_cons_succ])
            refine wl_give rfl (g_fa 32 _ (wr.heap.size) (0) (2) 2 rfl (fa32_2 _ _ _) ?_)
            (try simp only [Act.put, List.setIfInBounds_toArray, List.set_cons_zero, List.set_cons_succ])
            refine wl_give rfl (g_ld1 9 _ (wr.heap.size) 2 _ rfl (ld9 _ _ _ _ ((hM.get 1 rfl).cell 2 _ rfl)) ?_)
            (try simp only [Act.put, List.setIfInBounds_toArray, List.set_cons_zero, List.set_cons_succ])
            refine wl_give rfl (g_call 25 _ _ [.pointer (some ⟨p8, 0, none⟩), .int .i64 (i), .string (s)] (kf25 _ _) rfl ((keep1 0 rfl (fun R_ h_ => has_v (r := true) h_ (by omega) (hasT_snoc i s L)) hM).mono ?_))
            rintro e w36 ⟨rfl, h_⟩
            refine ⟨_, rfl, ?_⟩
            replace hM : Ms w w36 [bf p8 (q + 1) (((r + 1 : Nat) : Int)) (d) (L ++ [(i, s)]), blk (wr.heap.size) (([.int .i64 (k), .int .i64 (i), .string (s)] : List Value)) 32] := h_
            clear h_
            (try simp only [Act.put, List.setIfInBounds_toArray, List.set_cons_zero, List.set_cons_succ])
            refine wl_give rfl (g_move _ (.int .i64 (0)) rfl ?_)
            (try simp only [Act.put, List.setIfInBounds_toArray, List.set_cons_zero, List.set_cons_succ])
            refine wl_give rfl (g_ieq 25 _ _ .i64 (0) (0) true rfl rfl (by decide) ?_)
            (try simp only [Act.put, List.setIfInBounds_toArray, List.set_cons_zero, List.set_cons_succ])
            refine wl_give rfl (g_move _ (.bool true) rfl ?_)
            (try simp only [Act.put, List.setIfInBounds_toArray, List.set_cons_zero, List.set_cons_succ])
            refine wl_skip rfl ?_
            (try simp only [Act.put, List.setIfInBounds_toArray, List.set_cons_zero, List.set_cons_succ])
            refine wl_skip rfl ?_
            (try simp only [Act.put, List.setIfInBounds_toArray, List.set_cons_zero, List.set_cons_succ])
            refine wl_give rfl (g_pickt _ _ _ (.bool true) rfl rfl ?_)
            (try simp only [Act.put, List.setIfInBounds_toArray, List.set_cons_zero, List.set_cons_succ])
            refine wl_give rfl (g_bne _ _ true true false rfl rfl rfl ?_)
            (try simp only [Act.put, List.setIfInBounds_toArray, List.set_cons_zero, List.set_cons_succ])
            refine wl_give rfl (g_pickf _ _ _ (.bool false) rfl rfl ?_)
            (try simp only [Act.put, List.setIfInBounds_toArray, List.set_cons_zero, List.set_cons_succ])
            refine wl_nil ?_
            refine hK33 _ _ ?_
            (try clear hK33 K33)
            refine wp_cond_false rfl ?_
            refine wp_skip ?_
            refine hK28 _ _ ?_
            (try clear hK28 K28)
            have hI2 : Shut (Ro ((r + 1 : Nat) : Int) (L ++ [(i, s)]) (d) (j + 1)) := ⟨ro_add hI.out he⟩
            have hle2 := hI2.out.le
            have hiv2 := hI2.out.iv
            have hA := ivs_le (L ++ [(i, s)])
            have hB := room_le (L := L ++ [(i, s)]) (bfull (hM.up 0 rfl))
            have hmm : (ivs (L ++ [(i, s)])).length * (q + 1) ≤ 64 * 64 := Nat.mul_le_mul (by omega) (by omega)
            have hmul : Shut (IntKind.i64.wrap ((((ivs (L ++ [(i, s)])).length : Nat) : Int) * ((q + 1 : Nat) : Int)) = (((ivs (L ++ [(i, s)])).length * (q + 1) : Nat) : Int)) := ⟨by rw [← Int.natCast_mul, wrap_id _ (by omega) (by omega)]⟩
            refine wp_seq_k (fun K37 hK37 => ?_)
            refine wl_region ?_
            refine wl_give rfl (g_move _ (.pointer (some ⟨p8, 0, none⟩)) rfl ?_)
            (try simp only [Act.put, List.setIfInBounds_toArray, List.set_cons_zero, List.set_cons_succ])
            refine wl_give rfl (g_call 21 _ _ [.pointer (some ⟨p8, 0, none⟩)] (kf21 _ _) rfl ((to_row (ivals_v (l := ivs (L ++ [(i, s)])) hM (by omega) rfl)).mono ?_))
            rintro e w38 ⟨o39, k40, rfl, h_⟩
            refine ⟨_, rfl, ?_⟩
            replace hM : Ms w w38 [row 3 1 (.slice o39 (ivs (L ++ [(i, s)])).length k40) ((ivs (L ++ [(i, s)])).length) ((ivs (L ++ [(i, s)])).map encZ), bf p8 (q + 1) (((r + 1 : Nat) : Int)) (d) (L ++ [(i, s)]), blk (wr.heap.size) (([.int .i64 (k), .int .i64 (i), .string (s)] : List Value)) 32] := h_
            clear h_
            (try simp only [Act.put, List.setIfInBounds_toArray, List.set_cons_zero, List.set_cons_succ])
            refine wl_give rfl (g_len _ 39 3 (o39) ((ivs (L ++ [(i, s)])).length) (k40) ((((ivs (L ++ [(i, s)])).length : Nat) : Int)) Try.underlying39 rfl rfl ?_)
            (try simp only [Act.put, List.setIfInBounds_toArray, List.set_cons_zero, List.set_cons_succ])
            refine wl_give rfl (g_assign _ (.int .i64 ((((ivs (L ++ [(i, s)])).length : Nat) : Int))) rfl ?_)
            (try simp only [Act.put, List.setIfInBounds_toArray, List.set_cons_zero, List.set_cons_succ])
            refine wl_nil ?_
            refine hK37 _ _ ?_
            (try clear hK37 K37)
            refine wp_seq_k (fun K41 hK41 => ?_)
            refine wl_region ?_
            refine wl_give rfl (g_move _ (.int .i64 ((((ivs (L ++ [(i, s)])).length : Nat) : Int))) rfl ?_)
            (try simp only [Act.put, List.setIfInBounds_toArray, List.set_cons_zero, List.set_cons_succ])
            refine wl_give rfl (g_move _ (.int .i64 (((r + 1 : Nat) : Int))) rfl ?_)
            (try simp only [Act.put, List.setIfInBounds_toArray, List.set_cons_zero, List.set_cons_succ])
            refine wl_give rfl (g_igtr 3 _ _ .i64 ((((ivs (L ++ [(i, s)])).length : Nat) : Int)) (((r + 1 : Nat) : Int)) false rfl rfl (decide_eq_false (by omega)) ?_)
            (try simp only [Act.put, List.setIfInBounds_toArray, List.set_cons_zero, List.set_cons_succ])
            refine wl_give rfl (g_move _ (.bool false) rfl ?_)
            (try simp only [Act.put, List.setIfInBounds_toArray, List.set_cons_zero, List.set_cons_succ])
            refine wl_give rfl (g_move _ (.pointer (some ⟨p8, 0, none⟩)) rfl ?_)
            (try simp only [Act.put, List.setIfInBounds_toArray, List.set_cons_zero, List.set_cons_succ])
            refine wl_give rfl (g_call 23 _ _ [.pointer (some ⟨p8, 0, none⟩)] (kf23 _ _) rfl ((keep1 1 rfl (fun R_ h_ => size_v (n := (((L ++ [(i, s)]).length : Nat) : Int)) h_ (by omega) (rfl)) hM).mono ?_))
            rintro e w42 ⟨rfl, h_⟩
            refine ⟨_, rfl, ?_⟩
            replace hM : Ms w w42 [row 3 1 (.slice o39 (ivs (L ++ [(i, s)])).length k40) ((ivs (L ++ [(i, s)])).length) ((ivs (L ++ [(i, s)])).map encZ), bf p8 (q + 1) (((r + 1 : Nat) : Int)) (d) (L ++ [(i, s)]), blk (wr.heap.size) (([.int .i64 (k), .int .i64 (i), .string (s)] : List Value)) 32] := h_
            clear h_
            (try simp only [Act.put, List.setIfInBounds_toArray, List.set_cons_zero, List.set_cons_succ])
            refine wl_give rfl (g_move _ (.int .i64 ((((ivs (L ++ [(i, s)])).length : Nat) : Int))) rfl ?_)
            (try simp only [Act.put, List.setIfInBounds_toArray, List.set_cons_zero, List.set_cons_succ])
            refine wl_give rfl (g_move _ (.int .i64 (((q + 1 : Nat) : Int))) rfl ?_)
            (try simp only [Act.put, List.setIfInBounds_toArray, List.set_cons_zero, List.set_cons_succ])
            refine wl_give rfl (g_imul 3 _ _ .i64 ((((ivs (L ++ [(i, s)])).length : Nat) : Int)) (((q + 1 : Nat) : Int)) ((((ivs (L ++ [(i, s)])).length * (q + 1) : Nat) : Int)) rfl rfl (hmul.out) ?_)
            (try simp only [Act.put, List.setIfInBounds_toArray, List.set_cons_zero, List.set_cons_succ])
            refine wl_give rfl (g_igtr 3 _ _ .i64 ((((L ++ [(i, s)]).length : Nat) : Int)) ((((ivs (L ++ [(i, s)])).length * (q + 1) : Nat) : Int)) false rfl rfl (decide_eq_false (by omega)) ?_)
            (try simp only [Act.put, List.setIfInBounds_toArray, List.set_cons_zero, List.set_cons_succ])
            refine wl_give rfl (g_pickf _ _ _ (.bool false) rfl rfl ?_)
            (try simp only [Act.put, List.setIfInBounds_toArray, List.set_cons_zero, List.set_cons_succ])
            refine wl_give rfl (g_move _ (.bool false) rfl ?_)
            (try simp only [Act.put, List.setIfInBounds_toArray, List.set_cons_zero, List.set_cons_succ])
            refine wl_give rfl (g_move _ (.pointer (some ⟨p8, 0, none⟩)) rfl ?_)
            (try simp only [Act.put, List.setIfInBounds_toArray, List.set_cons_zero, List.set_cons_succ])
            refine wl_give rfl (g_call 23 _ _ [.pointer (some ⟨p8, 0, none⟩)] (kf23 _ _) rfl ((keep1 1 rfl (fun R_ h_ => size_v (n := (((L ++ [(i, s)]).length : Nat) : Int)) h_ (by omega) (rfl)) hM).mono ?_))
            rintro e w43 ⟨rfl, h_⟩
            refine ⟨_, rfl, ?_⟩
            replace hM : Ms w w43 [row 3 1 (.slice o39 (ivs (L ++ [(i, s)])).length k40) ((ivs (L ++ [(i, s)])).length) ((ivs (L ++ [(i, s)])).map encZ), bf p8 (q + 1) (((r + 1 : Nat) : Int)) (d) (L ++ [(i, s)]), blk (wr.heap.size) (([.int .i64 (k), .int .i64 (i), .string (s)] : List Value)) 32] := h_
            clear h_
            (try simp only [Act.put, List.setIfInBounds_toArray, List.set_cons_zero, List.set_cons_succ])
            refine wl_give rfl (g_move _ (.int .i64 ((((ivs (L ++ [(i, s)])).length : Nat) : Int))) rfl ?_)
            (try simp only [Act.put, List.setIfInBounds_toArray, List.set_cons_zero, List.set_cons_succ])
            refine wl_give rfl (g_ilss 3 _ _ .i64 ((((L ++ [(i, s)]).length : Nat) : Int)) ((((ivs (L ++ [(i, s)])).length : Nat) : Int)) false rfl rfl (decide_eq_false (by omega)) ?_)
            (try simp only [Act.put, List.setIfInBounds_toArray, List.set_cons_zero, List.set_cons_succ])
            refine wl_give rfl (g_pickf _ _ _ (.bool false) rfl rfl ?_)
            (try simp only [Act.put, List.setIfInBounds_toArray, List.set_cons_zero, List.set_cons_succ])
            refine wl_nil ?_
            refine hK41 _ _ ?_
            (try clear hK41 K41)
            refine wp_cond_false rfl ?_
            refine wp_skip ?_
            refine hK15 _ _ ?_
            (try clear hK15 K15)
            refine wl_region ?_
            refine wl_give rfl (g_move _ (.int .i64 (((j : Nat) : Int))) rfl ?_)
            (try simp only [Act.put, List.setIfInBounds_toArray, List.set_cons_zero, List.set_cons_succ])
            refine wl_give rfl (g_ia 3 _ _ .i64 (((j : Nat) : Int)) (1) (((j + 1 : Nat) : Int)) rfl rfl (hj1.out) ?_)
            (try simp only [Act.put, List.setIfInBounds_toArray, List.set_cons_zero, List.set_cons_succ])
            refine wl_give rfl (g_assign _ (.int .i64 (((j + 1 : Nat) : Int))) rfl ?_)
            (try simp only [Act.put, List.setIfInBounds_toArray, List.set_cons_zero, List.set_cons_succ])
            refine wl_nil ?_
            (try simp only [Exit.then, Exit.inBlock, ↓reduceIte, Nat.reduceEqDiff])
            have h9 : Ms w w43 [bf p8 (q + 1) (((r + 1 : Nat) : Int)) (d) (L ++ [(i, s)]), row 3 1 (.slice o39 (ivs (L ++ [(i, s)])).length k40) ((ivs (L ++ [(i, s)])).length) ((ivs (L ++ [(i, s)])).map encZ), blk (wr.heap.size) (([.int .i64 (k), .int .i64 (i), .string (s)] : List Value)) 32] := (((hM.up 2 rfl).up 1 rfl).up 2 rfl)
            exact ⟨m - 1, by omega, j + 1, _, _, (tl [.int .u8 (a), .int .u8 (c), .slice (some ⟨b, o, none⟩) (n) (cap), undef, undef, undef, .bool false, .int .i64 (((q + 1 : Nat) : Int)), .int .i64 (((r + 1 : Nat) : Int)), .pointer (some ⟨p8, 0, none⟩), .int .i64 (0), .int .i64 (((j + 1 : Nat) : Int)), .pointer (some ⟨wr.heap.size, 0, none⟩), .int .i64 (((L.length : Nat) : Int)), .int .i64 (d), .int .i64 (0), .int .i64 ((((ivs (L ++ [(i, s)])).length : Nat) : Int)), .bool true, .bool false, .int .u8 (a), .int .u8 (((q : Nat) : Int)), .int .i64 (((q : Nat) : Int)), .int .i64 (((q + 1 : Nat) : Int)), .int .u8 (c), .int .u8 (((r : Nat) : Int)), .int .i64 (((r : Nat) : Int)), .int .i64 (((r + 1 : Nat) : Int)), .tuple #[.pointer (some ⟨p8, 0, none⟩), .int .i64 (0)], .int .i64 (((q + 1 : Nat) : Int)), .int .i64 (((r + 1 : Nat) : Int)), .tuple #[.pointer (some ⟨p8, 0, none⟩), .int .i64 (0)], .pointer (some ⟨p8, 0, none⟩), .int .i64 (0), .pointer (some ⟨p8, 0, none⟩), .bool false, .int .i64 (((j : Nat) : Int)), .slice (some ⟨b, o, none⟩) (n) (cap), .int .i64 (((n : Nat) : Int)), .bool true, .bool true, .int .i64 (((j : Nat) : Int)), .bool true, .bool true, .int .i64 (((j : Nat) : Int)), .int .i64 (((j + 1 : Nat) : Int)), .slice (some ⟨b, o, none⟩) (n) (cap), .int .i64 (((j : Nat) : Int)), .pointer (some ⟨b, o + j * 3, none⟩), .agg (([.int .i64 (k), .int .i64 (i), .string (s)] : List Value)).toArray, .agg (([.int .i64 (k), .int .i64 (i), .string (s)] : List Value)).toArray, .bool false, .pointer (some ⟨p8, 0, none⟩), .int .i64 (((L.length : Nat) : Int)), .pointer (some ⟨p8, 0, none⟩), .int .i64 (d), .pointer (some ⟨wr.heap.size, 0, none⟩), .int .i64 (k), .bool true, .bool true, .pointer (some ⟨p8, 0, none⟩), .pointer (some ⟨wr.heap.size, 1, none⟩), .int .i64 (i), .pointer (some ⟨wr.heap.size, 2, none⟩), .string (s), .int .i64 (0), .int .i64 (0), .bool true, .bool true, .pointer (some ⟨p8, 0, none⟩), .int .i64 (((L.length + 1 : Nat) : Int)), .int .i64 (((L.length : Nat) : Int)), .int .i64 (((L.length + 1 : Nat) : Int)), .bool false, .bool false, .bool false, .int .i64 (0), .bool false, .bool false, undef, undef, undef, undef, .bool false, .bool false, .bool false, .int .i64 (0), .bool false, .pointer (some ⟨p8, 0, none⟩), .int .i64 (d), .int .i64 (d), .int .i64 (d + 1), .bool false, .bool false, .bool false, .bool false, .pointer (some ⟨p8, 0, none⟩), .pointer (some ⟨wr.heap.size, 1, none⟩), .int .i64 (i), .pointer (some ⟨wr.heap.size, 2, none⟩), .string (s), .bool true, .int .i64 (0), .bool true, .bool true, undef, undef, .bool true, .bool false, .bool false, t 109, t 110, t 111, t 112, t 113, t 114, t 115, t 116, t 117, t 118, t 119, t 120, t 121, t 122, t 123, t 124, t 125, t 126, t 127, t 128, t 129, t 130, t 131, t 132, t 133, t 134, t 135, t 136, t 137, t 138, t 139, t 140, t 141, t 142, t 143, .pointer (some ⟨p8, 0, none⟩), .slice o39 ((ivs (L ++ [(i, s)])).length) (k40), .int .i64 ((((ivs (L ++ [(i, s)])).length : Nat) : Int)), .int .i64 ((((ivs (L ++ [(i, s)])).length : Nat) : Int)), .int .i64 (((r + 1 : Nat) : Int)), .bool false, .bool false, .pointer (some ⟨p8, 0, none⟩), .int .i64 ((((L ++ [(i, s)]).length : Nat) : Int)), .int .i64 ((((ivs (L ++ [(i, s)])).length : Nat) : Int)), .int .i64 (((q + 1 : Nat) : Int)), .int .i64 ((((ivs (L ++ [(i, s)])).length * (q + 1) : Nat) : Int)), .bool false, .bool false, .bool false, .pointer (some ⟨p8, 0, none⟩), .int .i64 ((((L ++ [(i, s)]).length : Nat) : Int)), .int .i64 ((((ivs (L ++ [(i, s)])).length : Nat) : Int)), .bool false, .bool false]), rfl, by omega, hI2, ((h9.erase 2).erase 1)⟩
          · skip
            refine wp_seq_k (fun K44 hK44 => ?_)
            refine wl_region ?_
            refine wl_give rfl (g_fa 32 _ (wr.heap.size) (0) (0) 0 rfl (fa32_0 _ _ _) ?_)
            (try simp only [Act.put, List.setIfInBounds_toArray, List.set_cons_zero, List.set_cons_succ])
            refine wl_give rfl (g_ld1 3 _ (wr.heap.size) 0 _ rfl (ld3 _ _ _ _ ((hM.get 0 rfl).cell 0 _ rfl)) ?_)
            (try simp only [Act.put, List.setIfInBounds_toArray, List.set_cons_zero, List.set_cons_succ])
            refine wl_nil ?_
            refine hK44 _ _ ?_
            (try clear hK44 K44)
            refine wp_block ?_
            refine wp_seq_k (fun K45 hK45 => ?_)
            refine wl_region ?_
            refine wl_give rfl (g_ieq 3 _ _ .i64 (k) (0) true rfl rfl (decide_eq_true hk0) ?_)
            (try simp only [Act.put, List.setIfInBounds_toArray, List.set_cons_zero, List.set_cons_succ])
            refine wl_give rfl (g_assign _ (.bool true) rfl ?_)
            (try simp only [Act.put, List.setIfInBounds_toArray, List.set_cons_zero, List.set_cons_succ])
            refine wl_nil ?_
            refine hK45 _ _ ?_
            (try clear hK45 K45)
            refine wp_cond_true rfl ?_
            refine wp_seq_k (fun K46 hK46 => ?_)
            refine wl_region ?_
            refine wl_give rfl (g_move _ (.pointer (some ⟨p8, 0, none⟩)) rfl ?_)
            (try simp only [Act.put, List.setIfInBounds_toArray, List.set_cons_zero, List.set_cons_succ])
            refine wl_give rfl (g_fa 32 _ (wr.heap.size) (0) (1) 1 rfl (fa32_1 _ _ _) ?_)
            (try simp only [Act.put, List.setIfInBounds_toArray, List.set_cons_zero, List.set_cons_succ])
            refine wl_give rfl (g_ld1 3 _ (wr.heap.size) 1 _ rfl (ld3 _ _ _ _ ((hM.get 0 rfl).cell 1 _ rfl)) ?_)
            (try simp only [Act.put, List.setIfInBounds_toArray, List.set_cons_zero, List.set_cons_succ])
            refine wl_give rfl (g_fa 32 _ (wr.heap.size) (0) (2) 2 rfl (fa32_2 _ _ _) ?_)
            (try simp only [Act.put, List.setIfInBounds_toArray, List.set_cons_zero, List.set_cons_succ])
            refine wl_give rfl (g_ld1 9 _ (wr.heap.size) 2 _ rfl (ld9 _ _ _ _ ((hM.get 0 rfl).cell 2 _ rfl)) ?_)
            (try simp only [Act.put, List.setIfInBounds_toArray, List.set_cons_zero, List.set_cons_succ])
            refine wl_give rfl (g_call 14 _ _ [.pointer (some ⟨p8, 0, none⟩), .int .i64 (i), .string (s)] (kf14 _ _) rfl ((put_4 (show Ms w w27 [bf p8 (q + 1) (((r + 1 : Nat) : Int)) (d) (L), blk (wr.heap.size) (([.int .i64 (k), .int .i64 (i), .string (s)] : List Value)) 32] from (hM.up 1 rfl)) (by omega) (by omega) hik (by omega) (by omega) ⟨he⟩).mono ?_))
            rintro e w47 ⟨rfl, h_⟩
            refine ⟨_, rfl, ?_⟩
            replace hM : Ms w w47 [bf p8 (q + 1) (((r + 1 : Nat) : Int)) (d + 1) (L), blk (wr.heap.size) (([.int .i64 (k), .int .i64 (i), .string (s)] : List Value)) 32] := h_
            clear h_
            (try simp only [Act.put, List.setIfInBounds_toArray, List.set_cons_zero, List.set_cons_succ])
            refine wl_give rfl (g_assign _ (.int .i64 (4)) rfl ?_)
            (try simp only [Act.put, List.setIfInBounds_toArray, List.set_cons_zero, List.set_cons_succ])
            refine wl_nil ?_
            refine hK46 _ _ ?_
            (try clear hK46 K46)
            refine wp_seq_k (fun K48 hK48 => ?_)
            (try simp only [List.append_eq, List.cons_append, List.nil_append])
            refine wl_region ?_
            refine wl_give rfl (g_move _ (.int .i64 (4)) rfl ?_)
            (try simp only [Act.put, List.setIfInBounds_toArray, List.set_cons_zero, List.set_cons_succ])
            refine wl_give rfl (g_ieq 25 _ _ .i64 (4) (0) false rfl rfl (by decide) ?_)
            (try simp only [Act.put, List.setIfInBounds_toArray, List.set_cons_zero, List.set_cons_succ])
            refine wl_give rfl (g_move _ (.bool false) rfl ?_)
            (try simp only [Act.put, List.setIfInBounds_toArray, List.set_cons_zero, List.set_cons_succ])
            refine wl_skip rfl ?_
            (try simp only [Act.put, List.setIfInBounds_toArray, List.set_cons_zero, List.set_cons_succ])
            refine wl_skip rfl ?_
            (try simp only [Act.put, List.setIfInBounds_toArray, List.set_cons_zero, List.set_cons_succ])
            refine wl_skip rfl ?_
            (try simp only [Act.put, List.setIfInBounds_toArray, List.set_cons_zero, List.set_cons_succ])
            refine wl_skip rfl ?_
            (try simp only [Act.put, List.setIfInBounds_toArray, List.set_cons_zero, List.set_cons_succ])
            refine wl_skip rfl ?_
            (try simp only [Act.put, List.setIfInBounds_toArray, List.set_cons_zero, List.set_cons_succ])
            refine wl_give rfl (g_pickf _ _ _ (.bool false) rfl rfl ?_)
            (try simp only [Act.put, List.setIfInBounds_toArray, List.set_cons_zero, List.set_cons_succ])
            refine wl_give rfl (g_move _ (.bool false) rfl ?_)
            (try simp only [Act.put, List.setIfInBounds_toArray, List.set_cons_zero, List.set_cons_succ])
            refine wl_give rfl (g_move _ (.int .i64 (4)) rfl ?_)
            (try simp only [Act.put, List.setIfInBounds_toArray, List.set_cons_zero, List.set_cons_succ])
            refine wl_give rfl (g_ine 25 _ _ .i64 (4) (0) true rfl rfl (by decide) ?_)
            (try simp only [Act.put, List.setIfInBounds_toArray, List.set_cons_zero, List.set_cons_succ])
            refine wl_give rfl (g_move _ (.bool true) rfl ?_)
            (try simp only [Act.put, List.setIfInBounds_toArray, List.set_cons_zero, List.set_cons_succ])
            refine wl_give rfl (g_move _ (.pointer (some ⟨p8, 0, none⟩)) rfl ?_)
            (try simp only [Act.put, List.setIfInBounds_toArray, List.set_cons_zero, List.set_cons_succ])
            refine wl_give rfl (g_call 23 _ _ [.pointer (some ⟨p8, 0, none⟩)] (kf23 _ _) rfl ((keep1 0 rfl (fun R_ h_ => size_v (n := ((L.length : Nat) : Int)) h_ (by omega) (rfl)) hM).mono ?_))
            rintro e w49 ⟨rfl, h_⟩
            refine ⟨_, rfl, ?_⟩
            replace hM : Ms w w49 [bf p8 (q + 1) (((r + 1 : Nat) : Int)) (d + 1) (L), blk (wr.heap.size) (([.int .i64 (k), .int .i64 (i), .string (s)] : List Value)) 32] := h_
            clear h_
            (try simp only [Act.put, List.setIfInBounds_toArray, List.set_cons_zero, List.set_cons_succ])
            refine wl_give rfl (g_move _ (.int .i64 (((L.length : Nat) : Int))) rfl ?_)
            (try simp only [Act.put, List.setIfInBounds_toArray, List.set_cons_zero, List.set_cons_succ])
            refine wl_give rfl (g_ine 3 _ _ .i64 (((L.length : Nat) : Int)) (((L.length : Nat) : Int)) false rfl rfl (decide_eq_false (fun h => h rfl)) ?_)
            (try simp only [Act.put, List.setIfInBounds_toArray, List.set_cons_zero, List.set_cons_succ])
            refine wl_give rfl (g_pickt _ _ _ (.bool false) rfl rfl ?_)
            (try simp only [Act.put, List.setIfInBounds_toArray, List.set_cons_zero, List.set_cons_succ])
            refine wl_give rfl (g_pickf _ _ _ (.bool false) rfl rfl ?_)
            (try simp only [Act.put, List.setIfInBounds_toArray, List.set_cons_zero, List.set_cons_succ])
            refine wl_give rfl (g_move _ (.bool false) rfl ?_)
            (try simp only [Act.put, List.setIfInBounds_toArray, List.set_cons_zero, List.set_cons_succ])
            refine wl_give rfl (g_move _ (.int .i64 (4)) rfl ?_)
            (try simp only [Act.put, List.setIfInBounds_toArray, List.set_cons_zero, List.set_cons_succ])
            refine wl_give rfl (g_ieq 25 _ _ .i64 (4) (4) true rfl rfl (by decide) ?_)
            (try simp only [Act.put, List.setIfInBounds_toArray, List.set_cons_zero, List.set_cons_succ])
            refine wl_give rfl (g_move _ (.pointer (some ⟨p8, 0, none⟩)) rfl ?_)
            (try simp only [Act.put, List.setIfInBounds_toArray, List.set_cons_zero, List.set_cons_succ])
            refine wl_give rfl (g_call 24 _ _ [.pointer (some ⟨p8, 0, none⟩)] (kf24 _ _) rfl ((keep1 0 rfl (fun R_ h_ => dropped_any h_) hM).mono ?_))
            rintro e w50 ⟨rfl, h_⟩
            refine ⟨_, rfl, ?_⟩
            replace hM : Ms w w50 [bf p8 (q + 1) (((r + 1 : Nat) : Int)) (d + 1) (L), blk (wr.heap.size) (([.int .i64 (k), .int .i64 (i), .string (s)] : List Value)) 32] := h_
            clear h_
            (try simp only [Act.put, List.setIfInBounds_toArray, List.set_cons_zero, List.set_cons_succ])
            refine wl_give rfl (g_move _ (.int .i64 (d)) rfl ?_)
            (try simp only [Act.put, List.setIfInBounds_toArray, List.set_cons_zero, List.set_cons_succ])
            refine wl_give rfl (g_ia 3 _ _ .i64 (d) (1) (d + 1) rfl rfl (hd2.out) ?_)
            (try simp only [Act.put, List.setIfInBounds_toArray, List.set_cons_zero, List.set_cons_succ])
            refine wl_give rfl (g_ieq 3 _ _ .i64 (d + 1) (d + 1) true rfl rfl (decide_eq_true rfl) ?_)
            (try simp only [Act.put, List.setIfInBounds_toArray, List.set_cons_zero, List.set_cons_succ])
            refine wl_give rfl (g_bne _ _ true true false rfl rfl rfl ?_)
            (try simp only [Act.put, List.setIfInBounds_toArray, List.set_cons_zero, List.set_cons_succ])
            refine wl_give rfl (g_pickf _ _ _ (.bool false) rfl rfl ?_)
            (try simp only [Act.put, List.setIfInBounds_toArray, List.set_cons_zero, List.set_cons_succ])
            refine wl_give rfl (g_move _ (.bool false) rfl ?_)
            (try simp only [Act.put, List.setIfInBounds_toArray, List.set_cons_zero, List.set_cons_succ])
            refine wl_give rfl (g_move _ (.pointer (some ⟨p8, 0, none⟩)) rfl ?_)
            (try simp only [Act.put, List.setIfInBounds_toArray, List.set_cons_zero, List.set_cons_succ])
            refine wl_give rfl (g_fa 32 _ (wr.heap.size) (0) (1) 1 rfl (fa32_1 _ _ _) ?_)
            (try simp only [Act.put, List.setIfInBounds_toArray, List.set_cons_zero, List.set_cons_succ])
            refine wl_give rfl (g_ld1 3 _ (wr.heap.size) 1 _ rfl (ld3 _ _ _ _ ((hM.get 1 rfl).cell 1 _ rfl)) ?_)
            (try simp only [Act.put, List.setIfInBounds_toArray, List.set_cons_zero, List.set_cons_succ])
            refine wl_give rfl (g_fa 32 _ (wr.heap.size) (0) (2) 2 rfl (fa32_2 _ _ _) ?_)
            (try simp only [Act.put, List.setIfInBounds_toArray, List.set_cons_zero, List.set_cons_succ])
            refine wl_give rfl (g_ld1 9 _ (wr.heap.size) 2 _ rfl (ld9 _ _ _ _ ((hM.get 1 rfl).cell 2 _ rfl)) ?_)
            (try simp only [Act.put, List.setIfInBounds_toArray, List.set_cons_zero, List.set_cons_succ])
            refine wl_give rfl (g_call 25 _ _ [.pointer (some ⟨p8, 0, none⟩), .int .i64 (i), .string (s)] (kf25 _ _) rfl ((keep1 0 rfl (fun R_ h_ => has_v (r := false) h_ (by omega) (bpE_hasT he (.inr rfl))) hM).mono ?_))
            rintro e w51 ⟨rfl, h_⟩
            refine ⟨_, rfl, ?_⟩
            replace hM : Ms w w51 [bf p8 (q + 1) (((r + 1 : Nat) : Int)) (d + 1) (L), blk (wr.heap.size) (([.int .i64 (k), .int .i64 (i), .string (s)] : List Value)) 32] := h_
            clear h_
            (try simp only [Act.put, List.setIfInBounds_toArray, List.set_cons_zero, List.set_cons_succ])
            refine wl_give rfl (g_move _ (.int .i64 (4)) rfl ?_)
            (try simp only [Act.put, List.setIfInBounds_toArray, List.set_cons_zero, List.set_cons_succ])
            refine wl_give rfl (g_ieq 25 _ _ .i64 (4) (0) false rfl rfl (by decide) ?_)
            (try simp only [Act.put, List.setIfInBounds_toArray, List.set_cons_zero, List.set_cons_succ])
            refine wl_give rfl (g_move _ (.bool false) rfl ?_)
            (try simp only [Act.put, List.setIfInBounds_toArray, List.set_cons_zero, List.set_cons_succ])
            refine wl_give rfl (g_move _ (.int .i64 (4)) rfl ?_)
            (try simp only [Act.put, List.setIfInBounds_toArray, List.set_cons_zero, List.set_cons_succ])
            refine wl_give rfl (g_ieq 25 _ _ .i64 (4) (11) false rfl rfl (by decide) ?_)
            (try simp only [Act.put, List.setIfInBounds_toArray, List.set_cons_zero, List.set_cons_succ])
            refine wl_give rfl (g_pickf _ _ _ (.bool false) rfl rfl ?_)
            (try simp only [Act.put, List.setIfInBounds_toArray, List.set_cons_zero, List.set_cons_succ])
            refine wl_give rfl (g_bne _ _ false false false rfl rfl rfl ?_)
            (try simp only [Act.put, List.setIfInBounds_toArray, List.set_cons_zero, List.set_cons_succ])
            refine wl_give rfl (g_pickf _ _ _ (.bool false) rfl rfl ?_)
            (try simp only [Act.put, List.setIfInBounds_toArray, List.set_cons_zero, List.set_cons_succ])
            refine wl_nil ?_
            refine hK48 _ _ ?_
            (try clear hK48 K48)
            refine wp_cond_false rfl ?_
            refine wp_skip ?_
            refine hK28 _ _ ?_
            (try clear hK28 K28)
            have hI2 : Shut (Ro ((r + 1 : Nat) : Int) (L) (d + 1) (j + 1)) := ⟨ro_more hI.out⟩
            have hle2 := hI2.out.le
            have hiv2 := hI2.out.iv
            have hA := ivs_le (L)
            have hB := room_le (L := L) (bfull (hM.up 0 rfl))
            have hmm : (ivs (L)).length * (q + 1) ≤ 64 * 64 := Nat.mul_le_mul (by omega) (by omega)
            have hmul : Shut (IntKind.i64.wrap ((((ivs (L)).length : Nat) : Int) * ((q + 1 : Nat) : Int)) = (((ivs (L)).length * (q + 1) : Nat) : Int)) := ⟨by rw [← Int.natCast_mul, wrap_id _ (by omega) (by omega)]⟩
            refine wp_seq_k (fun K52 hK52 => ?_)
            refine wl_region ?_
            refine wl_give rfl (g_move _ (.pointer (some ⟨p8, 0, none⟩)) rfl ?_)
            (try simp only [Act.put, List.setIfInBounds_toArray, List.set_cons_zero, List.set_cons_succ])
            refine wl_give rfl (g_call 21 _ _ [.pointer (some ⟨p8, 0, none⟩)] (kf21 _ _) rfl ((to_row (ivals_v (l := ivs (L)) hM (by omega) rfl)).mono ?_))
            rintro e w53 ⟨o54, k55, rfl, h_⟩
            refine ⟨_, rfl, ?_⟩
            replace hM : Ms w w53 [row 3 1 (.slice o54 (ivs (L)).length k55) ((ivs (L)).length) ((ivs (L)).map encZ), bf p8 (q + 1) (((r + 1 : Nat) : Int)) (d + 1) (L), blk (wr.heap.size) (([.int .i64 (k), .int .i64 (i), .string (s)] : List Value)) 32] := h_
            clear h_
            (try simp only [Act.put, List.setIfInBounds_toArray, List.set_cons_zero, List.set_cons_succ])
            refine wl_give rfl (g_len _ 39 3 (o54) ((ivs (L)).length) (k55) ((((ivs (L)).length : Nat) : Int)) Try.underlying39 rfl rfl ?_)
            (try simp only [Act.put, List.setIfInBounds_toArray, List.set_cons_zero, List.set_cons_succ])
            refine wl_give rfl (g_assign _ (.int .i64 ((((ivs (L)).length : Nat) : Int))) rfl ?_)
            (try simp only [Act.put, List.setIfInBounds_toArray, List.set_cons_zero, List.set_cons_succ])
            refine wl_nil ?_
            refine hK52 _ _ ?_
            (try clear hK52 K52)
            refine wp_seq_k (fun K56 hK56 => ?_)
            refine wl_region ?_
            refine wl_give rfl (g_move _ (.int .i64 ((((ivs (L)).length : Nat) : Int))) rfl ?_)
            (try simp only [Act.put, List.setIfInBounds_toArray, List.set_cons_zero, List.set_cons_succ])
            refine wl_give rfl (g_move _ (.int .i64 (((r + 1 : Nat) : Int))) rfl ?_)
            (try simp only [Act.put, List.setIfInBounds_toArray, List.set_cons_zero, List.set_cons_succ])
            refine wl_give rfl (g_igtr 3 _ _ .i64 ((((ivs (L)).length : Nat) : Int)) (((r + 1 : Nat) : Int)) false rfl rfl (decide_eq_false (by omega)) ?_)
            (try simp only [Act.put, List.setIfInBounds_toArray, List.set_cons_zero, List.set_cons_succ])
            refine wl_give rfl (g_move _ (.bool false) rfl ?_)
            (try simp only [Act.put, List.setIfInBounds_toArray, List.set_cons_zero, List.set_cons_succ])
            refine wl_give rfl (g_move _ (.pointer (some ⟨p8, 0, none⟩)) rfl ?_)
            (try simp only [Act.put, List.setIfInBounds_toArray, List.set_cons_zero, List.set_cons_succ])
            refine wl_give rfl (g_call 23 _ _ [.pointer (some ⟨p8, 0, none⟩)] (kf23 _ _) rfl ((keep1 1 rfl (fun R_ h_ => size_v (n := (((L).length : Nat) : Int)) h_ (by omega) (rfl)) hM).mono ?_))
            rintro e w57 ⟨rfl, h_⟩
            refine ⟨_, rfl, ?_⟩
            replace hM : Ms w w57 [row 3 1 (.slice o54 (ivs (L)).length k55) ((ivs (L)).length) ((ivs (L)).map encZ), bf p8 (q + 1) (((r + 1 : Nat) : Int)) (d + 1) (L), blk (wr.heap.size) (([.int .i64 (k), .int .i64 (i), .string (s)] : List Value)) 32] := h_
            clear h_
            (try simp only [Act.put, List.setIfInBounds_toArray, List.set_cons_zero, List.set_cons_succ])
            refine wl_give rfl (g_move _ (.int .i64 ((((ivs (L)).length : Nat) : Int))) rfl ?_)
            (try simp only [Act.put, List.setIfInBounds_toArray, List.set_cons_zero, List.set_cons_succ])
            refine wl_give rfl (g_move _ (.int .i64 (((q + 1 : Nat) : Int))) rfl ?_)
            (try simp only [Act.put, List.setIfInBounds_toArray, List.set_cons_zero, List.set_cons_succ])
            refine wl_give rfl (g_imul 3 _ _ .i64 ((((ivs (L)).length : Nat) : Int)) (((q + 1 : Nat) : Int)) ((((ivs (L)).length * (q + 1) : Nat) : Int)) rfl rfl (hmul.out) ?_)
            (try simp only [Act.put, List.setIfInBounds_toArray, List.set_cons_zero, List.set_cons_succ])
            refine wl_give rfl (g_igtr 3 _ _ .i64 ((((L).length : Nat) : Int)) ((((ivs (L)).length * (q + 1) : Nat) : Int)) false rfl rfl (decide_eq_false (by omega)) ?_)
            (try simp only [Act.put, List.setIfInBounds_toArray, List.set_cons_zero, List.set_cons_succ])
            refine wl_give rfl (g_pickf _ _ _ (.bool false) rfl rfl ?_)
            (try simp only [Act.put, List.setIfInBounds_toArray, List.set_cons_zero, List.set_cons_succ])
            refine wl_give rfl (g_move _ (.bool false) rfl ?_)
            (try simp only [Act.put, List.setIfInBounds_toArray, List.set_cons_zero, List.set_cons_succ])
            refine wl_give rfl (g_move _ (.pointer (some ⟨p8, 0, none⟩)) rfl ?_)
            (try simp only [Act.put, List.setIfInBounds_toArray, List.set_cons_zero, List.set_cons_succ])
            refine wl_give rfl (g_call 23 _ _ [.pointer (some ⟨p8, 0, none⟩)] (kf23 _ _) rfl ((keep1 1 rfl (fun R_ h_ => size_v (n := (((L).length : Nat) : Int)) h_ (by omega) (rfl)) hM).mono ?_))
            rintro e w58 ⟨rfl, h_⟩
            refine ⟨_, rfl, ?_⟩
            replace hM : Ms w w58 [row 3 1 (.slice o54 (ivs (L)).length k55) ((ivs (L)).length) ((ivs (L)).map encZ), bf p8 (q + 1) (((r + 1 : Nat) : Int)) (d + 1) (L), blk (wr.heap.size) (([.int .i64 (k), .int .i64 (i), .string (s)] : List Value)) 32] := h_
            clear h_
            (try simp only [Act.put, List.setIfInBounds_toArray, List.set_cons_zero, List.set_cons_succ])
            refine wl_give rfl (g_move _ (.int .i64 ((((ivs (L)).length : Nat) : Int))) rfl ?_)
            (try simp only [Act.put, List.setIfInBounds_toArray, List.set_cons_zero, List.set_cons_succ])
            refine wl_give rfl (g_ilss 3 _ _ .i64 ((((L).length : Nat) : Int)) ((((ivs (L)).length : Nat) : Int)) false rfl rfl (decide_eq_false (by omega)) ?_)
            (try simp only [Act.put, List.setIfInBounds_toArray, List.set_cons_zero, List.set_cons_succ])
            refine wl_give rfl (g_pickf _ _ _ (.bool false) rfl rfl ?_)
            (try simp only [Act.put, List.setIfInBounds_toArray, List.set_cons_zero, List.set_cons_succ])
            refine wl_nil ?_
            refine hK56 _ _ ?_
            (try clear hK56 K56)
            refine wp_cond_false rfl ?_
            refine wp_skip ?_
            refine hK15 _ _ ?_
            (try clear hK15 K15)
            refine wl_region ?_
            refine wl_give rfl (g_move _ (.int .i64 (((j : Nat) : Int))) rfl ?_)
            (try simp only [Act.put, List.setIfInBounds_toArray, List.set_cons_zero, List.set_cons_succ])
            refine wl_give rfl (g_ia 3 _ _ .i64 (((j : Nat) : Int)) (1) (((j + 1 : Nat) : Int)) rfl rfl (hj1.out) ?_)
            (try simp only [Act.put, List.setIfInBounds_toArray, List.set_cons_zero, List.set_cons_succ])
            refine wl_give rfl (g_assign _ (.int .i64 (((j + 1 : Nat) : Int))) rfl ?_)
            (try simp only [Act.put, List.setIfInBounds_toArray, List.set_cons_zero, List.set_cons_succ])
            refine wl_nil ?_
            (try simp only [Exit.then, Exit.inBlock, ↓reduceIte, Nat.reduceEqDiff])
            have h9 : Ms w w58 [bf p8 (q + 1) (((r + 1 : Nat) : Int)) (d + 1) (L), row 3 1 (.slice o54 (ivs (L)).length k55) ((ivs (L)).length) ((ivs (L)).map encZ), blk (wr.heap.size) (([.int .i64 (k), .int .i64 (i), .string (s)] : List Value)) 32] := (((hM.up 2 rfl).up 1 rfl).up 2 rfl)
            exact ⟨m - 1, by omega, j + 1, _, _, (tl [.int .u8 (a), .int .u8 (c), .slice (some ⟨b, o, none⟩) (n) (cap), undef, undef, undef, .bool false, .int .i64 (((q + 1 : Nat) : Int)), .int .i64 (((r + 1 : Nat) : Int)), .pointer (some ⟨p8, 0, none⟩), .int .i64 (0), .int .i64 (((j + 1 : Nat) : Int)), .pointer (some ⟨wr.heap.size, 0, none⟩), .int .i64 (((L.length : Nat) : Int)), .int .i64 (d), .int .i64 (4), .int .i64 ((((ivs (L)).length : Nat) : Int)), .bool true, .bool false, .int .u8 (a), .int .u8 (((q : Nat) : Int)), .int .i64 (((q : Nat) : Int)), .int .i64 (((q + 1 : Nat) : Int)), .int .u8 (c), .int .u8 (((r : Nat) : Int)), .int .i64 (((r : Nat) : Int)), .int .i64 (((r + 1 : Nat) : Int)), .tuple #[.pointer (some ⟨p8, 0, none⟩), .int .i64 (0)], .int .i64 (((q + 1 : Nat) : Int)), .int .i64 (((r + 1 : Nat) : Int)), .tuple #[.pointer (some ⟨p8, 0, none⟩), .int .i64 (0)], .pointer (some ⟨p8, 0, none⟩), .int .i64 (0), .pointer (some ⟨p8, 0, none⟩), .bool false, .int .i64 (((j : Nat) : Int)), .slice (some ⟨b, o, none⟩) (n) (cap), .int .i64 (((n : Nat) : Int)), .bool true, .bool true, .int .i64 (((j : Nat) : Int)), .bool true, .bool true, .int .i64 (((j : Nat) : Int)), .int .i64 (((j + 1 : Nat) : Int)), .slice (some ⟨b, o, none⟩) (n) (cap), .int .i64 (((j : Nat) : Int)), .pointer (some ⟨b, o + j * 3, none⟩), .agg (([.int .i64 (k), .int .i64 (i), .string (s)] : List Value)).toArray, .agg (([.int .i64 (k), .int .i64 (i), .string (s)] : List Value)).toArray, .bool false, .pointer (some ⟨p8, 0, none⟩), .int .i64 (((L.length : Nat) : Int)), .pointer (some ⟨p8, 0, none⟩), .int .i64 (d), .pointer (some ⟨wr.heap.size, 0, none⟩), .int .i64 (k), .bool true, .bool true, .pointer (some ⟨p8, 0, none⟩), .pointer (some ⟨wr.heap.size, 1, none⟩), .int .i64 (i), .pointer (some ⟨wr.heap.size, 2, none⟩), .string (s), .int .i64 (4), .int .i64 (4), .bool false, .bool false, undef, undef, undef, undef, undef, .bool false, .bool false, .int .i64 (4), .bool true, .bool true, .pointer (some ⟨p8, 0, none⟩), .int .i64 (((L.length : Nat) : Int)), .int .i64 (((L.length : Nat) : Int)), .bool false, .bool false, .bool false, .bool false, .int .i64 (4), .bool true, .pointer (some ⟨p8, 0, none⟩), .int .i64 (d + 1), .int .i64 (d), .int .i64 (d + 1), .bool true, .bool false, .bool false, .bool false, .pointer (some ⟨p8, 0, none⟩), .pointer (some ⟨wr.heap.size, 1, none⟩), .int .i64 (i), .pointer (some ⟨wr.heap.size, 2, none⟩), .string (s), .bool false, .int .i64 (4), .bool false, .bool false, .int .i64 (4), .bool false, .bool false, .bool false, .bool false, t 109, t 110, t 111, t 112, t 113, t 114, t 115, t 116, t 117, t 118, t 119, t 120, t 121, t 122, t 123, t 124, t 125, t 126, t 127, t 128, t 129, t 130, t 131, t 132, t 133, t 134, t 135, t 136, t 137, t 138, t 139, t 140, t 141, t 142, t 143, .pointer (some ⟨p8, 0, none⟩), .slice o54 ((ivs (L)).length) (k55), .int .i64 ((((ivs (L)).length : Nat) : Int)), .int .i64 ((((ivs (L)).length : Nat) : Int)), .int .i64 (((r + 1 : Nat) : Int)), .bool false, .bool false, .pointer (some ⟨p8, 0, none⟩), .int .i64 ((((L).length : Nat) : Int)), .int .i64 ((((ivs (L)).length : Nat) : Int)), .int .i64 (((q + 1 : Nat) : Int)), .int .i64 ((((ivs (L)).length * (q + 1) : Nat) : Int)), .bool false, .bool false, .bool false, .pointer (some ⟨p8, 0, none⟩), .int .i64 ((((L).length : Nat) : Int)), .int .i64 ((((ivs (L)).length : Nat) : Int)), .bool false, .bool false]), rfl, by omega, hI2, ((h9.erase 2).erase 1)⟩
          · skip
            refine wp_seq_k (fun K59 hK59 => ?_)
            refine wl_region ?_
            refine wl_give rfl (g_fa 32 _ (wr.heap.size) (0) (0) 0 rfl (fa32_0 _ _ _) ?_)
            (try simp only [Act.put, List.setIfInBounds_toArray, List.set_cons_zero, List.set_cons_succ])
            refine wl_give rfl (g_ld1 3 _ (wr.heap.size) 0 _ rfl (ld3 _ _ _ _ ((hM.get 0 rfl).cell 0 _ rfl)) ?_)
            (try simp only [Act.put, List.setIfInBounds_toArray, List.set_cons_zero, List.set_cons_succ])
            refine wl_nil ?_
            refine hK59 _ _ ?_
            (try clear hK59 K59)
            refine wp_block ?_
            refine wp_seq_k (fun K60 hK60 => ?_)
            refine wl_region ?_
            refine wl_give rfl (g_ieq 3 _ _ .i64 (k) (0) true rfl rfl (decide_eq_true hk0) ?_)
            (try simp only [Act.put, List.setIfInBounds_toArray, List.set_cons_zero, List.set_cons_succ])
            refine wl_give rfl (g_assign _ (.bool true) rfl ?_)
            (try simp only [Act.put, List.setIfInBounds_toArray, List.set_cons_zero, List.set_cons_succ])
            refine wl_nil ?_
            refine hK60 _ _ ?_
            (try clear hK60 K60)
            refine wp_cond_true rfl ?_
            refine wp_seq_k (fun K61 hK61 => ?_)
            refine wl_region ?_
            refine wl_give rfl (g_move _ (.pointer (some ⟨p8, 0, none⟩)) rfl ?_)
            (try simp only [Act.put, List.setIfInBounds_toArray, List.set_cons_zero, List.set_cons_succ])
            refine wl_give rfl (g_fa 32 _ (wr.heap.size) (0) (1) 1 rfl (fa32_1 _ _ _) ?_)
            (try simp only [Act.put, List.setIfInBounds_toArray, List.set_cons_zero, List.set_cons_succ])
            refine wl_give rfl (g_ld1 3 _ (wr.heap.size) 1 _ rfl (ld3 _ _ _ _ ((hM.get 0 rfl).cell 1 _ rfl)) ?_)
            (try simp only [Act.put, List.setIfInBounds_toArray, List.set_cons_zero, List.set_cons_succ])
            refine wl_give rfl (g_fa 32 _ (wr.heap.size) (0) (2) 2 rfl (fa32_2 _ _ _) ?_)
            (try simp only [Act.put, List.setIfInBounds_toArray, List.set_cons_zero, List.set_cons_succ])
            refine wl_give rfl (g_ld1 9 _ (wr.heap.size) 2 _ rfl (ld9 _ _ _ _ ((hM.get 0 rfl).cell 2 _ rfl)) ?_)
            (try simp only [Act.put, List.setIfInBounds_toArray, List.set_cons_zero, List.set_cons_succ])
            refine wl_give rfl (g_call 14 _ _ [.pointer (some ⟨p8, 0, none⟩), .int .i64 (i), .string (s)] (kf14 _ _) rfl ((put_o (show Ms w w27 [bf p8 (q + 1) (((r + 1 : Nat) : Int)) (d) (L), blk (wr.heap.size) (([.int .i64 (k), .int .i64 (i), .string (s)] : List Value)) 32] from (hM.up 1 rfl)) (by omega) (by omega) hik (by omega) (by omega) ⟨he⟩ (by decide) (by decide)).mono ?_))
            rintro e w62 ⟨rfl, h_⟩
            refine ⟨_, rfl, ?_⟩
            replace hM : Ms w w62 [bf p8 (q + 1) (((r + 1 : Nat) : Int)) (d) (L), blk (wr.heap.size) (([.int .i64 (k), .int .i64 (i), .string (s)] : List Value)) 32] := h_
            clear h_
            (try simp only [Act.put, List.setIfInBounds_toArray, List.set_cons_zero, List.set_cons_succ])
            refine wl_give rfl (g_assign _ (.int .i64 (1)) rfl ?_)
            (try simp only [Act.put, List.setIfInBounds_toArray, List.set_cons_zero, List.set_cons_succ])
            refine wl_nil ?_
            refine hK61 _ _ ?_
            (try clear hK61 K61)
            refine wp_seq_k (fun K63 hK63 => ?_)
            (try simp only [List.append_eq, List.cons_append, List.nil_append])
            refine wl_region ?_
            refine wl_give rfl (g_move _ (.int .i64 (1)) rfl ?_)
            (try simp only [Act.put, List.setIfInBounds_toArray, List.set_cons_zero, List.set_cons_succ])
            refine wl_give rfl (g_ieq 25 _ _ .i64 (1) (0) false rfl rfl (by decide) ?_)
            (try simp only [Act.put, List.setIfInBounds_toArray, List.set_cons_zero, List.set_cons_succ])
            refine wl_give rfl (g_move _ (.bool false) rfl ?_)
            (try simp only [Act.put, List.setIfInBounds_toArray, List.set_cons_zero, List.set_cons_succ])
            refine wl_skip rfl ?_
            (try simp only [Act.put, List.setIfInBounds_toArray, List.set_cons_zero, List.set_cons_succ])
            refine wl_skip rfl ?_
            (try simp only [Act.put, List.setIfInBounds_toArray, List.set_cons_zero, List.set_cons_succ])
            refine wl_skip rfl ?_
            (try simp only [Act.put, List.setIfInBounds_toArray, List.set_cons_zero, List.set_cons_succ])
            refine wl_skip rfl ?_
            (try simp only [Act.put, List.setIfInBounds_toArray, List.set_cons_zero, List.set_cons_succ])
            refine wl_skip rfl ?_
            (try simp only [Act.put, List.setIfInBounds_toArray, List.set_cons_zero, List.set_cons_succ])
            refine wl_give rfl (g_pickf _ _ _ (.bool false) rfl rfl ?_)
            (try simp only [Act.put, List.setIfInBounds_toArray, List.set_cons_zero, List.set_cons_succ])
            refine wl_give rfl (g_move _ (.bool false) rfl ?_)
            (try simp only [Act.put, List.setIfInBounds_toArray, List.set_cons_zero, List.set_cons_succ])
            refine wl_give rfl (g_move _ (.int .i64 (1)) rfl ?_)
            (try simp only [Act.put, List.setIfInBounds_toArray, List.set_cons_zero, List.set_cons_succ])
            refine wl_give rfl (g_ine 25 _ _ .i64 (1) (0) true rfl rfl (by decide) ?_)
            (try simp only [Act.put, List.setIfInBounds_toArray, List.set_cons_zero, List.set_cons_succ])
            refine wl_give rfl (g_move _ (.bool true) rfl ?_)
            (try simp only [Act.put, List.setIfInBounds_toArray, List.set_cons_zero, List.set_cons_succ])
            refine wl_give rfl (g_move _ (.pointer (some ⟨p8, 0, none⟩)) rfl ?_)
            (try simp only [Act.put, List.setIfInBounds_toArray, List.set_cons_zero, List.set_cons_succ])
            refine wl_give rfl (g_call 23 _ _ [.pointer (some ⟨p8, 0, none⟩)] (kf23 _ _) rfl ((keep1 0 rfl (fun R_ h_ => size_v (n := ((L.length : Nat) : Int)) h_ (by omega) (rfl)) hM).mono ?_))
            rintro e w64 ⟨rfl, h_⟩
            refine ⟨_, rfl, ?_⟩
            replace hM : Ms w w64 [bf p8 (q + 1) (((r + 1 : Nat) : Int)) (d) (L), blk (wr.heap.size) (([.int .i64 (k), .int .i64 (i), .string (s)] : List Value)) 32] := h_
            clear h_
            (try simp only [Act.put, List.setIfInBounds_toArray, List.set_cons_zero, List.set_cons_succ])
            refine wl_give rfl (g_move _ (.int .i64 (((L.length : Nat) : Int))) rfl ?_)
            (try simp only [Act.put, List.setIfInBounds_toArray, List.set_cons_zero, List.set_cons_succ])
            refine wl_give rfl (g_ine 3 _ _ .i64 (((L.length : Nat) : Int)) (((L.length : Nat) : Int)) false rfl rfl (decide_eq_false (fun h => h rfl)) ?_)
            (try simp only [Act.put, List.setIfInBounds_toArray, List.set_cons_zero, List.set_cons_succ])
            refine wl_give rfl (g_pickt _ _ _ (.bool false) rfl rfl ?_)
            (try simp only [Act.put, List.setIfInBounds_toArray, List.set_cons_zero, List.set_cons_succ])
            refine wl_give rfl (g_pickf _ _ _ (.bool false) rfl rfl ?_)
            (try simp only [Act.put, List.setIfInBounds_toArray, List.set_cons_zero, List.set_cons_succ])
            refine wl_give rfl (g_move _ (.bool false) rfl ?_)
            (try simp only [Act.put, List.setIfInBounds_toArray, List.set_cons_zero, List.set_cons_succ])
            refine wl_give rfl (g_move _ (.int .i64 (1)) rfl ?_)
            (try simp only [Act.put, List.setIfInBounds_toArray, List.set_cons_zero, List.set_cons_succ])
            refine wl_give rfl (g_ieq 25 _ _ .i64 (1) (4) false rfl rfl (by decide) ?_)
            (try simp only [Act.put, List.setIfInBounds_toArray, List.set_cons_zero, List.set_cons_succ])
            refine wl_give rfl (g_move _ (.pointer (some ⟨p8, 0, none⟩)) rfl ?_)
            (try simp only [Act.put, List.setIfInBounds_toArray, List.set_cons_zero, List.set_cons_succ])
            refine wl_give rfl (g_call 24 _ _ [.pointer (some ⟨p8, 0, none⟩)] (kf24 _ _) rfl ((keep1 0 rfl (fun R_ h_ => dropped_any h_) hM).mono ?_))
            rintro e w65 ⟨rfl, h_⟩
            refine ⟨_, rfl, ?_⟩
            replace hM : Ms w w65 [bf p8 (q + 1) (((r + 1 : Nat) : Int)) (d) (L), blk (wr.heap.size) (([.int .i64 (k), .int .i64 (i), .string (s)] : List Value)) 32] := h_
            clear h_
            (try simp only [Act.put, List.setIfInBounds_toArray, List.set_cons_zero, List.set_cons_succ])
            refine wl_give rfl (g_move _ (.int .i64 (d)) rfl ?_)
            (try simp only [Act.put, List.setIfInBounds_toArray, List.set_cons_zero, List.set_cons_succ])
            refine wl_give rfl (g_ia 3 _ _ .i64 (d) (1) (d + 1) rfl rfl (hd2.out) ?_)
            (try simp only [Act.put, List.setIfInBounds_toArray, List.set_cons_zero, List.set_cons_succ])
            refine wl_give rfl (g_ieq 3 _ _ .i64 (d) (d + 1) false rfl rfl (decide_eq_false (by omega)) ?_)
            (try simp only [Act.put, List.setIfInBounds_toArray, List.set_cons_zero, List.set_cons_succ])
            refine wl_give rfl (g_bne _ _ false false false rfl rfl rfl ?_)
            (try simp only [Act.put, List.setIfInBounds_toArray, List.set_cons_zero, List.set_cons_succ])
            refine wl_give rfl (g_pickf _ _ _ (.bool false) rfl rfl ?_)
            (try simp only [Act.put, List.setIfInBounds_toArray, List.set_cons_zero, List.set_cons_succ])
            refine wl_give rfl (g_move _ (.bool false) rfl ?_)
            (try simp only [Act.put, List.setIfInBounds_toArray, List.set_cons_zero, List.set_cons_succ])
            refine wl_give rfl (g_move _ (.pointer (some ⟨p8, 0, none⟩)) rfl ?_)
            (try simp only [Act.put, List.setIfInBounds_toArray, List.set_cons_zero, List.set_cons_succ])
            refine wl_give rfl (g_fa 32 _ (wr.heap.size) (0) (1) 1 rfl (fa32_1 _ _ _) ?_)
            (try simp only [Act.put, List.setIfInBounds_toArray, List.set_cons_zero, List.set_cons_succ])
            refine wl_give rfl (g_ld1 3 _ (wr.heap.size) 1 _ rfl (ld3 _ _ _ _ ((hM.get 1 rfl).cell 1 _ rfl)) ?_)
            (try simp only [Act.put, List.setIfInBounds_toArray, List.set_cons_zero, List.set_cons_succ])
            refine wl_give rfl (g_fa 32 _ (wr.heap.size) (0) (2) 2 rfl (fa32_2 _ _ _) ?_)
            (try simp only [Act.put, List.setIfInBounds_toArray, List.set_cons_zero, List.set_cons_succ])
            refine wl_give rfl (g_ld1 9 _ (wr.heap.size) 2 _ rfl (ld9 _ _ _ _ ((hM.get 1 rfl).cell 2 _ rfl)) ?_)
            (try simp only [Act.put, List.setIfInBounds_toArray, List.set_cons_zero, List.set_cons_succ])
            refine wl_give rfl (g_call 25 _ _ [.pointer (some ⟨p8, 0, none⟩), .int .i64 (i), .string (s)] (kf25 _ _) rfl ((keep1 0 rfl (fun R_ h_ => has_v (r := false) h_ (by omega) (hasT_low hlow (bpE_1 he))) hM).mono ?_))
            rintro e w66 ⟨rfl, h_⟩
            refine ⟨_, rfl, ?_⟩
            replace hM : Ms w w66 [bf p8 (q + 1) (((r + 1 : Nat) : Int)) (d) (L), blk (wr.heap.size) (([.int .i64 (k), .int .i64 (i), .string (s)] : List Value)) 32] := h_
            clear h_
            (try simp only [Act.put, List.setIfInBounds_toArray, List.set_cons_zero, List.set_cons_succ])
            refine wl_give rfl (g_move _ (.int .i64 (1)) rfl ?_)
            (try simp only [Act.put, List.setIfInBounds_toArray, List.set_cons_zero, List.set_cons_succ])
            refine wl_give rfl (g_ieq 25 _ _ .i64 (1) (0) false rfl rfl (by decide) ?_)
            (try simp only [Act.put, List.setIfInBounds_toArray, List.set_cons_zero, List.set_cons_succ])
            refine wl_give rfl (g_move _ (.bool false) rfl ?_)
            (try simp only [Act.put, List.setIfInBounds_toArray, List.set_cons_zero, List.set_cons_succ])
            refine wl_give rfl (g_move _ (.int .i64 (1)) rfl ?_)
            (try simp only [Act.put, List.setIfInBounds_toArray, List.set_cons_zero, List.set_cons_succ])
            refine wl_give rfl (g_ieq 25 _ _ .i64 (1) (11) false rfl rfl (by decide) ?_)
            (try simp only [Act.put, List.setIfInBounds_toArray, List.set_cons_zero, List.set_cons_succ])
            refine wl_give rfl (g_pickf _ _ _ (.bool false) rfl rfl ?_)
            (try simp only [Act.put, List.setIfInBounds_toArray, List.set_cons_zero, List.set_cons_succ])
            refine wl_give rfl (g_bne _ _ false false false rfl rfl rfl ?_)
            (try simp only [Act.put, List.setIfInBounds_toArray, List.set_cons_zero, List.set_cons_succ])
            refine wl_give rfl (g_pickf _ _ _ (.bool false) rfl rfl ?_)
            (try simp only [Act.put, List.setIfInBounds_toArray, List.set_cons_zero, List.set_cons_succ])
            refine wl_nil ?_
            refine hK63 _ _ ?_
            (try clear hK63 K63)
            refine wp_cond_false rfl ?_
            refine wp_skip ?_
            refine hK28 _ _ ?_
            (try clear hK28 K28)
            have hI2 : Shut (Ro ((r + 1 : Nat) : Int) (L) (d) (j + 1)) := ⟨ro_same hI.out⟩
            have hle2 := hI2.out.le
            have hiv2 := hI2.out.iv
            have hA := ivs_le (L)
            have hB := room_le (L := L) (bfull (hM.up 0 rfl))
            have hmm : (ivs (L)).length * (q + 1) ≤ 64 * 64 := Nat.mul_le_mul (by omega) (by omega)
            have hmul : Shut (IntKind.i64.wrap ((((ivs (L)).length : Nat) : Int) * ((q + 1 : Nat) : Int)) = (((ivs (L)).length * (q + 1) : Nat) : Int)) := ⟨by rw [← Int.natCast_mul, wrap_id _ (by omega) (by omega)]⟩
            refine wp_seq_k (fun K67 hK67 => ?_)
            refine wl_region ?_
            refine wl_give rfl (g_move _ (.pointer (some ⟨p8, 0, none⟩)) rfl ?_)
            (try simp only [Act.put, List.setIfInBounds_toArray, List.set_cons_zero, List.set_cons_succ])
            refine wl_give rfl (g_call 21 _ _ [.pointer (some ⟨p8, 0, none⟩)] (kf21 _ _) rfl ((to_row (ivals_v (l := ivs (L)) hM (by omega) rfl)).mono ?_))
            rintro e w68 ⟨o69, k70, rfl, h_⟩
            refine ⟨_, rfl, ?_⟩
            replace hM : Ms w w68 [row 3 1 (.slice o69 (ivs (L)).length k70) ((ivs (L)).length) ((ivs (L)).map encZ), bf p8 (q + 1) (((r + 1 : Nat) : Int)) (d) (L), blk (wr.heap.size) (([.int .i64 (k), .int .i64 (i), .string (s)] : List Value)) 32] := h_
            clear h_
            (try simp only [Act.put, List.setIfInBounds_toArray, List.set_cons_zero, List.set_cons_succ])
            refine wl_give rfl (g_len _ 39 3 (o69) ((ivs (L)).length) (k70) ((((ivs (L)).length : Nat) : Int)) Try.underlying39 rfl rfl ?_)
            (try simp only [Act.put, List.setIfInBounds_toArray, List.set_cons_zero, List.set_cons_succ])
            refine wl_give rfl (g_assign _ (.int .i64 ((((ivs (L)).length : Nat) : Int))) rfl ?_)
            (try simp only [Act.put, List.setIfInBounds_toArray, List.set_cons_zero, List.set_cons_succ])
            refine wl_nil ?_
            refine hK67 _ _ ?_
            (try clear hK67 K67)
            refine wp_seq_k (fun K71 hK71 => ?_)
            refine wl_region ?_
            refine wl_give rfl (g_move _ (.int .i64 ((((ivs (L)).length : Nat) : Int))) rfl ?_)
            (try simp only [Act.put, List.setIfInBounds_toArray, List.set_cons_zero, List.set_cons_succ])
            refine wl_give rfl (g_move _ (.int .i64 (((r + 1 : Nat) : Int))) rfl ?_)
            (try simp only [Act.put, List.setIfInBounds_toArray, List.set_cons_zero, List.set_cons_succ])
            refine wl_give rfl (g_igtr 3 _ _ .i64 ((((ivs (L)).length : Nat) : Int)) (((r + 1 : Nat) : Int)) false rfl rfl (decide_eq_false (by omega)) ?_)
            (try simp only [Act.put, List.setIfInBounds_toArray, List.set_cons_zero, List.set_cons_succ])
            refine wl_give rfl (g_move _ (.bool false) rfl ?_)
            (try simp only [Act.put, List.setIfInBounds_toArray, List.set_cons_zero, List.set_cons_succ])
            refine wl_give rfl (g_move _ (.pointer (some ⟨p8, 0, none⟩)) rfl ?_)
            (try simp only [Act.put, List.setIfInBounds_toArray, List.set_cons_zero, List.set_cons_succ])
            refine wl_give rfl (g_call 23 _ _ [.pointer (some ⟨p8, 0, none⟩)] (kf23 _ _) rfl ((keep1 1 rfl (fun R_ h_ => size_v (n := (((L).length : Nat) : Int)) h_ (by omega) (rfl)) hM).mono ?_))
            rintro e w72 ⟨rfl, h_⟩
            refine ⟨_, rfl, ?_⟩
            replace hM : Ms w w72 [row 3 1 (.slice o69 (ivs (L)).length k70) ((ivs (L)).length) ((ivs (L)).map encZ), bf p8 (q + 1) (((r + 1 : Nat) : Int)) (d) (L), blk (wr.heap.size) (([.int .i64 (k), .int .i64 (i), .string (s)] : List Value)) 32] := h_
            clear h_
            (try simp only [Act.put, List.setIfInBounds_toArray, List.set_cons_zero, List.set_cons_succ])
            refine wl_give rfl (g_move _ (.int .i64 ((((ivs (L)).length : Nat) : Int))) rfl ?_)
            (try simp only [Act.put, List.setIfInBounds_toArray, List.set_cons_zero, List.set_cons_succ])
            refine wl_give rfl (g_move _ (.int .i64 (((q + 1 : Nat) : Int))) rfl ?_)
            (try simp only [Act.put, List.setIfInBounds_toArray, List.set_cons_zero, List.set_cons_succ])
            refine wl_give rfl (g_imul 3 _ _ .i64 ((((ivs (L)).length : Nat) : Int)) (((q + 1 : Nat) : Int)) ((((ivs (L)).length * (q + 1) : Nat) : Int)) rfl rfl (hmul.out) ?_)
            (try simp only [Act.put, List.setIfInBounds_toArray, List.set_cons_zero, List.set_cons_succ])
            refine wl_give rfl (g_igtr 3 _ _ .i64 ((((L).length : Nat) : Int)) ((((ivs (L)).length * (q + 1) : Nat) : Int)) false rfl rfl (decide_eq_false (by omega)) ?_)
            (try simp only [Act.put, List.setIfInBounds_toArray, List.set_cons_zero, List.set_cons_succ])
            refine wl_give rfl (g_pickf _ _ _ (.bool false) rfl rfl ?_)
            (try simp only [Act.put, List.setIfInBounds_toArray, List.set_cons_zero, List.set_cons_succ])
            refine wl_give rfl (g_move _ (.bool false) rfl ?_)
            (try simp only [Act.put, List.setIfInBounds_toArray, List.set_cons_zero, List.set_cons_succ])
            refine wl_give rfl (g_move _ (.pointer (some ⟨p8, 0, none⟩)) rfl ?_)
            (try simp only [Act.put, List.setIfInBounds_toArray, List.set_cons_zero, List.set_cons_succ])
            refine wl_give rfl (g_call 23 _ _ [.pointer (some ⟨p8, 0, none⟩)] (kf23 _ _) rfl ((keep1 1 rfl (fun R_ h_ => size_v (n := (((L).length : Nat) : Int)) h_ (by omega) (rfl)) hM).mono ?_))
            rintro e w73 ⟨rfl, h_⟩
            refine ⟨_, rfl, ?_⟩
            replace hM : Ms w w73 [row 3 1 (.slice o69 (ivs (L)).length k70) ((ivs (L)).length) ((ivs (L)).map encZ), bf p8 (q + 1) (((r + 1 : Nat) : Int)) (d) (L), blk (wr.heap.size) (([.int .i64 (k), .int .i64 (i), .string (s)] : List Value)) 32] := h_
            clear h_
            (try simp only [Act.put, List.setIfInBounds_toArray, List.set_cons_zero, List.set_cons_succ])
            refine wl_give rfl (g_move _ (.int .i64 ((((ivs (L)).length : Nat) : Int))) rfl ?_)
            (try simp only [Act.put, List.setIfInBounds_toArray, List.set_cons_zero, List.set_cons_succ])
            refine wl_give rfl (g_ilss 3 _ _ .i64 ((((L).length : Nat) : Int)) ((((ivs (L)).length : Nat) : Int)) false rfl rfl (decide_eq_false (by omega)) ?_)
            (try simp only [Act.put, List.setIfInBounds_toArray, List.set_cons_zero, List.set_cons_succ])
            refine wl_give rfl (g_pickf _ _ _ (.bool false) rfl rfl ?_)
            (try simp only [Act.put, List.setIfInBounds_toArray, List.set_cons_zero, List.set_cons_succ])
            refine wl_nil ?_
            refine hK71 _ _ ?_
            (try clear hK71 K71)
            refine wp_cond_false rfl ?_
            refine wp_skip ?_
            refine hK15 _ _ ?_
            (try clear hK15 K15)
            refine wl_region ?_
            refine wl_give rfl (g_move _ (.int .i64 (((j : Nat) : Int))) rfl ?_)
            (try simp only [Act.put, List.setIfInBounds_toArray, List.set_cons_zero, List.set_cons_succ])
            refine wl_give rfl (g_ia 3 _ _ .i64 (((j : Nat) : Int)) (1) (((j + 1 : Nat) : Int)) rfl rfl (hj1.out) ?_)
            (try simp only [Act.put, List.setIfInBounds_toArray, List.set_cons_zero, List.set_cons_succ])
            refine wl_give rfl (g_assign _ (.int .i64 (((j + 1 : Nat) : Int))) rfl ?_)
            (try simp only [Act.put, List.setIfInBounds_toArray, List.set_cons_zero, List.set_cons_succ])
            refine wl_nil ?_
            (try simp only [Exit.then, Exit.inBlock, ↓reduceIte, Nat.reduceEqDiff])
            have h9 : Ms w w73 [bf p8 (q + 1) (((r + 1 : Nat) : Int)) (d) (L), row 3 1 (.slice o69 (ivs (L)).length k70) ((ivs (L)).length) ((ivs (L)).map encZ), blk (wr.heap.size) (([.int .i64 (k), .int .i64 (i), .string (s)] : List Value)) 32] := (((hM.up 2 rfl).up 1 rfl).up 2 rfl)
            exact ⟨m - 1, by omega, j + 1, _, _, (tl [.int .u8 (a), .int .u8 (c), .slice (some ⟨b, o, none⟩) (n) (cap), undef, undef, undef, .bool false, .int .i64 (((q + 1 : Nat) : Int)), .int .i64 (((r + 1 : Nat) : Int)), .pointer (some ⟨p8, 0, none⟩), .int .i64 (0), .int .i64 (((j + 1 : Nat) : Int)), .pointer (some ⟨wr.heap.size, 0, none⟩), .int .i64 (((L.length : Nat) : Int)), .int .i64 (d), .int .i64 (1), .int .i64 ((((ivs (L)).length : Nat) : Int)), .bool true, .bool false, .int .u8 (a), .int .u8 (((q : Nat) : Int)), .int .i64 (((q : Nat) : Int)), .int .i64 (((q + 1 : Nat) : Int)), .int .u8 (c), .int .u8 (((r : Nat) : Int)), .int .i64 (((r : Nat) : Int)), .int .i64 (((r + 1 : Nat) : Int)), .tuple #[.pointer (some ⟨p8, 0, none⟩), .int .i64 (0)], .int .i64 (((q + 1 : Nat) : Int)), .int .i64 (((r + 1 : Nat) : Int)), .tuple #[.pointer (some ⟨p8, 0, none⟩), .int .i64 (0)], .pointer (some ⟨p8, 0, none⟩), .int .i64 (0), .pointer (some ⟨p8, 0, none⟩), .bool false, .int .i64 (((j : Nat) : Int)), .slice (some ⟨b, o, none⟩) (n) (cap), .int .i64 (((n : Nat) : Int)), .bool true, .bool true, .int .i64 (((j : Nat) : Int)), .bool true, .bool true, .int .i64 (((j : Nat) : Int)), .int .i64 (((j + 1 : Nat) : Int)), .slice (some ⟨b, o, none⟩) (n) (cap), .int .i64 (((j : Nat) : Int)), .pointer (some ⟨b, o + j * 3, none⟩), .agg (([.int .i64 (k), .int .i64 (i), .string (s)] : List Value)).toArray, .agg (([.int .i64 (k), .int .i64 (i), .string (s)] : List Value)).toArray, .bool false, .pointer (some ⟨p8, 0, none⟩), .int .i64 (((L.length : Nat) : Int)), .pointer (some ⟨p8, 0, none⟩), .int .i64 (d), .pointer (some ⟨wr.heap.size, 0, none⟩), .int .i64 (k), .bool true, .bool true, .pointer (some ⟨p8, 0, none⟩), .pointer (some ⟨wr.heap.size, 1, none⟩), .int .i64 (i), .pointer (some ⟨wr.heap.size, 2, none⟩), .string (s), .int .i64 (1), .int .i64 (1), .bool false, .bool false, undef, undef, undef, undef, undef, .bool false, .bool false, .int .i64 (1), .bool true, .bool true, .pointer (some ⟨p8, 0, none⟩), .int .i64 (((L.length : Nat) : Int)), .int .i64 (((L.length : Nat) : Int)), .bool false, .bool false, .bool false, .bool false, .int .i64 (1), .bool false, .pointer (some ⟨p8, 0, none⟩), .int .i64 (d), .int .i64 (d), .int .i64 (d + 1), .bool false, .bool false, .bool false, .bool false, .pointer (some ⟨p8, 0, none⟩), .pointer (some ⟨wr.heap.size, 1, none⟩), .int .i64 (i), .pointer (some ⟨wr.heap.size, 2, none⟩), .string (s), .bool false, .int .i64 (1), .bool false, .bool false, .int .i64 (1), .bool false, .bool false, .bool false, .bool false, t 109, t 110, t 111, t 112, t 113, t 114, t 115, t 116, t 117, t 118, t 119, t 120, t 121, t 122, t 123, t 124, t 125, t 126, t 127, t 128, t 129, t 130, t 131, t 132, t 133, t 134, t 135, t 136, t 137, t 138, t 139, t 140, t 141, t 142, t 143, .pointer (some ⟨p8, 0, none⟩), .slice o69 ((ivs (L)).length) (k70), .int .i64 ((((ivs (L)).length : Nat) : Int)), .int .i64 ((((ivs (L)).length : Nat) : Int)), .int .i64 (((r + 1 : Nat) : Int)), .bool false, .bool false, .pointer (some ⟨p8, 0, none⟩), .int .i64 ((((L).length : Nat) : Int)), .int .i64 ((((ivs (L)).length : Nat) : Int)), .int .i64 (((q + 1 : Nat) : Int)), .int .i64 ((((ivs (L)).length * (q + 1) : Nat) : Int)), .bool false, .bool false, .bool false, .pointer (some ⟨p8, 0, none⟩), .int .i64 ((((L).length : Nat) : Int)), .int .i64 ((((ivs (L)).length : Nat) : Int)), .bool false, .bool false]), rfl, by omega, hI2, ((h9.erase 2).erase 1)⟩
          · skip
            refine wp_seq_k (fun K74 hK74 => ?_)
            refine wl_region ?_
            refine wl_give rfl (g_fa 32 _ (wr.heap.size) (0) (0) 0 rfl (fa32_0 _ _ _) ?_)
            (try simp only [Act.put, List.setIfInBounds_toArray, List.set_cons_zero, List.set_cons_succ])
            refine wl_give rfl (g_ld1 3 _ (wr.heap.size) 0 _ rfl (ld3 _ _ _ _ ((hM.get 0 rfl).cell 0 _ rfl)) ?_)
            (try simp only [Act.put, List.setIfInBounds_toArray, List.set_cons_zero, List.set_cons_succ])
            refine wl_nil ?_
            refine hK74 _ _ ?_
            (try clear hK74 K74)
            refine wp_block ?_
            refine wp_seq_k (fun K75 hK75 => ?_)
            refine wl_region ?_
            refine wl_give rfl (g_ieq 3 _ _ .i64 (k) (0) true rfl rfl (decide_eq_true hk0) ?_)
            (try simp only [Act.put, List.setIfInBounds_toArray, List.set_cons_zero, List.set_cons_succ])
            refine wl_give rfl (g_assign _ (.bool true) rfl ?_)
            (try simp only [Act.put, List.setIfInBounds_toArray, List.set_cons_zero, List.set_cons_succ])
            refine wl_nil ?_
            refine hK75 _ _ ?_
            (try clear hK75 K75)
            refine wp_cond_true rfl ?_
            refine wp_seq_k (fun K76 hK76 => ?_)
            refine wl_region ?_
            refine wl_give rfl (g_move _ (.pointer (some ⟨p8, 0, none⟩)) rfl ?_)
            (try simp only [Act.put, List.setIfInBounds_toArray, List.set_cons_zero, List.set_cons_succ])
            refine wl_give rfl (g_fa 32 _ (wr.heap.size) (0) (1) 1 rfl (fa32_1 _ _ _) ?_)
            (try simp only [Act.put, List.setIfInBounds_toArray, List.set_cons_zero, List.set_cons_succ])
            refine wl_give rfl (g_ld1 3 _ (wr.heap.size) 1 _ rfl (ld3 _ _ _ _ ((hM.get 0 rfl).cell 1 _ rfl)) ?_)
            (try simp only [Act.put, List.setIfInBounds_toArray, List.set_cons_zero, List.set_cons_succ])
            refine wl_give rfl (g_fa 32 _ (wr.heap.size) (0) (2) 2 rfl (fa32_2 _ _ _) ?_)
            (try simp only [Act.put, List.setIfInBounds_toArray, List.set_cons_zero, List.set_cons_succ])
            refine wl_give rfl (g_ld1 9 _ (wr.heap.size) 2 _ rfl (ld9 _ _ _ _ ((hM.get 0 rfl).cell 2 _ rfl)) ?_)
            (try simp only [Act.put, List.setIfInBounds_toArray, List.set_cons_zero, List.set_cons_succ])
            refine wl_give rfl (g_call 14 _ _ [.pointer (some ⟨p8, 0, none⟩), .int .i64 (i), .string (s)] (kf14 _ _) rfl ((put_o (show Ms w w27 [bf p8 (q + 1) (((r + 1 : Nat) : Int)) (d) (L), blk (wr.heap.size) (([.int .i64 (k), .int .i64 (i), .string (s)] : List Value)) 32] from (hM.up 1 rfl)) (by omega) (by omega) hik (by omega) (by omega) ⟨he⟩ (by decide) (by decide)).mono ?_))
            rintro e w77 ⟨rfl, h_⟩
            refine ⟨_, rfl, ?_⟩
            replace hM : Ms w w77 [bf p8 (q + 1) (((r + 1 : Nat) : Int)) (d) (L), blk (wr.heap.size) (([.int .i64 (k), .int .i64 (i), .string (s)] : List Value)) 32] := h_
            clear h_
            (try simp only [Act.put, List.setIfInBounds_toArray, List.set_cons_zero, List.set_cons_succ])
            refine wl_give rfl (g_assign _ (.int .i64 (11)) rfl ?_)
            (try simp only [Act.put, List.setIfInBounds_toArray, List.set_cons_zero, List.set_cons_succ])
            refine wl_nil ?_
            refine hK76 _ _ ?_
            (try clear hK76 K76)
            refine wp_seq_k (fun K78 hK78 => ?_)
            (try simp only [List.append_eq, List.cons_append, List.nil_append])
            refine wl_region ?_
            refine wl_give rfl (g_move _ (.int .i64 (11)) rfl ?_)
            (try simp only [Act.put, List.setIfInBounds_toArray, List.set_cons_zero, List.set_cons_succ])
            refine wl_give rfl (g_ieq 25 _ _ .i64 (11) (0) false rfl rfl (by decide) ?_)
            (try simp only [Act.put, List.setIfInBounds_toArray, List.set_cons_zero, List.set_cons_succ])
            refine wl_give rfl (g_move _ (.bool false) rfl ?_)
            (try simp only [Act.put, List.setIfInBounds_toArray, List.set_cons_zero, List.set_cons_succ])
            refine wl_skip rfl ?_
            (try simp only [Act.put, List.setIfInBounds_toArray, List.set_cons_zero, List.set_cons_succ])
            refine wl_skip rfl ?_
            (try simp only [Act.put, List.setIfInBounds_toArray, List.set_cons_zero, List.set_cons_succ])
            refine wl_skip rfl ?_
            (try simp only [Act.put, List.setIfInBounds_toArray, List.set_cons_zero, List.set_cons_succ])
            refine wl_skip rfl ?_
            (try simp only [Act.put, List.setIfInBounds_toArray, List.set_cons_zero, List.set_cons_succ])
            refine wl_skip rfl ?_
            (try simp only [Act.put, List.setIfInBounds_toArray, List.set_cons_zero, List.set_cons_succ])
            refine wl_give rfl (g_pickf _ _ _ (.bool false) rfl rfl ?_)
            (try simp only [Act.put, List.setIfInBounds_toArray, List.set_cons_zero, List.set_cons_succ])
            refine wl_give rfl (g_move _ (.bool false) rfl ?_)
            (try simp only [Act.put, List.setIfInBounds_toArray, List.set_cons_zero, List.set_cons_succ])
            refine wl_give rfl (g_move _ (.int .i64 (11)) rfl ?_)
            (try simp only [Act.put, List.setIfInBounds_toArray, List.set_cons_zero, List.set_cons_succ])
            refine wl_give rfl (g_ine 25 _ _ .i64 (11) (0) true rfl rfl (by decide) ?_)
            (try simp only [Act.put, List.setIfInBounds_toArray, List.set_cons_zero, List.set_cons_succ])
            refine wl_give rfl (g_move _ (.bool true) rfl ?_)
            (try simp only [Act.put, List.setIfInBounds_toArray, List.set_cons_zero, List.set_cons_succ])
            refine wl_give rfl (g_move _ (.pointer (some ⟨p8, 0, none⟩)) rfl ?_)
            (try simp only [Act.put, List.setIfInBounds_toArray, List.set_cons_zero, List.set_cons_succ])
            refine wl_give rfl (g_call 23 _ _ [.pointer (some ⟨p8, 0, none⟩)] (kf23 _ _) rfl ((keep1 0 rfl (fun R_ h_ => size_v (n := ((L.length : Nat) : Int)) h_ (by omega) (rfl)) hM).mono ?_))
            rintro e w79 ⟨rfl, h_⟩
            refine ⟨_, rfl, ?_⟩
            replace hM : Ms w w79 [bf p8 (q + 1) (((r + 1 : Nat) : Int)) (d) (L), blk (wr.heap.size) (([.int .i64 (k), .int .i64 (i), .string (s)] : List Value)) 32] := h_
            clear h_
            (try simp only [Act.put, List.setIfInBounds_toArray, List.set_cons_zero, List.set_cons_succ])
            refine wl_give rfl (g_move _ (.int .i64 (((L.length : Nat) : Int))) rfl ?_)
            (try simp only [Act.put, List.setIfInBounds_toArray, List.set_cons_zero, List.set_cons_succ])
            refine wl_give rfl (g_ine 3 _ _ .i64 (((L.length : Nat) : Int)) (((L.length : Nat) : Int)) false rfl rfl (decide_eq_false (fun h => h rfl)) ?_)
            (try simp only [Act.put, List.setIfInBounds_toArray, List.set_cons_zero, List.set_cons_succ])
            refine wl_give rfl (g_pickt _ _ _ (.bool false) rfl rfl ?_)
            (try simp only [Act.put, List.setIfInBounds_toArray, List.set_cons_zero, List.set_cons_succ])
            refine wl_give rfl (g_pickf _ _ _ (.bool false) rfl rfl ?_)
            (try simp only [Act.put, List.setIfInBounds_toArray, List.set_cons_zero, List.set_cons_succ])
            refine wl_give rfl (g_move _ (.bool false) rfl ?_)
            (try simp only [Act.put, List.setIfInBounds_toArray, List.set_cons_zero, List.set_cons_succ])
            refine wl_give rfl (g_move _ (.int .i64 (11)) rfl ?_)
            (try simp only [Act.put, List.setIfInBounds_toArray, List.set_cons_zero, List.set_cons_succ])
            refine wl_give rfl (g_ieq 25 _ _ .i64 (11) (4) false rfl rfl (by decide) ?_)
            (try simp only [Act.put, List.setIfInBounds_toArray, List.set_cons_zero, List.set_cons_succ])
            refine wl_give rfl (g_move _ (.pointer (some ⟨p8, 0, none⟩)) rfl ?_)
            (try simp only [Act.put, List.setIfInBounds_toArray, List.set_cons_zero, List.set_cons_succ])
            refine wl_give rfl (g_call 24 _ _ [.pointer (some ⟨p8, 0, none⟩)] (kf24 _ _) rfl ((keep1 0 rfl (fun R_ h_ => dropped_any h_) hM).mono ?_))
            rintro e w80 ⟨rfl, h_⟩
            refine ⟨_, rfl, ?_⟩
            replace hM : Ms w w80 [bf p8 (q + 1) (((r + 1 : Nat) : Int)) (d) (L), blk (wr.heap.size) (([.int .i64 (k), .int .i64 (i), .string (s)] : List Value)) 32] := h_
            clear h_
            (try simp only [Act.put, List.setIfInBounds_toArray, List.set_cons_zero, List.set_cons_succ])
            refine wl_give rfl (g_move _ (.int .i64 (d)) rfl ?_)
            (try simp only [Act.put, List.setIfInBounds_toArray, List.set_cons_zero, List.set_cons_succ])
            refine wl_give rfl (g_ia 3 _ _ .i64 (d) (1) (d + 1) rfl rfl (hd2.out) ?_)
            (try simp only [Act.put, List.setIfInBounds_toArray, List.set_cons_zero, List.set_cons_succ])
            refine wl_give rfl (g_ieq 3 _ _ .i64 (d) (d + 1) false rfl rfl (decide_eq_false (by omega)) ?_)
            (try simp only [Act.put, List.setIfInBounds_toArray, List.set_cons_zero, List.set_cons_succ])
            refine wl_give rfl (g_bne _ _ false false false rfl rfl rfl ?_)
            (try simp only [Act.put, List.setIfInBounds_toArray, List.set_cons_zero, List.set_cons_succ])
            refine wl_give rfl (g_pickf _ _ _ (.bool false) rfl rfl ?_)
            (try simp only [Act.put, List.setIfInBounds_toArray, List.set_cons_zero, List.set_cons_succ])
            refine wl_give rfl (g_move _ (.bool false) rfl ?_)
            (try simp only [Act.put, List.setIfInBounds_toArray, List.set_cons_zero, List.set_cons_succ])
            refine wl_give rfl (g_move _ (.pointer (some ⟨p8, 0, none⟩)) rfl ?_)
            (try simp only [Act.put, List.setIfInBounds_toArray, List.set_cons_zero, List.set_cons_succ])
            refine wl_give rfl (g_fa 32 _ (wr.heap.size) (0) (1) 1 rfl (fa32_1 _ _ _) ?_)
            (try simp only [Act.put, List.setIfInBounds_toArray, List.set_cons_zero, List.set_cons_succ])
            refine wl_give rfl (g_ld1 3 _ (wr.heap.size) 1 _ rfl (ld3 _ _ _ _ ((hM.get 1 rfl).cell 1 _ rfl)) ?_)
            (try simp only [Act.put, List.setIfInBounds_toArray, List.set_cons_zero, List.set_cons_succ])
            refine wl_give rfl (g_fa 32 _ (wr.heap.size) (0) (2) 2 rfl (fa32_2 _ _ _) ?_)
            (try simp only [Act.put, List.setIfInBounds_toArray, List.set_cons_zero, List.set_cons_succ])
            refine wl_give rfl (g_ld1 9 _ (wr.heap.size) 2 _ rfl (ld9 _ _ _ _ ((hM.get 1 rfl).cell 2 _ rfl)) ?_)
            (try simp only [Act.put, List.setIfInBounds_toArray, List.set_cons_zero, List.set_cons_succ])
            refine wl_give rfl (g_call 25 _ _ [.pointer (some ⟨p8, 0, none⟩), .int .i64 (i), .string (s)] (kf25 _ _) rfl ((keep1 0 rfl (fun R_ h_ => has_v (r := true) h_ (by omega) (bpE_11 he)) hM).mono ?_))
            rintro e w81 ⟨rfl, h_⟩
            refine ⟨_, rfl, ?_⟩
            replace hM : Ms w w81 [bf p8 (q + 1) (((r + 1 : Nat) : Int)) (d) (L), blk (wr.heap.size) (([.int .i64 (k), .int .i64 (i), .string (s)] : List Value)) 32] := h_
            clear h_
            (try simp only [Act.put, List.setIfInBounds_toArray, List.set_cons_zero, List.set_cons_succ])
            refine wl_give rfl (g_move _ (.int .i64 (11)) rfl ?_)
            (try simp only [Act.put, List.setIfInBounds_toArray, List.set_cons_zero, List.set_cons_succ])
            refine wl_give rfl (g_ieq 25 _ _ .i64 (11) (0) false rfl rfl (by decide) ?_)
            (try simp only [Act.put, List.setIfInBounds_toArray, List.set_cons_zero, List.set_cons_succ])
            refine wl_give rfl (g_move _ (.bool false) rfl ?_)
            (try simp only [Act.put, List.setIfInBounds_toArray, List.set_cons_zero, List.set_cons_succ])
            refine wl_give rfl (g_move _ (.int .i64 (11)) rfl ?_)
            (try simp only [Act.put, List.setIfInBounds_toArray, List.set_cons_zero, List.set_cons_succ])
            refine wl_give rfl (g_ieq 25 _ _ .i64 (11) (11) true rfl rfl (by decide) ?_)
            (try simp only [Act.put, List.setIfInBounds_toArray, List.set_cons_zero, List.set_cons_succ])
            refine wl_give rfl (g_pickf _ _ _ (.bool true) rfl rfl ?_)
            (try simp only [Act.put, List.setIfInBounds_toArray, List.set_cons_zero, List.set_cons_succ])
            refine wl_give rfl (g_bne _ _ true true false rfl rfl rfl ?_)
            (try simp only [Act.put, List.setIfInBounds_toArray, List.set_cons_zero, List.set_cons_succ])
            refine wl_give rfl (g_pickf _ _ _ (.bool false) rfl rfl ?_)
            (try simp only [Act.put, List.setIfInBounds_toArray, List.set_cons_zero, List.set_cons_succ])
            refine wl_nil ?_
            refine hK78 _ _ ?_
            (try clear hK78 K78)
            refine wp_cond_false rfl ?_
            refine wp_skip ?_
            refine hK28 _ _ ?_
            (try clear hK28 K28)
            have hI2 : Shut (Ro ((r + 1 : Nat) : Int) (L) (d) (j + 1)) := ⟨ro_same hI.out⟩
            have hle2 := hI2.out.le
            have hiv2 := hI2.out.iv
            have hA := ivs_le (L)
            have hB := room_le (L := L) (bfull (hM.up 0 rfl))
            have hmm : (ivs (L)).length * (q + 1) ≤ 64 * 64 := Nat.mul_le_mul (by omega) (by omega)
            have hmul : Shut (IntKind.i64.wrap ((((ivs (L)).length : Nat) : Int) * ((q + 1 : Nat) : Int)) = (((ivs (L)).length * (q + 1) : Nat) : Int)) := ⟨by rw [← Int.natCast_mul, wrap_id _ (by omega) (by omega)]⟩
            refine wp_seq_k (fun K82 hK82 => ?_)
            refine wl_region ?_
            refine wl_give rfl (g_move _ (.pointer (some ⟨p8, 0, none⟩)) rfl ?_)
            (try simp only [Act.put, List.setIfInBounds_toArray, List.set_cons_zero, List.set_cons_succ])
            refine wl_give rfl (g_call 21 _ _ [.pointer (some ⟨p8, 0, none⟩)] (kf21 _ _) rfl ((to_row (ivals_v (l := ivs (L)) hM (by omega) rfl)).mono ?_))
            rintro e w83 ⟨o84, k85, rfl, h_⟩
            refine ⟨_, rfl, ?_⟩
            replace hM : Ms w w83 [row 3 1 (.slice o84 (ivs (L)).length k85) ((ivs (L)).length) ((ivs (L)).map encZ), bf p8 (q + 1) (((r + 1 : Nat) : Int)) (d) (L), blk (wr.heap.size) (([.int .i64 (k), .int .i64 (i), .string (s)] : List Value)) 32] := h_
            clear h_
            (try simp only [Act.put, List.setIfInBounds_toArray, List.set_cons_zero, List.set_cons_succ])
            refine wl_give rfl (g_len _ 39 3 (o84) ((ivs (L)).length) (k85) ((((ivs (L)).length : Nat) : Int)) Try.underlying39 rfl rfl ?_)
            (try simp only [Act.put, List.setIfInBounds_toArray, List.set_cons_zero, List.set_cons_succ])
            refine wl_give rfl (g_assign _ (.int .i64 ((((ivs (L)).length : Nat) : Int))) rfl ?_)
            (try simp only [Act.put, List.setIfInBounds_toArray, List.set_cons_zero, List.set_cons_succ])
            refine wl_nil ?_
            refine hK82 _ _ ?_
            (try clear hK82 K82)
            refine wp_seq_k (fun K86 hK86 => ?_)
            refine wl_region ?_
            refine wl_give rfl (g_move _ (.int .i64 ((((ivs (L)).length : Nat) : Int))) rfl ?_)
            (try simp only [Act.put, List.setIfInBounds_toArray, List.set_cons_zero, List.set_cons_succ])
            refine wl_give rfl (g_move _ (.int .i64 (((r + 1 : Nat) : Int))) rfl ?_)
            (try simp only [Act.put, List.setIfInBounds_toArray, List.set_cons_zero, List.set_cons_succ])
            refine wl_give rfl (g_igtr 3 _ _ .i64 ((((ivs (L)).length : Nat) : Int)) (((r + 1 : Nat) : Int)) false rfl rfl (decide_eq_false (by omega)) ?_)
            (try simp only [Act.put, List.setIfInBounds_toArray, List.set_cons_zero, List.set_cons_succ])
            refine wl_give rfl (g_move _ (.bool false) rfl ?_)
            (try simp only [Act.put, List.setIfInBounds_toArray, List.set_cons_zero, List.set_cons_succ])
            refine wl_give rfl (g_move _ (.pointer (some ⟨p8, 0, none⟩)) rfl ?_)
            (try simp only [Act.put, List.setIfInBounds_toArray, List.set_cons_zero, List.set_cons_succ])
            refine wl_give rfl (g_call 23 _ _ [.pointer (some ⟨p8, 0, none⟩)] (kf23 _ _) rfl ((keep1 1 rfl (fun R_ h_ => size_v (n := (((L).length : Nat) : Int)) h_ (by omega) (rfl)) hM).mono ?_))
            rintro e w87 ⟨rfl, h_⟩
            refine ⟨_, rfl, ?_⟩
            replace hM : Ms w w87 [row 3 1 (.slice o84 (ivs (L)).length k85) ((ivs (L)).length) ((ivs (L)).map encZ), bf p8 (q + 1) (((r + 1 : Nat) : Int)) (d) (L), blk (wr.heap.size) (([.int .i64 (k), .int .i64 (i), .string (s)] : List Value)) 32] := h_
            clear h_
            (try simp only [Act.put, List.setIfInBounds_toArray, List.set_cons_zero, List.set_cons_succ])
            refine wl_give rfl (g_move _ (.int .i64 ((((ivs (L)).length : Nat) : Int))) rfl ?_)
            (try simp only [Act.put, List.setIfInBounds_toArray, List.set_cons_zero, List.set_cons_succ])
            refine wl_give rfl (g_move _ (.int .i64 (((q + 1 : Nat) : Int))) rfl ?_)
            (try simp only [Act.put, List.setIfInBounds_toArray, List.set_cons_zero, List.set_cons_succ])
            refine wl_give rfl (g_imul 3 _ _ .i64 ((((ivs (L)).length : Nat) : Int)) (((q + 1 : Nat) : Int)) ((((ivs (L)).length * (q + 1) : Nat) : Int)) rfl rfl (hmul.out) ?_)
            (try simp only [Act.put, List.setIfInBounds_toArray, List.set_cons_zero, List.set_cons_succ])
            refine wl_give rfl (g_igtr 3 _ _ .i64 ((((L).length : Nat) : Int)) ((((ivs (L)).length * (q + 1) : Nat) : Int)) false rfl rfl (decide_eq_false (by omega)) ?_)
            (try simp only [Act.put, List.setIfInBounds_toArray, List.set_cons_zero, List.set_cons_succ])
            refine wl_give rfl (g_pickf _ _ _ (.bool false) rfl rfl ?_)
            (try simp only [Act.put, List.setIfInBounds_toArray, List.set_cons_zero, List.set_cons_succ])
            refine wl_give rfl (g_move _ (.bool false) rfl ?_)
            (try simp only [Act.put, List.setIfInBounds_toArray, List.set_cons_zero, List.set_cons_succ])
            refine wl_give rfl (g_move _ (.pointer (some ⟨p8, 0, none⟩)) rfl ?_)
            (try simp only [Act.put, List.setIfInBounds_toArray, List.set_cons_zero, List.set_cons_succ])
            refine wl_give rfl (g_call 23 _ _ [.pointer (some ⟨p8, 0, none⟩)] (kf23 _ _) rfl ((keep1 1 rfl (fun R_ h_ => size_v (n := (((L).length : Nat) : Int)) h_ (by omega) (rfl)) hM).mono ?_))
            rintro e w88 ⟨rfl, h_⟩
            refine ⟨_, rfl, ?_⟩
            replace hM : Ms w w88 [row 3 1 (.slice o84 (ivs (L)).length k85) ((ivs (L)).length) ((ivs (L)).map encZ), bf p8 (q + 1) (((r + 1 : Nat) : Int)) (d) (L), blk (wr.heap.size) (([.int .i64 (k), .int .i64 (i), .string (s)] : List Value)) 32] := h_
            clear h_
            (try simp only [Act.put, List.setIfInBounds_toArray, List.set_cons_zero, List.set_cons_succ])
            refine wl_give rfl (g_move _ (.int .i64 ((((ivs (L)).length : Nat) : Int))) rfl ?_)
            (try simp only [Act.put, List.setIfInBounds_toArray, List.set_cons_zero, List.set_cons_succ])
            refine wl_give rfl (g_ilss 3 _ _ .i64 ((((L).length : Nat) : Int)) ((((ivs (L)).length : Nat) : Int)) false rfl rfl (decide_eq_false (by omega)) ?_)
            (try simp only [Act.put, List.setIfInBounds_toArray, List.set_cons_zero, List.set_cons_succ])
            refine wl_give rfl (g_pickf _ _ _ (.bool false) rfl rfl ?_)
            (try simp only [Act.put, List.setIfInBounds_toArray, List.set_cons_zero, List.set_cons_succ])
            refine wl_nil ?_
            refine hK86 _ _ ?_
            (try clear hK86 K86)
            refine wp_cond_false rfl ?_
            refine wp_skip ?_
            refine hK15 _ _ ?_
            (try clear hK15 K15)
            refine wl_region ?_
            refine wl_give rfl (g_move _ (.int .i64 (((j : Nat) : Int))) rfl ?_)
            (try simp only [Act.put, List.setIfInBounds_toArray, List.set_cons_zero, List.set_cons_succ])
            refine wl_give rfl (g_ia 3 _ _ .i64 (((j : Nat) : Int)) (1) (((j + 1 : Nat) : Int)) rfl rfl (hj1.out) ?_)
            (try simp only [Act.put, List.setIfInBounds_toArray, List.set_cons_zero, List.set_cons_succ])
            refine wl_give rfl (g_assign _ (.int .i64 (((j + 1 : Nat) : Int))) rfl ?_)
            (try simp only [Act.put, List.setIfInBounds_toArray, List.set_cons_zero, List.set_cons_succ])
            refine wl_nil ?_
            (try simp only [Exit.then, Exit.inBlock, ↓reduceIte, Nat.reduceEqDiff])
            have h9 : Ms w w88 [bf p8 (q + 1) (((r + 1 : Nat) : Int)) (d) (L), row 3 1 (.slice o84 (ivs (L)).length k85) ((ivs (L)).length) ((ivs (L)).map encZ), blk (wr.heap.size) (([.int .i64 (k), .int .i64 (i), .string (s)] : List Value)) 32] := (((hM.up 2 rfl).up 1 rfl).up 2 rfl)
            exact ⟨m - 1, by omega, j + 1, _, _, (tl [.int .u8 (a), .int .u8 (c), .slice (some ⟨b, o, none⟩) (n) (cap), undef, undef, undef, .bool false, .int .i64 (((q + 1 : Nat) : Int)), .int .i64 (((r + 1 : Nat) : Int)), .pointer (some ⟨p8, 0, none⟩), .int .i64 (0), .int .i64 (((j + 1 : Nat) : Int)), .pointer (some ⟨wr.heap.size, 0, none⟩), .int .i64 (((L.length : Nat) : Int)), .int .i64 (d), .int .i64 (11), .int .i64 ((((ivs (L)).length : Nat) : Int)), .bool true, .bool false, .int .u8 (a), .int .u8 (((q : Nat) : Int)), .int .i64 (((q : Nat) : Int)), .int .i64 (((q + 1 : Nat) : Int)), .int .u8 (c), .int .u8 (((r : Nat) : Int)), .int .i64 (((r : Nat) : Int)), .int .i64 (((r + 1 : Nat) : Int)), .tuple #[.pointer (some ⟨p8, 0, none⟩), .int .i64 (0)], .int .i64 (((q + 1 : Nat) : Int)), .int .i64 (((r + 1 : Nat) : Int)), .tuple #[.pointer (some ⟨p8, 0, none⟩), .int .i64 (0)], .pointer (some ⟨p8, 0, none⟩), .int .i64 (0), .pointer (some ⟨p8, 0, none⟩), .bool false, .int .i64 (((j : Nat) : Int)), .slice (some ⟨b, o, none⟩) (n) (cap), .int .i64 (((n : Nat) : Int)), .bool true, .bool true, .int .i64 (((j : Nat) : Int)), .bool true, .bool true, .int .i64 (((j : Nat) : Int)), .int .i64 (((j + 1 : Nat) : Int)), .slice (some ⟨b, o, none⟩) (n) (cap), .int .i64 (((j : Nat) : Int)), .pointer (some ⟨b, o + j * 3, none⟩), .agg (([.int .i64 (k), .int .i64 (i), .string (s)] : List Value)).toArray, .agg (([.int .i64 (k), .int .i64 (i), .string (s)] : List Value)).toArray, .bool false, .pointer (some ⟨p8, 0, none⟩), .int .i64 (((L.length : Nat) : Int)), .pointer (some ⟨p8, 0, none⟩), .int .i64 (d), .pointer (some ⟨wr.heap.size, 0, none⟩), .int .i64 (k), .bool true, .bool true, .pointer (some ⟨p8, 0, none⟩), .pointer (some ⟨wr.heap.size, 1, none⟩), .int .i64 (i), .pointer (some ⟨wr.heap.size, 2, none⟩), .string (s), .int .i64 (11), .int .i64 (11), .bool false, .bool false, undef, undef, undef, undef, undef, .bool false, .bool false, .int .i64 (11), .bool true, .bool true, .pointer (some ⟨p8, 0, none⟩), .int .i64 (((L.length : Nat) : Int)), .int .i64 (((L.length : Nat) : Int)), .bool false, .bool false, .bool false, .bool false, .int .i64 (11), .bool false, .pointer (some ⟨p8, 0, none⟩), .int .i64 (d), .int .i64 (d), .int .i64 (d + 1), .bool false, .bool false, .bool false, .bool false, .pointer (some ⟨p8, 0, none⟩), .pointer (some ⟨wr.heap.size, 1, none⟩), .int .i64 (i), .pointer (some ⟨wr.heap.size, 2, none⟩), .string (s), .bool true, .int .i64 (11), .bool false, .bool false, .int .i64 (11), .bool true, .bool true, .bool false, .bool false, t 109, t 110, t 111, t 112, t 113, t 114, t 115, t 116, t 117, t 118, t 119, t 120, t 121, t 122, t 123, t 124, t 125, t 126, t 127, t 128, t 129, t 130, t 131, t 132, t 133, t 134, t 135, t 136, t 137, t 138, t 139, t 140, t 141, t 142, t 143, .pointer (some ⟨p8, 0, none⟩), .slice o84 ((ivs (L)).length) (k85), .int .i64 ((((ivs (L)).length : Nat) : Int)), .int .i64 ((((ivs (L)).length : Nat) : Int)), .int .i64 (((r + 1 : Nat) : Int)), .bool false, .bool false, .pointer (some ⟨p8, 0, none⟩), .int .i64 ((((L).length : Nat) : Int)), .int .i64 ((((ivs (L)).length : Nat) : Int)), .int .i64 (((q + 1 : Nat) : Int)), .int .i64 ((((ivs (L)).length * (q + 1) : Nat) : Int)), .bool false, .bool false, .bool false, .pointer (some ⟨p8, 0, none⟩), .int .i64 ((((L).length : Nat) : Int)), .int .i64 ((((ivs (L)).length : Nat) : Int)), .bool false, .bool false]), rfl, by omega, hI2, ((h9.erase 2).erase 1)⟩
        by_cases hk1 : k = 1
        · have hlen := notI_length i L
          have hsub : Shut (IntKind.i64.wrap (((L.length : Nat) : Int) - (((ofI i L).length : Nat) : Int)) = (((notI i L).length : Nat) : Int)) := ⟨by rw [wrap_id _ (by omega) (by omega)]; omega⟩
          refine wp_seq_k (fun K89 hK89 => ?_)
          refine wl_region ?_
          refine wl_give rfl (g_fa 32 _ (wr.heap.size) (0) (0) 0 rfl (fa32_0 _ _ _) ?_)
          (try simp only [Act.put, List.setIfInBounds_toArray, List.set_cons_zero, List.set_cons_succ])
          refine wl_give rfl (g_ld1 3 _ (wr.heap.size) 0 _ rfl (ld3 _ _ _ _ ((hM.get 0 rfl).cell 0 _ rfl)) ?_)
          (try simp only [Act.put, List.setIfInBounds_toArray, List.set_cons_zero, List.set_cons_succ])
          refine wl_nil ?_
          refine hK89 _ _ ?_
          (try clear hK89 K89)
          refine wp_block ?_
          refine wp_seq_k (fun K90 hK90 => ?_)
          refine wl_region ?_
          refine wl_give rfl (g_ieq 3 _ _ .i64 (k) (0) false rfl rfl (decide_eq_false hk0) ?_)
          (try simp only [Act.put, List.setIfInBounds_toArray, List.set_cons_zero, List.set_cons_succ])
          refine wl_give rfl (g_assign _ (.bool false) rfl ?_)
          (try simp only [Act.put, List.setIfInBounds_toArray, List.set_cons_zero, List.set_cons_succ])
          refine wl_nil ?_
          refine hK90 _ _ ?_
          (try clear hK90 K90)
          refine wp_cond_false rfl ?_
          refine wp_seq_k (fun K91 hK91 => ?_)
          refine wl_region ?_
          refine wl_give rfl (g_ieq 3 _ _ .i64 (k) (1) true rfl rfl (decide_eq_true hk1) ?_)
          (try simp only [Act.put, List.setIfInBounds_toArray, List.set_cons_zero, List.set_cons_succ])
          refine wl_give rfl (g_assign _ (.bool true) rfl ?_)
          (try simp only [Act.put, List.setIfInBounds_toArray, List.set_cons_zero, List.set_cons_succ])
          refine wl_nil ?_
          refine hK91 _ _ ?_
          (try clear hK91 K91)
          refine wp_cond_true rfl ?_
          refine wp_seq_k (fun K92 hK92 => ?_)
          refine wl_region ?_
          refine wl_give rfl (g_move _ (.int .i64 (((L.length : Nat) : Int))) rfl ?_)
          (try simp only [Act.put, List.setIfInBounds_toArray, List.set_cons_zero, List.set_cons_succ])
          refine wl_give rfl (g_move _ (.pointer (some ⟨p8, 0, none⟩)) rfl ?_)
          (try simp only [Act.put, List.setIfInBounds_toArray, List.set_cons_zero, List.set_cons_succ])
          refine wl_give rfl (g_fa 32 _ (wr.heap.size) (0) (1) 1 rfl (fa32_1 _ _ _) ?_)
          (try simp only [Act.put, List.setIfInBounds_toArray, List.set_cons_zero, List.set_cons_succ])
          refine wl_give rfl (g_ld1 3 _ (wr.heap.size) 1 _ rfl (ld3 _ _ _ _ ((hM.get 0 rfl).cell 1 _ rfl)) ?_)
          (try simp only [Act.put, List.setIfInBounds_toArray, List.set_cons_zero, List.set_cons_succ])
          refine wl_give rfl (g_call 17 _ _ [.pointer (some ⟨p8, 0, none⟩), .int .i64 (i)] (kf17 _ _) rfl ((to_row (take_v (ts := ofI i L) (L' := notI i L) (show Ms w w27 [bf p8 (q + 1) (((r + 1 : Nat) : Int)) (d) (L), blk (wr.heap.size) (([.int .i64 (k), .int .i64 (i), .string (s)] : List Value)) 32] from (hM.up 1 rfl)) (by omega) (rfl) (rfl))).mono ?_))
          rintro e w93 ⟨o94, k95, rfl, h_⟩
          refine ⟨_, rfl, ?_⟩
          replace hM : Ms w w93 [row 9 1 (.slice o94 ((ofI i L).length) k95) ((ofI i L).length) ((ofI i L).map Value.string), bf p8 (q + 1) (((r + 1 : Nat) : Int)) (d) (notI i L), blk (wr.heap.size) (([.int .i64 (k), .int .i64 (i), .string (s)] : List Value)) 32] := h_
          clear h_
          (try simp only [Act.put, List.setIfInBounds_toArray, List.set_cons_zero, List.set_cons_succ])
          refine wl_give rfl (g_len _ 36 9 (o94) ((ofI i L).length) (k95) ((((ofI i L).length : Nat) : Int)) Try.underlying36 rfl rfl ?_)
          (try simp only [Act.put, List.setIfInBounds_toArray, List.set_cons_zero, List.set_cons_succ])
          refine wl_give rfl (g_isub 3 _ _ .i64 (((L.length : Nat) : Int)) ((((ofI i L).length : Nat) : Int)) ((((notI i L).length : Nat) : Int)) rfl rfl hsub.out ?_)
          (try simp only [Act.put, List.setIfInBounds_toArray, List.set_cons_zero, List.set_cons_succ])
          refine wl_give rfl (g_move _ (.pointer (some ⟨p8, 0, none⟩)) rfl ?_)
          (try simp only [Act.put, List.setIfInBounds_toArray, List.set_cons_zero, List.set_cons_succ])
          refine wl_give rfl (g_call 23 _ _ [.pointer (some ⟨p8, 0, none⟩)] (kf23 _ _) rfl ((keep1 1 rfl (fun R_ h_ => size_v (n := (((notI i L).length : Nat) : Int)) h_ (by omega) (rfl)) hM).mono ?_))
          rintro e w96 ⟨rfl, h_⟩
          refine ⟨_, rfl, ?_⟩
          replace hM : Ms w w96 [row 9 1 (.slice o94 ((ofI i L).length) k95) ((ofI i L).length) ((ofI i L).map Value.string), bf p8 (q + 1) (((r + 1 : Nat) : Int)) (d) (notI i L), blk (wr.heap.size) (([.int .i64 (k), .int .i64 (i), .string (s)] : List Value)) 32] := h_
          clear h_
          (try simp only [Act.put, List.setIfInBounds_toArray, List.set_cons_zero, List.set_cons_succ])
          refine wl_give rfl (g_ine 3 _ _ .i64 ((((notI i L).length : Nat) : Int)) ((((notI i L).length : Nat) : Int)) false rfl rfl (decide_eq_false (fun h => h rfl)) ?_)
          (try simp only [Act.put, List.setIfInBounds_toArray, List.set_cons_zero, List.set_cons_succ])
          refine wl_give rfl (g_move _ (.bool false) rfl ?_)
          (try simp only [Act.put, List.setIfInBounds_toArray, List.set_cons_zero, List.set_cons_succ])
          refine wl_give rfl (g_move _ (.pointer (some ⟨p8, 0, none⟩)) rfl ?_)
          (try simp only [Act.put, List.setIfInBounds_toArray, List.set_cons_zero, List.set_cons_succ])
          refine wl_give rfl (g_call 24 _ _ [.pointer (some ⟨p8, 0, none⟩)] (kf24 _ _) rfl ((keep1 1 rfl (fun R_ h_ => dropped_any h_) hM).mono ?_))
          rintro e w97 ⟨rfl, h_⟩
          refine ⟨_, rfl, ?_⟩
          replace hM : Ms w w97 [row 9 1 (.slice o94 ((ofI i L).length) k95) ((ofI i L).length) ((ofI i L).map Value.string), bf p8 (q + 1) (((r + 1 : Nat) : Int)) (d) (notI i L), blk (wr.heap.size) (([.int .i64 (k), .int .i64 (i), .string (s)] : List Value)) 32] := h_
          clear h_
          (try simp only [Act.put, List.setIfInBounds_toArray, List.set_cons_zero, List.set_cons_succ])
          refine wl_give rfl (g_move _ (.int .i64 (d)) rfl ?_)
          (try simp only [Act.put, List.setIfInBounds_toArray, List.set_cons_zero, List.set_cons_succ])
          refine wl_give rfl (g_ine 3 _ _ .i64 (d) (d) false rfl rfl (decide_eq_false (fun h => h rfl)) ?_)
          (try simp only [Act.put, List.setIfInBounds_toArray, List.set_cons_zero, List.set_cons_succ])
          refine wl_give rfl (g_pickf _ _ _ (.bool false) rfl rfl ?_)
          (try simp only [Act.put, List.setIfInBounds_toArray, List.set_cons_zero, List.set_cons_succ])
          refine wl_nil ?_
          refine hK92 _ _ ?_
          (try clear hK92 K92)
          refine wp_cond_false rfl ?_
          refine wp_skip ?_
          refine hK28 _ _ ?_
          (try clear hK28 K28)
          have hI2 : Shut (Ro ((r + 1 : Nat) : Int) (notI i L) (d) (j + 1)) := ⟨ro_take hI.out i⟩
          have hle2 := hI2.out.le
          have hiv2 := hI2.out.iv
          have hA := ivs_le (notI i L)
          have hB := room_le (L := notI i L) (bfull (hM.up 1 rfl))
          have hmm : (ivs (notI i L)).length * (q + 1) ≤ 64 * 64 := Nat.mul_le_mul (by omega) (by omega)
          have hmul : Shut (IntKind.i64.wrap ((((ivs (notI i L)).length : Nat) : Int) * ((q + 1 : Nat) : Int)) = (((ivs (notI i L)).length * (q + 1) : Nat) : Int)) := ⟨by rw [← Int.natCast_mul, wrap_id _ (by omega) (by omega)]⟩
          refine wp_seq_k (fun K98 hK98 => ?_)
          refine wl_region ?_
          refine wl_give rfl (g_move _ (.pointer (some ⟨p8, 0, none⟩)) rfl ?_)
          (try simp only [Act.put, List.setIfInBounds_toArray, List.set_cons_zero, List.set_cons_succ])
          refine wl_give rfl (g_call 21 _ _ [.pointer (some ⟨p8, 0, none⟩)] (kf21 _ _) rfl ((to_row (ivals_v (l := ivs (notI i L)) (show Ms w w97 [bf p8 (q + 1) (((r + 1 : Nat) : Int)) (d) (notI i L), row 9 1 (.slice o94 ((ofI i L).length) k95) ((ofI i L).length) ((ofI i L).map Value.string), blk (wr.heap.size) (([.int .i64 (k), .int .i64 (i), .string (s)] : List Value)) 32] from (hM.up 1 rfl)) (by omega) rfl)).mono ?_))
          rintro e w99 ⟨o100, k101, rfl, h_⟩
          refine ⟨_, rfl, ?_⟩
          replace hM : Ms w w99 [row 3 1 (.slice o100 (ivs (notI i L)).length k101) ((ivs (notI i L)).length) ((ivs (notI i L)).map encZ), bf p8 (q + 1) (((r + 1 : Nat) : Int)) (d) (notI i L), row 9 1 (.slice o94 ((ofI i L).length) k95) ((ofI i L).length) ((ofI i L).map Value.string), blk (wr.heap.size) (([.int .i64 (k), .int .i64 (i), .string (s)] : List Value)) 32] := h_
          clear h_
          (try simp only [Act.put, List.setIfInBounds_toArray, List.set_cons_zero, List.set_cons_succ])
          refine wl_give rfl (g_len _ 39 3 (o100) ((ivs (notI i L)).length) (k101) ((((ivs (notI i L)).length : Nat) : Int)) Try.underlying39 rfl rfl ?_)
          (try simp only [Act.put, List.setIfInBounds_toArray, List.set_cons_zero, List.set_cons_succ])
          refine wl_give rfl (g_assign _ (.int .i64 ((((ivs (notI i L)).length : Nat) : Int))) rfl ?_)
          (try simp only [Act.put, List.setIfInBounds_toArray, List.set_cons_zero, List.set_cons_succ])
          refine wl_nil ?_
          refine hK98 _ _ ?_
          (try clear hK98 K98)
          refine wp_seq_k (fun K102 hK102 => ?_)
          refine wl_region ?_
          refine wl_give rfl (g_move _ (.int .i64 ((((ivs (notI i L)).length : Nat) : Int))) rfl ?_)
          (try simp only [Act.put, List.setIfInBounds_toArray, List.set_cons_zero, List.set_cons_succ])
          refine wl_give rfl (g_move _ (.int .i64 (((r + 1 : Nat) : Int))) rfl ?_)
          (try simp only [Act.put, List.setIfInBounds_toArray, List.set_cons_zero, List.set_cons_succ])
          refine wl_give rfl (g_igtr 3 _ _ .i64 ((((ivs (notI i L)).length : Nat) : Int)) (((r + 1 : Nat) : Int)) false rfl rfl (decide_eq_false (by omega)) ?_)
          (try simp only [Act.put, List.setIfInBounds_toArray, List.set_cons_zero, List.set_cons_succ])
          refine wl_give rfl (g_move _ (.bool false) rfl ?_)
          (try simp only [Act.put, List.setIfInBounds_toArray, List.set_cons_zero, List.set_cons_succ])
          refine wl_give rfl (g_move _ (.pointer (some ⟨p8, 0, none⟩)) rfl ?_)
          (try simp only [Act.put, List.setIfInBounds_toArray, List.set_cons_zero, List.set_cons_succ])
          refine wl_give rfl (g_call 23 _ _ [.pointer (some ⟨p8, 0, none⟩)] (kf23 _ _) rfl ((keep1 1 rfl (fun R_ h_ => size_v (n := (((notI i L).length : Nat) : Int)) h_ (by omega) (rfl)) hM).mono ?_))
          rintro e w103 ⟨rfl, h_⟩
          refine ⟨_, rfl, ?_⟩
          replace hM : Ms w w103 [row 3 1 (.slice o100 (ivs (notI i L)).length k101) ((ivs (notI i L)).length) ((ivs (notI i L)).map encZ), bf p8 (q + 1) (((r + 1 : Nat) : Int)) (d) (notI i L), row 9 1 (.slice o94 ((ofI i L).length) k95) ((ofI i L).length) ((ofI i L).map Value.string), blk (wr.heap.size) (([.int .i64 (k), .int .i64 (i), .string (s)] : List Value)) 32] := h_
          clear h_
          (try simp only [Act.put, List.setIfInBounds_toArray, List.set_cons_zero, List.set_cons_succ])
          refine wl_give rfl (g_move _ (.int .i64 ((((ivs (notI i L)).length : Nat) : Int))) rfl ?_)
          (try simp only [Act.put, List.setIfInBounds_toArray, List.set_cons_zero, List.set_cons_succ])
          refine wl_give rfl (g_move _ (.int .i64 (((q + 1 : Nat) : Int))) rfl ?_)
          (try simp only [Act.put, List.setIfInBounds_toArray, List.set_cons_zero, List.set_cons_succ])
          refine wl_give rfl (g_imul 3 _ _ .i64 ((((ivs (notI i L)).length : Nat) : Int)) (((q + 1 : Nat) : Int)) ((((ivs (notI i L)).length * (q + 1) : Nat) : Int)) rfl rfl (hmul.out) ?_)
          (try simp only [Act.put, List.setIfInBounds_toArray, List.set_cons_zero, List.set_cons_succ])
          refine wl_give rfl (g_igtr 3 _ _ .i64 ((((notI i L).length : Nat) : Int)) ((((ivs (notI i L)).length * (q + 1) : Nat) : Int)) false rfl rfl (decide_eq_false (by omega)) ?_)
          (try simp only [Act.put, List.setIfInBounds_toArray, List.set_cons_zero, List.set_cons_succ])
          refine wl_give rfl (g_pickf _ _ _ (.bool false) rfl rfl ?_)
          (try simp only [Act.put, List.setIfInBounds_toArray, List.set_cons_zero, List.set_cons_succ])
          refine wl_give rfl (g_move _ (.bool false) rfl ?_)
          (try simp only [Act.put, List.setIfInBounds_toArray, List.set_cons_zero, List.set_cons_succ])
          refine wl_give rfl (g_move _ (.pointer (some ⟨p8, 0, none⟩)) rfl ?_)
          (try simp only [Act.put, List.setIfInBounds_toArray, List.set_cons_zero, List.set_cons_succ])
          refine wl_give rfl (g_call 23 _ _ [.pointer (some ⟨p8, 0, none⟩)] (kf23 _ _) rfl ((keep1 1 rfl (fun R_ h_ => size_v (n := (((notI i L).length : Nat) : Int)) h_ (by omega) (rfl)) hM).mono ?_))
          rintro e w104 ⟨rfl, h_⟩
          refine ⟨_, rfl, ?_⟩
          replace hM : Ms w w104 [row 3 1 (.slice o100 (ivs (notI i L)).length k101) ((ivs (notI i L)).length) ((ivs (notI i L)).map encZ), bf p8 (q + 1) (((r + 1 : Nat) : Int)) (d) (notI i L), row 9 1 (.slice o94 ((ofI i L).length) k95) ((ofI i L).length) ((ofI i L).map Value.string), blk (wr.heap.size) (([.int .i64 (k), .int .i64 (i), .string (s)] : List Value)) 32] := h_
          clear h_
          (try simp only [Act.put, List.setIfInBounds_toArray, List.set_cons_zero, List.set_cons_succ])
          refine wl_give rfl (g_move _ (.int .i64 ((((ivs (notI i L)).length : Nat) : Int))) rfl ?_)
          (try simp only [Act.put, List.setIfInBounds_toArray, List.set_cons_zero, List.set_cons_succ])
          refine wl_give rfl (g_ilss 3 _ _ .i64 ((((notI i L).length : Nat) : Int)) ((((ivs (notI i L)).length : Nat) : Int)) false rfl rfl (decide_eq_false (by omega)) ?_)
          (try simp only [Act.put, List.setIfInBounds_toArray, List.set_cons_zero, List.set_cons_succ])
          refine wl_give rfl (g_pickf _ _ _ (.bool false) rfl rfl ?_)
          (try simp only [Act.put, List.setIfInBounds_toArray, List.set_cons_zero, List.set_cons_succ])
          refine wl_nil ?_
          refine hK102 _ _ ?_
          (try clear hK102 K102)
          refine wp_cond_false rfl ?_
          refine wp_skip ?_
          refine hK15 _ _ ?_
          (try clear hK15 K15)
          refine wl_region ?_
          refine wl_give rfl (g_move _ (.int .i64 (((j : Nat) : Int))) rfl ?_)
          (try simp only [Act.put, List.setIfInBounds_toArray, List.set_cons_zero, List.set_cons_succ])
          refine wl_give rfl (g_ia 3 _ _ .i64 (((j : Nat) : Int)) (1) (((j + 1 : Nat) : Int)) rfl rfl (hj1.out) ?_)
          (try simp only [Act.put, List.setIfInBounds_toArray, List.set_cons_zero, List.set_cons_succ])
          refine wl_give rfl (g_assign _ (.int .i64 (((j + 1 : Nat) : Int))) rfl ?_)
          (try simp only [Act.put, List.setIfInBounds_toArray, List.set_cons_zero, List.set_cons_succ])
          refine wl_nil ?_
          (try simp only [Exit.then, Exit.inBlock, ↓reduceIte, Nat.reduceEqDiff])
          have h9 : Ms w w104 [bf p8 (q + 1) (((r + 1 : Nat) : Int)) (d) (notI i L), row 3 1 (.slice o100 (ivs (notI i L)).length k101) ((ivs (notI i L)).length) ((ivs (notI i L)).map encZ), row 9 1 (.slice o94 ((ofI i L).length) k95) ((ofI i L).length) ((ofI i L).map Value.string), blk (wr.heap.size) (([.int .i64 (k), .int .i64 (i), .string (s)] : List Value)) 32] := ((((hM.up 3 rfl).up 3 rfl).up 2 rfl).up 3 rfl)
          exact ⟨m - 1, by omega, j + 1, _, _, (tl [.int .u8 (a), .int .u8 (c), .slice (some ⟨b, o, none⟩) (n) (cap), undef, undef, undef, .bool false, .int .i64 (((q + 1 : Nat) : Int)), .int .i64 (((r + 1 : Nat) : Int)), .pointer (some ⟨p8, 0, none⟩), .int .i64 (0), .int .i64 (((j + 1 : Nat) : Int)), .pointer (some ⟨wr.heap.size, 0, none⟩), .int .i64 (((L.length : Nat) : Int)), .int .i64 (d), t 15, .int .i64 ((((ivs (notI i L)).length : Nat) : Int)), .bool true, .bool false, .int .u8 (a), .int .u8 (((q : Nat) : Int)), .int .i64 (((q : Nat) : Int)), .int .i64 (((q + 1 : Nat) : Int)), .int .u8 (c), .int .u8 (((r : Nat) : Int)), .int .i64 (((r : Nat) : Int)), .int .i64 (((r + 1 : Nat) : Int)), .tuple #[.pointer (some ⟨p8, 0, none⟩), .int .i64 (0)], .int .i64 (((q + 1 : Nat) : Int)), .int .i64 (((r + 1 : Nat) : Int)), .tuple #[.pointer (some ⟨p8, 0, none⟩), .int .i64 (0)], .pointer (some ⟨p8, 0, none⟩), .int .i64 (0), .pointer (some ⟨p8, 0, none⟩), .bool false, .int .i64 (((j : Nat) : Int)), .slice (some ⟨b, o, none⟩) (n) (cap), .int .i64 (((n : Nat) : Int)), .bool true, .bool true, .int .i64 (((j : Nat) : Int)), .bool true, .bool true, .int .i64 (((j : Nat) : Int)), .int .i64 (((j + 1 : Nat) : Int)), .slice (some ⟨b, o, none⟩) (n) (cap), .int .i64 (((j : Nat) : Int)), .pointer (some ⟨b, o + j * 3, none⟩), .agg (([.int .i64 (k), .int .i64 (i), .string (s)] : List Value)).toArray, .agg (([.int .i64 (k), .int .i64 (i), .string (s)] : List Value)).toArray, .bool false, .pointer (some ⟨p8, 0, none⟩), .int .i64 (((L.length : Nat) : Int)), .pointer (some ⟨p8, 0, none⟩), .int .i64 (d), .pointer (some ⟨wr.heap.size, 0, none⟩), .int .i64 (k), .bool false, .bool false, t 59, t 60, t 61, t 62, t 63, t 64, t 65, t 66, t 67, t 68, t 69, t 70, t 71, t 72, t 73, t 74, t 75, t 76, t 77, t 78, t 79, t 80, t 81, t 82, t 83, t 84, t 85, t 86, t 87, t 88, t 89, t 90, t 91, t 92, t 93, t 94, t 95, t 96, t 97, t 98, t 99, t 100, t 101, t 102, t 103, t 104, t 105, t 106, t 107, t 108, .bool true, .bool true, .int .i64 (((L.length : Nat) : Int)), .pointer (some ⟨p8, 0, none⟩), .pointer (some ⟨wr.heap.size, 1, none⟩), .int .i64 (i), .slice o94 ((ofI i L).length) (k95), .int .i64 ((((ofI i L).length : Nat) : Int)), .int .i64 ((((notI i L).length : Nat) : Int)), .pointer (some ⟨p8, 0, none⟩), .int .i64 ((((notI i L).length : Nat) : Int)), .bool false, .bool false, .pointer (some ⟨p8, 0, none⟩), .int .i64 (d), .int .i64 (d), .bool false, .bool false, t 127, t 128, t 129, t 130, t 131, t 132, t 133, t 134, t 135, t 136, t 137, t 138, t 139, t 140, t 141, t 142, t 143, .pointer (some ⟨p8, 0, none⟩), .slice o100 ((ivs (notI i L)).length) (k101), .int .i64 ((((ivs (notI i L)).length : Nat) : Int)), .int .i64 ((((ivs (notI i L)).length : Nat) : Int)), .int .i64 (((r + 1 : Nat) : Int)), .bool false, .bool false, .pointer (some ⟨p8, 0, none⟩), .int .i64 ((((notI i L).length : Nat) : Int)), .int .i64 ((((ivs (notI i L)).length : Nat) : Int)), .int .i64 (((q + 1 : Nat) : Int)), .int .i64 ((((ivs (notI i L)).length * (q + 1) : Nat) : Int)), .bool false, .bool false, .bool false, .pointer (some ⟨p8, 0, none⟩), .int .i64 ((((notI i L).length : Nat) : Int)), .int .i64 ((((ivs (notI i L)).length : Nat) : Int)), .bool false, .bool false]), rfl, by omega, hI2, (((h9.erase 3).erase 2).erase 1)⟩
        by_cases hk2 : k = 2
        · have hlen := bdN_len i L
          have hsub : Shut (IntKind.i64.wrap (((L.length : Nat) : Int) - ((bdN i L : Nat) : Int)) = (((notB i L).length : Nat) : Int)) := ⟨by rw [wrap_id _ (by omega) (by omega)]; omega⟩
          refine wp_seq_k (fun K105 hK105 => ?_)
          refine wl_region ?_
          refine wl_give rfl (g_fa 32 _ (wr.heap.size) (0) (0) 0 rfl (fa32_0 _ _ _) ?_)
          (try simp only [Act.put, List.setIfInBounds_toArray, List.set_cons_zero, List.set_cons_succ])
          refine wl_give rfl (g_ld1 3 _ (wr.heap.size) 0 _ rfl (ld3 _ _ _ _ ((hM.get 0 rfl).cell 0 _ rfl)) ?_)
          (try simp only [Act.put, List.setIfInBounds_toArray, List.set_cons_zero, List.set_cons_succ])
          refine wl_nil ?_
          refine hK105 _ _ ?_
          (try clear hK105 K105)
          refine wp_block ?_
          refine wp_seq_k (fun K106 hK106 => ?_)
          refine wl_region ?_
          refine wl_give rfl (g_ieq 3 _ _ .i64 (k) (0) false rfl rfl (decide_eq_false hk0) ?_)
          (try simp only [Act.put, List.setIfInBounds_toArray, List.set_cons_zero, List.set_cons_succ])
          refine wl_give rfl (g_assign _ (.bool false) rfl ?_)
          (try simp only [Act.put, List.setIfInBounds_toArray, List.set_cons_zero, List.set_cons_succ])
          refine wl_nil ?_
          refine hK106 _ _ ?_
          (try clear hK106 K106)
          refine wp_cond_false rfl ?_
          refine wp_seq_k (fun K107 hK107 => ?_)
          refine wl_region ?_
          refine wl_give rfl (g_ieq 3 _ _ .i64 (k) (1) false rfl rfl (decide_eq_false hk1) ?_)
          (try simp only [Act.put, List.setIfInBounds_toArray, List.set_cons_zero, List.set_cons_succ])
          refine wl_give rfl (g_assign _ (.bool false) rfl ?_)
          (try simp only [Act.put, List.setIfInBounds_toArray, List.set_cons_zero, List.set_cons_succ])
          refine wl_nil ?_
          refine hK107 _ _ ?_
          (try clear hK107 K107)
          refine wp_cond_false rfl ?_
          refine wp_seq_k (fun K108 hK108 => ?_)
          refine wl_region ?_
          refine wl_give rfl (g_ieq 3 _ _ .i64 (k) (2) true rfl rfl (decide_eq_true hk2) ?_)
          (try simp only [Act.put, List.setIfInBounds_toArray, List.set_cons_zero, List.set_cons_succ])
          refine wl_give rfl (g_assign _ (.bool true) rfl ?_)
          (try simp only [Act.put, List.setIfInBounds_toArray, List.set_cons_zero, List.set_cons_succ])
          refine wl_nil ?_
          refine hK108 _ _ ?_
          (try clear hK108 K108)
          refine wp_cond_true rfl ?_
          refine wp_seq_k (fun K109 hK109 => ?_)
          refine wl_region ?_
          refine wl_give rfl (g_move _ (.int .i64 (((L.length : Nat) : Int))) rfl ?_)
          (try simp only [Act.put, List.setIfInBounds_toArray, List.set_cons_zero, List.set_cons_succ])
          refine wl_give rfl (g_move _ (.pointer (some ⟨p8, 0, none⟩)) rfl ?_)
          (try simp only [Act.put, List.setIfInBounds_toArray, List.set_cons_zero, List.set_cons_succ])
          refine wl_give rfl (g_fa 32 _ (wr.heap.size) (0) (1) 1 rfl (fa32_1 _ _ _) ?_)
          (try simp only [Act.put, List.setIfInBounds_toArray, List.set_cons_zero, List.set_cons_succ])
          refine wl_give rfl (g_ld1 3 _ (wr.heap.size) 1 _ rfl (ld3 _ _ _ _ ((hM.get 0 rfl).cell 1 _ rfl)) ?_)
          (try simp only [Act.put, List.setIfInBounds_toArray, List.set_cons_zero, List.set_cons_succ])
          refine wl_give rfl (g_call 19 _ _ [.pointer (some ⟨p8, 0, none⟩), .int .i64 (i)] (kf19 _ _) rfl ((drop_v (n := ((bdN i L : Nat) : Int)) (L' := notB i L) (show Ms w w27 [bf p8 (q + 1) (((r + 1 : Nat) : Int)) (d) (L), blk (wr.heap.size) (([.int .i64 (k), .int .i64 (i), .string (s)] : List Value)) 32] from (hM.up 1 rfl)) (by omega) (rfl) (rfl)).mono ?_))
          rintro e w110 ⟨rfl, h_⟩
          refine ⟨_, rfl, ?_⟩
          replace hM : Ms w w110 [bf p8 (q + 1) (((r + 1 : Nat) : Int)) (d) (notB i L), blk (wr.heap.size) (([.int .i64 (k), .int .i64 (i), .string (s)] : List Value)) 32] := h_
          clear h_
          (try simp only [Act.put, List.setIfInBounds_toArray, List.set_cons_zero, List.set_cons_succ])
          refine wl_give rfl (g_isub 3 _ _ .i64 (((L.length : Nat) : Int)) (((bdN i L : Nat) : Int)) ((((notB i L).length : Nat) : Int)) rfl rfl hsub.out ?_)
          (try simp only [Act.put, List.setIfInBounds_toArray, List.set_cons_zero, List.set_cons_succ])
          refine wl_give rfl (g_move _ (.pointer (some ⟨p8, 0, none⟩)) rfl ?_)
          (try simp only [Act.put, List.setIfInBounds_toArray, List.set_cons_zero, List.set_cons_succ])
          refine wl_give rfl (g_call 23 _ _ [.pointer (some ⟨p8, 0, none⟩)] (kf23 _ _) rfl ((keep1 0 rfl (fun R_ h_ => size_v (n := (((notB i L).length : Nat) : Int)) h_ (by omega) (rfl)) hM).mono ?_))
          rintro e w111 ⟨rfl, h_⟩
          refine ⟨_, rfl, ?_⟩
          replace hM : Ms w w111 [bf p8 (q + 1) (((r + 1 : Nat) : Int)) (d) (notB i L), blk (wr.heap.size) (([.int .i64 (k), .int .i64 (i), .string (s)] : List Value)) 32] := h_
          clear h_
          (try simp only [Act.put, List.setIfInBounds_toArray, List.set_cons_zero, List.set_cons_succ])
          refine wl_give rfl (g_ine 3 _ _ .i64 ((((notB i L).length : Nat) : Int)) ((((notB i L).length : Nat) : Int)) false rfl rfl (decide_eq_false (fun h => h rfl)) ?_)
          (try simp only [Act.put, List.setIfInBounds_toArray, List.set_cons_zero, List.set_cons_succ])
          refine wl_give rfl (g_move _ (.bool false) rfl ?_)
          (try simp only [Act.put, List.setIfInBounds_toArray, List.set_cons_zero, List.set_cons_succ])
          refine wl_give rfl (g_move _ (.pointer (some ⟨p8, 0, none⟩)) rfl ?_)
          (try simp only [Act.put, List.setIfInBounds_toArray, List.set_cons_zero, List.set_cons_succ])
          refine wl_give rfl (g_call 24 _ _ [.pointer (some ⟨p8, 0, none⟩)] (kf24 _ _) rfl ((keep1 0 rfl (fun R_ h_ => dropped_any h_) hM).mono ?_))
          rintro e w112 ⟨rfl, h_⟩
          refine ⟨_, rfl, ?_⟩
          replace hM : Ms w w112 [bf p8 (q + 1) (((r + 1 : Nat) : Int)) (d) (notB i L), blk (wr.heap.size) (([.int .i64 (k), .int .i64 (i), .string (s)] : List Value)) 32] := h_
          clear h_
          (try simp only [Act.put, List.setIfInBounds_toArray, List.set_cons_zero, List.set_cons_succ])
          refine wl_give rfl (g_move _ (.int .i64 (d)) rfl ?_)
          (try simp only [Act.put, List.setIfInBounds_toArray, List.set_cons_zero, List.set_cons_succ])
          refine wl_give rfl (g_ine 3 _ _ .i64 (d) (d) false rfl rfl (decide_eq_false (fun h => h rfl)) ?_)
          (try simp only [Act.put, List.setIfInBounds_toArray, List.set_cons_zero, List.set_cons_succ])
          refine wl_give rfl (g_pickf _ _ _ (.bool false) rfl rfl ?_)
          (try simp only [Act.put, List.setIfInBounds_toArray, List.set_cons_zero, List.set_cons_succ])
          refine wl_nil ?_
          refine hK109 _ _ ?_
          (try clear hK109 K109)
          refine wp_cond_false rfl ?_
          refine wp_skip ?_
          refine hK28 _ _ ?_
          (try clear hK28 K28)
          have hI2 : Shut (Ro ((r + 1 : Nat) : Int) (notB i L) (d) (j + 1)) := ⟨ro_drop hI.out i⟩
          have hle2 := hI2.out.le
          have hiv2 := hI2.out.iv
          have hA := ivs_le (notB i L)
          have hB := room_le (L := notB i L) (bfull (hM.up 0 rfl))
          have hmm : (ivs (notB i L)).length * (q + 1) ≤ 64 * 64 := Nat.mul_le_mul (by omega) (by omega)
          have hmul : Shut (IntKind.i64.wrap ((((ivs (notB i L)).length : Nat) : Int) * ((q + 1 : Nat) : Int)) = (((ivs (notB i L)).length * (q + 1) : Nat) : Int)) := ⟨by rw [← Int.natCast_mul, wrap_id _ (by omega) (by omega)]⟩
          refine wp_seq_k (fun K113 hK113 => ?_)
          refine wl_region ?_
          refine wl_give rfl (g_move _ (.pointer (some ⟨p8, 0, none⟩)) rfl ?_)
          (try simp only [Act.put, List.setIfInBounds_toArray, List.set_cons_zero, List.set_cons_succ])
          refine wl_give rfl (g_call 21 _ _ [.pointer (some ⟨p8, 0, none⟩)] (kf21 _ _) rfl ((to_row (ivals_v (l := ivs (notB i L)) hM (by omega) rfl)).mono ?_))
          rintro e w114 ⟨o115, k116, rfl, h_⟩
          refine ⟨_, rfl, ?_⟩
          replace hM : Ms w w114 [row 3 1 (.slice o115 (ivs (notB i L)).length k116) ((ivs (notB i L)).length) ((ivs (notB i L)).map encZ), bf p8 (q + 1) (((r + 1 : Nat) : Int)) (d) (notB i L), blk (wr.heap.size) (([.int .i64 (k), .int .i64 (i), .string (s)] : List Value)) 32] := h_
          clear h_
          (try simp only [Act.put, List.setIfInBounds_toArray, List.set_cons_zero, List.set_cons_succ])
          refine wl_give rfl (g_len _ 39 3 (o115) ((ivs (notB i L)).length) (k116) ((((ivs (notB i L)).length : Nat) : Int)) Try.underlying39 rfl rfl ?_)
          (try simp only [Act.put, List.setIfInBounds_toArray, List.set_cons_zero, List.set_cons_succ])
          refine wl_give rfl (g_assign _ (.int .i64 ((((ivs (notB i L)).length : Nat) : Int))) rfl ?_)
          (try simp only [Act.put, List.setIfInBounds_toArray, List.set_cons_zero, List.set_cons_succ])
          refine wl_nil ?_
          refine hK113 _ _ ?_
          (try clear hK113 K113)
          refine wp_seq_k (fun K117 hK117 => ?_)
          refine wl_region ?_
          refine wl_give rfl (g_move _ (.int .i64 ((((ivs (notB i L)).length : Nat) : Int))) rfl ?_)
          (try simp only [Act.put, List.setIfInBounds_toArray, List.set_cons_zero, List.set_cons_succ])
          refine wl_give rfl (g_move _ (.int .i64 (((r + 1 : Nat) : Int))) rfl ?_)
          (try simp only [Act.put, List.setIfInBounds_toArray, List.set_cons_zero, List.set_cons_succ])
          refine wl_give rfl (g_igtr 3 _ _ .i64 ((((ivs (notB i L)).length : Nat) : Int)) (((r + 1 : Nat) : Int)) false rfl rfl (decide_eq_false (by omega)) ?_)
          (try simp only [Act.put, List.setIfInBounds_toArray, List.set_cons_zero, List.set_cons_succ])
          refine wl_give rfl (g_move _ (.bool false) rfl ?_)
          (try simp only [Act.put, List.setIfInBounds_toArray, List.set_cons_zero, List.set_cons_succ])
          refine wl_give rfl (g_move _ (.pointer (some ⟨p8, 0, none⟩)) rfl ?_)
          (try simp only [Act.put, List.setIfInBounds_toArray, List.set_cons_zero, List.set_cons_succ])
          refine wl_give rfl (g_call 23 _ _ [.pointer (some ⟨p8, 0, none⟩)] (kf23 _ _) rfl ((keep1 1 rfl (fun R_ h_ => size_v (n := (((notB i L).length : Nat) : Int)) h_ (by omega) (rfl)) hM).mono ?_))
          rintro e w118 ⟨rfl, h_⟩
          refine ⟨_, rfl, ?_⟩
          replace hM : Ms w w118 [row 3 1 (.slice o115 (ivs (notB i L)).length k116) ((ivs (notB i L)).length) ((ivs (notB i L)).map encZ), bf p8 (q + 1) (((r + 1 : Nat) : Int)) (d) (notB i L), blk (wr.heap.size) (([.int .i64 (k), .int .i64 (i), .string (s)] : List Value)) 32] := h_
          clear h_
          (try simp only [Act.put, List.setIfInBounds_toArray, List.set_cons_zero, List.set_cons_succ])
          refine wl_give rfl (g_move _ (.int .i64 ((((ivs (notB i L)).length : Nat) : Int))) rfl ?_)
          (try simp only [Act.put, List.setIfInBounds_toArray, List.set_cons_zero, List.set_cons_succ])
          refine wl_give rfl (g_move _ (.int .i64 (((q + 1 : Nat) : Int))) rfl ?_)
          (try simp only [Act.put, List.setIfInBounds_toArray, List.set_cons_zero, List.set_cons_succ])
          refine wl_give rfl (g_imul 3 _ _ .i64 ((((ivs (notB i L)).length : Nat) : Int)) (((q + 1 : Nat) : Int)) ((((ivs (notB i L)).length * (q + 1) : Nat) : Int)) rfl rfl (hmul.out) ?_)
          (try simp only [Act.put, List.setIfInBounds_toArray, List.set_cons_zero, List.set_cons_succ])
          refine wl_give rfl (g_igtr 3 _ _ .i64 ((((notB i L).length : Nat) : Int)) ((((ivs (notB i L)).length * (q + 1) : Nat) : Int)) false rfl rfl (decide_eq_false (by omega)) ?_)
          (try simp only [Act.put, List.setIfInBounds_toArray, List.set_cons_zero, List.set_cons_succ])
          refine wl_give rfl (g_pickf _ _ _ (.bool false) rfl rfl ?_)
          (try simp only [Act.put, List.setIfInBounds_toArray, List.set_cons_zero, List.set_cons_succ])
          refine wl_give rfl (g_move _ (.bool false) rfl ?_)
          (try simp only [Act.put, List.setIfInBounds_toArray, List.set_cons_zero, List.set_cons_succ])
          refine wl_give rfl (g_move _ (.pointer (some ⟨p8, 0, none⟩)) rfl ?_)
          (try simp only [Act.put, List.setIfInBounds_toArray, List.set_cons_zero, List.set_cons_succ])
          refine wl_give rfl (g_call 23 _ _ [.pointer (some ⟨p8, 0, none⟩)] (kf23 _ _) rfl ((keep1 1 rfl (fun R_ h_ => size_v (n := (((notB i L).length : Nat) : Int)) h_ (by omega) (rfl)) hM).mono ?_))
          rintro e w119 ⟨rfl, h_⟩
          refine ⟨_, rfl, ?_⟩
          replace hM : Ms w w119 [row 3 1 (.slice o115 (ivs (notB i L)).length k116) ((ivs (notB i L)).length) ((ivs (notB i L)).map encZ), bf p8 (q + 1) (((r + 1 : Nat) : Int)) (d) (notB i L), blk (wr.heap.size) (([.int .i64 (k), .int .i64 (i), .string (s)] : List Value)) 32] := h_
          clear h_
          (try simp only [Act.put, List.setIfInBounds_toArray, List.set_cons_zero, List.set_cons_succ])
          refine wl_give rfl (g_move _ (.int .i64 ((((ivs (notB i L)).length : Nat) : Int))) rfl ?_)
          (try simp only [Act.put, List.setIfInBounds_toArray, List.set_cons_zero, List.set_cons_succ])
          refine wl_give rfl (g_ilss 3 _ _ .i64 ((((notB i L).length : Nat) : Int)) ((((ivs (notB i L)).length : Nat) : Int)) false rfl rfl (decide_eq_false (by omega)) ?_)
          (try simp only [Act.put, List.setIfInBounds_toArray, List.set_cons_zero, List.set_cons_succ])
          refine wl_give rfl (g_pickf _ _ _ (.bool false) rfl rfl ?_)
          (try simp only [Act.put, List.setIfInBounds_toArray, List.set_cons_zero, List.set_cons_succ])
          refine wl_nil ?_
          refine hK117 _ _ ?_
          (try clear hK117 K117)
          refine wp_cond_false rfl ?_
          refine wp_skip ?_
          refine hK15 _ _ ?_
          (try clear hK15 K15)
          refine wl_region ?_
          refine wl_give rfl (g_move _ (.int .i64 (((j : Nat) : Int))) rfl ?_)
          (try simp only [Act.put, List.setIfInBounds_toArray, List.set_cons_zero, List.set_cons_succ])
          refine wl_give rfl (g_ia 3 _ _ .i64 (((j : Nat) : Int)) (1) (((j + 1 : Nat) : Int)) rfl rfl (hj1.out) ?_)
          (try simp only [Act.put, List.setIfInBounds_toArray, List.set_cons_zero, List.set_cons_succ])
          refine wl_give rfl (g_assign _ (.int .i64 (((j + 1 : Nat) : Int))) rfl ?_)
          (try simp only [Act.put, List.setIfInBounds_toArray, List.set_cons_zero, List.set_cons_succ])
          refine wl_nil ?_
          (try simp only [Exit.then, Exit.inBlock, ↓reduceIte, Nat.reduceEqDiff])
          have h9 : Ms w w119 [bf p8 (q + 1) (((r + 1 : Nat) : Int)) (d) (notB i L), row 3 1 (.slice o115 (ivs (notB i L)).length k116) ((ivs (notB i L)).length) ((ivs (notB i L)).map encZ), blk (wr.heap.size) (([.int .i64 (k), .int .i64 (i), .string (s)] : List Value)) 32] := (((hM.up 2 rfl).up 1 rfl).up 2 rfl)
          exact ⟨m - 1, by omega, j + 1, _, _, (tl [.int .u8 (a), .int .u8 (c), .slice (some ⟨b, o, none⟩) (n) (cap), undef, undef, undef, .bool false, .int .i64 (((q + 1 : Nat) : Int)), .int .i64 (((r + 1 : Nat) : Int)), .pointer (some ⟨p8, 0, none⟩), .int .i64 (0), .int .i64 (((j + 1 : Nat) : Int)), .pointer (some ⟨wr.heap.size, 0, none⟩), .int .i64 (((L.length : Nat) : Int)), .int .i64 (d), t 15, .int .i64 ((((ivs (notB i L)).length : Nat) : Int)), .bool true, .bool false, .int .u8 (a), .int .u8 (((q : Nat) : Int)), .int .i64 (((q : Nat) : Int)), .int .i64 (((q + 1 : Nat) : Int)), .int .u8 (c), .int .u8 (((r : Nat) : Int)), .int .i64 (((r : Nat) : Int)), .int .i64 (((r + 1 : Nat) : Int)), .tuple #[.pointer (some ⟨p8, 0, none⟩), .int .i64 (0)], .int .i64 (((q + 1 : Nat) : Int)), .int .i64 (((r + 1 : Nat) : Int)), .tuple #[.pointer (some ⟨p8, 0, none⟩), .int .i64 (0)], .pointer (some ⟨p8, 0, none⟩), .int .i64 (0), .pointer (some ⟨p8, 0, none⟩), .bool false, .int .i64 (((j : Nat) : Int)), .slice (some ⟨b, o, none⟩) (n) (cap), .int .i64 (((n : Nat) : Int)), .bool true, .bool true, .int .i64 (((j : Nat) : Int)), .bool true, .bool true, .int .i64 (((j : Nat) : Int)), .int .i64 (((j + 1 : Nat) : Int)), .slice (some ⟨b, o, none⟩) (n) (cap), .int .i64 (((j : Nat) : Int)), .pointer (some ⟨b, o + j * 3, none⟩), .agg (([.int .i64 (k), .int .i64 (i), .string (s)] : List Value)).toArray, .agg (([.int .i64 (k), .int .i64 (i), .string (s)] : List Value)).toArray, .bool false, .pointer (some ⟨p8, 0, none⟩), .int .i64 (((L.length : Nat) : Int)), .pointer (some ⟨p8, 0, none⟩), .int .i64 (d), .pointer (some ⟨wr.heap.size, 0, none⟩), .int .i64 (k), .bool false, .bool false, t 59, t 60, t 61, t 62, t 63, t 64, t 65, t 66, t 67, t 68, t 69, t 70, t 71, t 72, t 73, t 74, t 75, t 76, t 77, t 78, t 79, t 80, t 81, t 82, t 83, t 84, t 85, t 86, t 87, t 88, t 89, t 90, t 91, t 92, t 93, t 94, t 95, t 96, t 97, t 98, t 99, t 100, t 101, t 102, t 103, t 104, t 105, t 106, t 107, t 108, .bool false, .bool false, t 111, t 112, t 113, t 114, t 115, t 116, t 117, t 118, t 119, t 120, t 121, t 122, t 123, t 124, t 125, t 126, .bool true, .bool true, .int .i64 (((L.length : Nat) : Int)), .pointer (some ⟨p8, 0, none⟩), .pointer (some ⟨wr.heap.size, 1, none⟩), .int .i64 (i), .int .i64 (((bdN i L : Nat) : Int)), .int .i64 ((((notB i L).length : Nat) : Int)), .pointer (some ⟨p8, 0, none⟩), .int .i64 ((((notB i L).length : Nat) : Int)), .bool false, .bool false, .pointer (some ⟨p8, 0, none⟩), .int .i64 (d), .int .i64 (d), .bool false, .bool false, .pointer (some ⟨p8, 0, none⟩), .slice o115 ((ivs (notB i L)).length) (k116), .int .i64 ((((ivs (notB i L)).length : Nat) : Int)), .int .i64 ((((ivs (notB i L)).length : Nat) : Int)), .int .i64 (((r + 1 : Nat) : Int)), .bool false, .bool false, .pointer (some ⟨p8, 0, none⟩), .int .i64 ((((notB i L).length : Nat) : Int)), .int .i64 ((((ivs (notB i L)).length : Nat) : Int)), .int .i64 (((q + 1 : Nat) : Int)), .int .i64 ((((ivs (notB i L)).length * (q + 1) : Nat) : Int)), .bool false, .bool false, .bool false, .pointer (some ⟨p8, 0, none⟩), .int .i64 ((((notB i L).length : Nat) : Int)), .int .i64 ((((ivs (notB i L)).length : Nat) : Int)), .bool false, .bool false]), rfl, by omega, hI2, ((h9.erase 2).erase 1)⟩
        · skip
          refine wp_seq_k (fun K120 hK120 => ?_)
          refine wl_region ?_
          refine wl_give rfl (g_fa 32 _ (wr.heap.size) (0) (0) 0 rfl (fa32_0 _ _ _) ?_)
          (try simp only [Act.put, List.setIfInBounds_toArray, List.set_cons_zero, List.set_cons_succ])
          refine wl_give rfl (g_ld1 3 _ (wr.heap.size) 0 _ rfl (ld3 _ _ _ _ ((hM.get 0 rfl).cell 0 _ rfl)) ?_)
          (try simp only [Act.put, List.setIfInBounds_toArray, List.set_cons_zero, List.set_cons_succ])
          refine wl_nil ?_
          refine hK120 _ _ ?_
          (try clear hK120 K120)
          refine wp_block ?_
          refine wp_seq_k (fun K121 hK121 => ?_)
          refine wl_region ?_
          refine wl_give rfl (g_ieq 3 _ _ .i64 (k) (0) false rfl rfl (decide_eq_false hk0) ?_)
          (try simp only [Act.put, List.setIfInBounds_toArray, List.set_cons_zero, List.set_cons_succ])
          refine wl_give rfl (g_assign _ (.bool false) rfl ?_)
          (try simp only [Act.put, List.setIfInBounds_toArray, List.set_cons_zero, List.set_cons_succ])
          refine wl_nil ?_
          refine hK121 _ _ ?_
          (try clear hK121 K121)
          refine wp_cond_false rfl ?_
          refine wp_seq_k (fun K122 hK122 => ?_)
          refine wl_region ?_
          refine wl_give rfl (g_ieq 3 _ _ .i64 (k) (1) false rfl rfl (decide_eq_false hk1) ?_)
          (try simp only [Act.put, List.setIfInBounds_toArray, List.set_cons_zero, List.set_cons_succ])
          refine wl_give rfl (g_assign _ (.bool false) rfl ?_)
          (try simp only [Act.put, List.setIfInBounds_toArray, List.set_cons_zero, List.set_cons_succ])
          refine wl_nil ?_
          refine hK122 _ _ ?_
          (try clear hK122 K122)
          refine wp_cond_false rfl ?_
          refine wp_seq_k (fun K123 hK123 => ?_)
          refine wl_region ?_
          refine wl_give rfl (g_ieq 3 _ _ .i64 (k) (2) false rfl rfl (decide_eq_false hk2) ?_)
          (try simp only [Act.put, List.setIfInBounds_toArray, List.set_cons_zero, List.set_cons_succ])
          refine wl_give rfl (g_assign _ (.bool false) rfl ?_)
          (try simp only [Act.put, List.setIfInBounds_toArray, List.set_cons_zero, List.set_cons_succ])
          refine wl_nil ?_
          refine hK123 _ _ ?_
          (try clear hK123 K123)
          refine wp_cond_false rfl ?_
          refine wp_skip ?_
          refine hK28 _ _ ?_
          (try clear hK28 K28)
          have hI2 : Shut (Ro ((r + 1 : Nat) : Int) (L) (d) (j + 1)) := ⟨ro_same hI.out⟩
          have hle2 := hI2.out.le
          have hiv2 := hI2.out.iv
          have hA := ivs_le (L)
          have hB := room_le (L := L) (bfull (hM.up 1 rfl))
          have hmm : (ivs (L)).length * (q + 1) ≤ 64 * 64 := Nat.mul_le_mul (by omega) (by omega)
          have hmul : Shut (IntKind.i64.wrap ((((ivs (L)).length : Nat) : Int) * ((q + 1 : Nat) : Int)) = (((ivs (L)).length * (q + 1) : Nat) : Int)) := ⟨by rw [← Int.natCast_mul, wrap_id _ (by omega) (by omega)]⟩
          refine wp_seq_k (fun K124 hK124 => ?_)
          refine wl_region ?_
          refine wl_give rfl (g_move _ (.pointer (some ⟨p8, 0, none⟩)) rfl ?_)
          (try simp only [Act.put, List.setIfInBounds_toArray, List.set_cons_zero, List.set_cons_succ])
          refine wl_give rfl (g_call 21 _ _ [.pointer (some ⟨p8, 0, none⟩)] (kf21 _ _) rfl ((to_row (ivals_v (l := ivs (L)) (show Ms w w27 [bf p8 (q + 1) (((r + 1 : Nat) : Int)) (d) (L), blk (wr.heap.size) (([.int .i64 (k), .int .i64 (i), .string (s)] : List Value)) 32] from (hM.up 1 rfl)) (by omega) rfl)).mono ?_))
          rintro e w125 ⟨o126, k127, rfl, h_⟩
          refine ⟨_, rfl, ?_⟩
          replace hM : Ms w w125 [row 3 1 (.slice o126 (ivs (L)).length k127) ((ivs (L)).length) ((ivs (L)).map encZ), bf p8 (q + 1) (((r + 1 : Nat) : Int)) (d) (L), blk (wr.heap.size) (([.int .i64 (k), .int .i64 (i), .string (s)] : List Value)) 32] := h_
          clear h_
          (try simp only [Act.put, List.setIfInBounds_toArray, List.set_cons_zero, List.set_cons_succ])
          refine wl_give rfl (g_len _ 39 3 (o126) ((ivs (L)).length) (k127) ((((ivs (L)).length : Nat) : Int)) Try.underlying39 rfl rfl ?_)
          (try simp only [Act.put, List.setIfInBounds_toArray, List.set_cons_zero, List.set_cons_succ])
          refine wl_give rfl (g_assign _ (.int .i64 ((((ivs (L)).length : Nat) : Int))) rfl ?_)
          (try simp only [Act.put, List.setIfInBounds_toArray, List.set_cons_zero, List.set_cons_succ])
          refine wl_nil ?_
          refine hK124 _ _ ?_
          (try clear hK124 K124)
          refine wp_seq_k (fun K128 hK128 => ?_)
          refine wl_region ?_
          refine wl_give rfl (g_move _ (.int .i64 ((((ivs (L)).length : Nat) : Int))) rfl ?_)
          (try simp only [Act.put, List.setIfInBounds_toArray, List.set_cons_zero, List.set_cons_succ])
          refine wl_give rfl (g_move _ (.int .i64 (((r + 1 : Nat) : Int))) rfl ?_)
          (try simp only [Act.put, List.setIfInBounds_toArray, List.set_cons_zero, List.set_cons_succ])
          refine wl_give rfl (g_igtr 3 _ _ .i64 ((((ivs (L)).length : Nat) : Int)) (((r + 1 : Nat) : Int)) false rfl rfl (decide_eq_false (by omega)) ?_)
          (try simp only [Act.put, List.setIfInBounds_toArray, List.set_cons_zero, List.set_cons_succ])
          refine wl_give rfl (g_move _ (.bool false) rfl ?_)
          (try simp only [Act.put, List.setIfInBounds_toArray, List.set_cons_zero, List.set_cons_succ])
          refine wl_give rfl (g_move _ (.pointer (some ⟨p8, 0, none⟩)) rfl ?_)
          (try simp only [Act.put, List.setIfInBounds_toArray, List.set_cons_zero, List.set_cons_succ])
          refine wl_give rfl (g_call 23 _ _ [.pointer (some ⟨p8, 0, none⟩)] (kf23 _ _) rfl ((keep1 1 rfl (fun R_ h_ => size_v (n := (((L).length : Nat) : Int)) h_ (by omega) (rfl)) hM).mono ?_))
          rintro e w129 ⟨rfl, h_⟩
          refine ⟨_, rfl, ?_⟩
          replace hM : Ms w w129 [row 3 1 (.slice o126 (ivs (L)).length k127) ((ivs (L)).length) ((ivs (L)).map encZ), bf p8 (q + 1) (((r + 1 : Nat) : Int)) (d) (L), blk (wr.heap.size) (([.int .i64 (k), .int .i64 (i), .string (s)] : List Value)) 32] := h_
          clear h_
          (try simp only [Act.put, List.setIfInBounds_toArray, List.set_cons_zero, List.set_cons_succ])
          refine wl_give rfl (g_move _ (.int .i64 ((((ivs (L)).length : Nat) : Int))) rfl ?_)
          (try simp only [Act.put, List.setIfInBounds_toArray, List.set_cons_zero, List.set_cons_succ])
          refine wl_give rfl (g_move _ (.int .i64 (((q + 1 : Nat) : Int))) rfl ?_)
          (try simp only [Act.put, List.setIfInBounds_toArray, List.set_cons_zero, List.set_cons_succ])
          refine wl_give rfl (g_imul 3 _ _ .i64 ((((ivs (L)).length : Nat) : Int)) (((q + 1 : Nat) : Int)) ((((ivs (L)).length * (q + 1) : Nat) : Int)) rfl rfl (hmul.out) ?_)
          (try simp only [Act.put, List.setIfInBounds_toArray, List.set_cons_zero, List.set_cons_succ])
          refine wl_give rfl (g_igtr 3 _ _ .i64 ((((L).length : Nat) : Int)) ((((ivs (L)).length * (q + 1) : Nat) : Int)) false rfl rfl (decide_eq_false (by omega)) ?_)
          (try simp only [Act.put, List.setIfInBounds_toArray, List.set_cons_zero, List.set_cons_succ])
          refine wl_give rfl (g_pickf _ _ _ (.bool false) rfl rfl ?_)
          (try simp only [Act.put, List.setIfInBounds_toArray, List.set_cons_zero, List.set_cons_succ])
          refine wl_give rfl (g_move _ (.bool false) rfl ?_)
          (try simp only [Act.put, List.setIfInBounds_toArray, List.set_cons_zero, List.set_cons_succ])
          refine wl_give rfl (g_move _ (.pointer (some ⟨p8, 0, none⟩)) rfl ?_)
          (try simp only [Act.put, List.setIfInBounds_toArray, List.set_cons_zero, List.set_cons_succ])
          refine wl_give rfl (g_call 23 _ _ [.pointer (some ⟨p8, 0, none⟩)] (kf23 _ _) rfl ((keep1 1 rfl (fun R_ h_ => size_v (n := (((L).length : Nat) : Int)) h_ (by omega) (rfl)) hM).mono ?_))
          rintro e w130 ⟨rfl, h_⟩
          refine ⟨_, rfl, ?_⟩
          replace hM : Ms w w130 [row 3 1 (.slice o126 (ivs (L)).length k127) ((ivs (L)).length) ((ivs (L)).map encZ), bf p8 (q + 1) (((r + 1 : Nat) : Int)) (d) (L), blk (wr.heap.size) (([.int .i64 (k), .int .i64 (i), .string (s)] : List Value)) 32] := h_
          clear h_
          (try simp only [Act.put, List.setIfInBounds_toArray, List.set_cons_zero, List.set_cons_succ])
          refine wl_give rfl (g_move _ (.int .i64 ((((ivs (L)).length : Nat) : Int))) rfl ?_)
          (try simp only [Act.put, List.setIfInBounds_toArray, List.set_cons_zero, List.set_cons_succ])
          refine wl_give rfl (g_ilss 3 _ _ .i64 ((((L).length : Nat) : Int)) ((((ivs (L)).length : Nat) : Int)) false rfl rfl (decide_eq_false (by omega)) ?_)
          (try simp only [Act.put, List.setIfInBounds_toArray, List.set_cons_zero, List.set_cons_succ])
          refine wl_give rfl (g_pickf _ _ _ (.bool false) rfl rfl ?_)
          (try simp only [Act.put, List.setIfInBounds_toArray, List.set_cons_zero, List.set_cons_succ])
          refine wl_nil ?_
          refine hK128 _ _ ?_
          (try clear hK128 K128)
          refine wp_cond_false rfl ?_
          refine wp_skip ?_
          refine hK15 _ _ ?_
          (try clear hK15 K15)
          refine wl_region ?_
          refine wl_give rfl (g_move _ (.int .i64 (((j : Nat) : Int))) rfl ?_)
          (try simp only [Act.put, List.setIfInBounds_toArray, List.set_cons_zero, List.set_cons_succ])
          refine wl_give rfl (g_ia 3 _ _ .i64 (((j : Nat) : Int)) (1) (((j + 1 : Nat) : Int)) rfl rfl (hj1.out) ?_)
          (try simp only [Act.put, List.setIfInBounds_toArray, List.set_cons_zero, List.set_cons_succ])
          refine wl_give rfl (g_assign _ (.int .i64 (((j + 1 : Nat) : Int))) rfl ?_)
          (try simp only [Act.put, List.setIfInBounds_toArray, List.set_cons_zero, List.set_cons_succ])
          refine wl_nil ?_
          (try simp only [Exit.then, Exit.inBlock, ↓reduceIte, Nat.reduceEqDiff])
          have h9 : Ms w w130 [bf p8 (q + 1) (((r + 1 : Nat) : Int)) (d) (L), row 3 1 (.slice o126 (ivs (L)).length k127) ((ivs (L)).length) ((ivs (L)).map encZ), blk (wr.heap.size) (([.int .i64 (k), .int .i64 (i), .string (s)] : List Value)) 32] := (((hM.up 2 rfl).up 1 rfl).up 2 rfl)
          exact ⟨m - 1, by omega, j + 1, _, _, (tl [.int .u8 (a), .int .u8 (c), .slice (some ⟨b, o, none⟩) (n) (cap), undef, undef, undef, .bool false, .int .i64 (((q + 1 : Nat) : Int)), .int .i64 (((r + 1 : Nat) : Int)), .pointer (some ⟨p8, 0, none⟩), .int .i64 (0), .int .i64 (((j + 1 : Nat) : Int)), .pointer (some ⟨wr.heap.size, 0, none⟩), .int .i64 (((L.length : Nat) : Int)), .int .i64 (d), t 15, .int .i64 ((((ivs (L)).length : Nat) : Int)), .bool true, .bool false, .int .u8 (a), .int .u8 (((q : Nat) : Int)), .int .i64 (((q : Nat) : Int)), .int .i64 (((q + 1 : Nat) : Int)), .int .u8 (c), .int .u8 (((r : Nat) : Int)), .int .i64 (((r : Nat) : Int)), .int .i64 (((r + 1 : Nat) : Int)), .tuple #[.pointer (some ⟨p8, 0, none⟩), .int .i64 (0)], .int .i64 (((q + 1 : Nat) : Int)), .int .i64 (((r + 1 : Nat) : Int)), .tuple #[.pointer (some ⟨p8, 0, none⟩), .int .i64 (0)], .pointer (some ⟨p8, 0, none⟩), .int .i64 (0), .pointer (some ⟨p8, 0, none⟩), .bool false, .int .i64 (((j : Nat) : Int)), .slice (some ⟨b, o, none⟩) (n) (cap), .int .i64 (((n : Nat) : Int)), .bool true, .bool true, .int .i64 (((j : Nat) : Int)), .bool true, .bool true, .int .i64 (((j : Nat) : Int)), .int .i64 (((j + 1 : Nat) : Int)), .slice (some ⟨b, o, none⟩) (n) (cap), .int .i64 (((j : Nat) : Int)), .pointer (some ⟨b, o + j * 3, none⟩), .agg (([.int .i64 (k), .int .i64 (i), .string (s)] : List Value)).toArray, .agg (([.int .i64 (k), .int .i64 (i), .string (s)] : List Value)).toArray, .bool false, .pointer (some ⟨p8, 0, none⟩), .int .i64 (((L.length : Nat) : Int)), .pointer (some ⟨p8, 0, none⟩), .int .i64 (d), .pointer (some ⟨wr.heap.size, 0, none⟩), .int .i64 (k), .bool false, .bool false, t 59, t 60, t 61, t 62, t 63, t 64, t 65, t 66, t 67, t 68, t 69, t 70, t 71, t 72, t 73, t 74, t 75, t 76, t 77, t 78, t 79, t 80, t 81, t 82, t 83, t 84, t 85, t 86, t 87, t 88, t 89, t 90, t 91, t 92, t 93, t 94, t 95, t 96, t 97, t 98, t 99, t 100, t 101, t 102, t 103, t 104, t 105, t 106, t 107, t 108, .bool false, .bool false, t 111, t 112, t 113, t 114, t 115, t 116, t 117, t 118, t 119, t 120, t 121, t 122, t 123, t 124, t 125, t 126, .bool false, .bool false, t 129, t 130, t 131, t 132, t 133, t 134, t 135, t 136, t 137, t 138, t 139, t 140, t 141, t 142, t 143, .pointer (some ⟨p8, 0, none⟩), .slice o126 ((ivs (L)).length) (k127), .int .i64 ((((ivs (L)).length : Nat) : Int)), .int .i64 ((((ivs (L)).length : Nat) : Int)), .int .i64 (((r + 1 : Nat) : Int)), .bool false, .bool false, .pointer (some ⟨p8, 0, none⟩), .int .i64 ((((L).length : Nat) : Int)), .int .i64 ((((ivs (L)).length : Nat) : Int)), .int .i64 (((q + 1 : Nat) : Int)), .int .i64 ((((ivs (L)).length * (q + 1) : Nat) : Int)), .bool false, .bool false, .bool false, .pointer (some ⟨p8, 0, none⟩), .int .i64 ((((L).length : Nat) : Int)), .int .i64 ((((ivs (L)).length : Nat) : Int)), .bool false, .bool false]), rfl, by omega, hI2, ((h9.erase 2).erase 1)⟩
    · skip
      refine wp_seq_k (fun K131 hK131 => ?_)
      refine wp_seq_k (fun K132 hK132 => ?_)
      refine wl_region ?_
      refine wl_give rfl (g_move _ (.int .i64 (((j : Nat) : Int))) rfl ?_)
      (try simp only [Act.put, List.setIfInBounds_toArray, List.set_cons_zero, List.set_cons_succ])
      refine wl_give rfl (g_move _ (.slice ao (n) (cap)) rfl ?_)
      (try simp only [Act.put, List.setIfInBounds_toArray, List.set_cons_zero, List.set_cons_succ])
      refine wl_give rfl (g_len _ 22 32 (ao) (n) (cap) (((n : Nat) : Int)) Try.underlying22 rfl rfl ?_)
      (try simp only [Act.put, List.setIfInBounds_toArray, List.set_cons_zero, List.set_cons_succ])
      refine wl_give rfl (g_ilss 3 _ _ .i64 (((j : Nat) : Int)) (((n : Nat) : Int)) true rfl rfl (decide_eq_true h1) ?_)
      (try simp only [Act.put, List.setIfInBounds_toArray, List.set_cons_zero, List.set_cons_succ])
      refine wl_give rfl (g_move _ (.bool true) rfl ?_)
      (try simp only [Act.put, List.setIfInBounds_toArray, List.set_cons_zero, List.set_cons_succ])
      refine wl_give rfl (g_move _ (.int .i64 (((j : Nat) : Int))) rfl ?_)
      (try simp only [Act.put, List.setIfInBounds_toArray, List.set_cons_zero, List.set_cons_succ])
      refine wl_give rfl (g_ilss 3 _ _ .i64 (((j : Nat) : Int)) (100) false rfl rfl (decide_eq_false h2) ?_)
      (try simp only [Act.put, List.setIfInBounds_toArray, List.set_cons_zero, List.set_cons_succ])
      refine wl_give rfl (g_pickt _ _ _ (.bool false) rfl rfl ?_)
      (try simp only [Act.put, List.setIfInBounds_toArray, List.set_cons_zero, List.set_cons_succ])
      refine wl_nil ?_
      refine hK132 _ _ ?_
      (try clear hK132 K132)
      refine wp_cond_false rfl ?_
      refine wp_exit ?_
      refine hK11 _ _ ?_
      (try clear hK11 K11)
      refine wp_seq_k (fun K133 hK133 => ?_)
      refine wl_region ?_
      refine wl_give rfl (g_assign _ (.bool true) rfl ?_)
      (try simp only [Act.put, List.setIfInBounds_toArray, List.set_cons_zero, List.set_cons_succ])
      refine wl_nil ?_
      refine hK133 _ _ ?_
      (try clear hK133 K133)
      refine wp_ret ?_
      go_ret
      exact ⟨rfl, hM.below⟩
  · skip
    refine wp_seq_k (fun K134 hK134 => ?_)
    refine wp_seq_k (fun K135 hK135 => ?_)
    refine wl_region ?_
    refine wl_give rfl (g_move _ (.int .i64 (((j : Nat) : Int))) rfl ?_)
    (try simp only [Act.put, List.setIfInBounds_toArray, List.set_cons_zero, List.set_cons_succ])
    refine wl_give rfl (g_move _ (.slice ao (n) (cap)) rfl ?_)
    (try simp only [Act.put, List.setIfInBounds_toArray, List.set_cons_zero, List.set_cons_succ])
    refine wl_give rfl (g_len _ 22 32 (ao) (n) (cap) (((n : Nat) : Int)) Try.underlying22 rfl rfl ?_)
    (try simp only [Act.put, List.setIfInBounds_toArray, List.set_cons_zero, List.set_cons_succ])
    refine wl_give rfl (g_ilss 3 _ _ .i64 (((j : Nat) : Int)) (((n : Nat) : Int)) false rfl rfl (decide_eq_false h1) ?_)
    (try simp only [Act.put, List.setIfInBounds_toArray, List.set_cons_zero, List.set_cons_succ])
    refine wl_give rfl (g_move _ (.bool false) rfl ?_)
    (try simp only [Act.put, List.setIfInBounds_toArray, List.set_cons_zero, List.set_cons_succ])
    refine wl_skip rfl ?_
    (try simp only [Act.put, List.setIfInBounds_toArray, List.set_cons_zero, List.set_cons_succ])
    refine wl_skip rfl ?_
    (try simp only [Act.put, List.setIfInBounds_toArray, List.set_cons_zero, List.set_cons_succ])
    refine wl_give rfl (g_pickf _ _ _ (.bool false) rfl rfl ?_)
    (try simp only [Act.put, List.setIfInBounds_toArray, List.set_cons_zero, List.set_cons_succ])
    refine wl_nil ?_
    refine hK135 _ _ ?_
    (try clear hK135 K135)
    refine wp_cond_false rfl ?_
    refine wp_exit ?_
    refine hK11 _ _ ?_
    (try clear hK11 K11)
    refine wp_seq_k (fun K136 hK136 => ?_)
    refine wl_region ?_
    refine wl_give rfl (g_assign _ (.bool true) rfl ?_)
    (try simp only [Act.put, List.setIfInBounds_toArray, List.set_cons_zero, List.set_cons_succ])
    refine wl_nil ?_
    refine hK136 _ _ ?_
    (try clear hK136 K136)
    refine wp_ret ?_
    go_ret
    exact ⟨rfl, hM.below⟩
theorem walk (a c : Int) (ao : Option Addr) (n cap : Nat) (w : World) (ha : 0 ≤ a ∧ a < 256) (hc : 0 ≤ c ∧ c < 256) (hl : LA w ao n) (h1 : n ≤ cap) (h2 : cap ≤ maxLen) : Calls Try.prog 5 #[.int .u8 a, .int .u8 c, .slice ao n cap] w fun e w' => e = .returned (.bool true) ∧ Below w.heap.size w w' := by
  have hmx : maxLen ≤ 9223372036854775807 := by decide
  obtain ⟨q, hq, hq2⟩ := rem64 a ha
  obtain ⟨r, hr, hr2⟩ := rem64 c hc
  exact walk_on a c ao n cap q r w hl (by omega) ⟨hq⟩ ⟨wrap_id _ (by omega) (by omega)⟩ ⟨by rw [wrap_id _ (by omega) (by omega)]; omega⟩ hq2 ⟨hr⟩ ⟨wrap_id _ (by omega) (by omega)⟩ ⟨by rw [wrap_id _ (by omega) (by omega)]; omega⟩ hr2
end Go.Proofs.Ytpkjocibgmjhdaa.bufferRoom
