/- What New and Dropped answer, the program's and the reference's. What Has answers: each thing goes out and comes in again, and all lie as they did. -/
import Derived.Test.YtcclcemdodoiiaaGreatDoorQRunG
import Derived.Test.YtcclcemdodoiiaaGreatDoorQBfMath
namespace Go.Proofs.YtcclcemdodoiiaaGreatDoor
set_option maxRecDepth 10000
open Go Go.RowKit
set_option linter.unusedVariables false
set_option linter.unusedSimpArgs false

theorem keep1 {P : Program} {f : FuncId} {args : Array Value} {v : Value} {w0 w : World} {A : HP} {L : List HP} (i : Nat) (hi : L[i]? = some A) (h : ∀ R, Ms w0 w (A :: R) → Calls P f args w (fun e w' => e = .returned v ∧ Ms w0 w' (A :: R))) (hM : Ms w0 w L) : Calls P f args w (fun e w' => e = .returned v ∧ Ms w0 w' L) :=
  (h _ (hM.up i hi)).mono fun e w' ⟨h1, h2⟩ => ⟨h1, Ms.down i hi h2⟩
theorem bu_nil (each : Nat) : Bu each [] [] := ⟨by simp, fun i => by simp, fun i => by simp [ofI], fun t ht => by cases ht⟩
theorem bf_new {w0 w : World} {R : List HP} {p m : Nat} {each : Nat} {slots : Int} (h : Ms w0 w (blk p [.int .i64 ((each : Nat) : Int), .int .i64 slots, .map (some m), .int .i64 0] 130 :: mp kI m [] :: R)) : Ms w0 w (bf p each slots 0 [] :: R) :=
  bf_mk (m := m) (E := []) h (bu_nil each)
set_option maxHeartbeats 4000000 in
theorem bnew_bad0 (x y : Int) (w : World) (h0 : x < 1) : Calls Tryz.prog 33 #[.int .i64 x, .int .i64 y] w fun e w' => e = .returned (.tuple #[.pointer none, .int .i64 1]) ∧ Below w.heap.size w w' := by
  have hM := Ms.refl w
  go_enter Tryz.func33, Tryz.ntmps33
  refine wp_seq_k fun _ κ1 => wl_region (wl_fare kn ?_)
  simp (disch := omega) only [fx, pv, kx]
  refine wl_nil (κ1 _ _ ?_)
  refine wp_seq_k fun _ κ2 => wp_seq_k fun _ κ3 => wl_region (wl_fare kn ?_)
  simp (config := { maxSteps := 10000000 }) (disch := omega) only [fx, pv, kx]
  refine wl_nil (κ3 _ _ ?_)
  refine wp_cond_true rfl (wp_seq_k fun _ κ4 => ?_)
  refine wl_region (wl_fare kn ?_)
  simp (disch := omega) only [fx, pv, kx]
  refine wl_nil (κ4 _ _ ?_)
  refine wp_ret ?_
  go_ret2
  exact ⟨rfl, hM.below⟩
set_option maxHeartbeats 4000000 in
theorem bnew_bad1 (x y : Int) (w : World) (h0 : ¬ x < 1) (h1 : 64 < x) : Calls Tryz.prog 33 #[.int .i64 x, .int .i64 y] w fun e w' => e = .returned (.tuple #[.pointer none, .int .i64 1]) ∧ Below w.heap.size w w' := by
  have hM := Ms.refl w
  go_enter Tryz.func33, Tryz.ntmps33
  refine wp_seq_k fun _ κ1 => wl_region (wl_fare kn ?_)
  simp (disch := omega) only [fx, pv, kx]
  refine wl_nil (κ1 _ _ ?_)
  refine wp_seq_k fun _ κ2 => wp_seq_k fun _ κ3 => wl_region (wl_fare kn ?_)
  simp (config := { maxSteps := 10000000 }) (disch := omega) only [fx, pv, kx]
  refine wl_nil (κ3 _ _ ?_)
  refine wp_cond_true rfl (wp_seq_k fun _ κ4 => ?_)
  refine wl_region (wl_fare kn ?_)
  simp (disch := omega) only [fx, pv, kx]
  refine wl_nil (κ4 _ _ ?_)
  refine wp_ret ?_
  go_ret2
  exact ⟨rfl, hM.below⟩
set_option maxHeartbeats 4000000 in
theorem bnew_bad2 (x y : Int) (w : World) (h0 : ¬ x < 1) (h1 : ¬ 64 < x) (h2 : y < 1) : Calls Tryz.prog 33 #[.int .i64 x, .int .i64 y] w fun e w' => e = .returned (.tuple #[.pointer none, .int .i64 1]) ∧ Below w.heap.size w w' := by
  have hM := Ms.refl w
  go_enter Tryz.func33, Tryz.ntmps33
  refine wp_seq_k fun _ κ1 => wl_region (wl_fare kn ?_)
  simp (disch := omega) only [fx, pv, kx]
  refine wl_nil (κ1 _ _ ?_)
  refine wp_seq_k fun _ κ2 => wp_seq_k fun _ κ3 => wl_region (wl_fare kn ?_)
  simp (config := { maxSteps := 10000000 }) (disch := omega) only [fx, pv, kx]
  refine wl_nil (κ3 _ _ ?_)
  refine wp_cond_true rfl (wp_seq_k fun _ κ4 => ?_)
  refine wl_region (wl_fare kn ?_)
  simp (disch := omega) only [fx, pv, kx]
  refine wl_nil (κ4 _ _ ?_)
  refine wp_ret ?_
  go_ret2
  exact ⟨rfl, hM.below⟩
set_option maxHeartbeats 4000000 in
theorem bnew_bad3 (x y : Int) (w : World) (h0 : ¬ x < 1) (h1 : ¬ 64 < x) (h2 : ¬ y < 1) (h3 : 64 < y) : Calls Tryz.prog 33 #[.int .i64 x, .int .i64 y] w fun e w' => e = .returned (.tuple #[.pointer none, .int .i64 1]) ∧ Below w.heap.size w w' := by
  have hM := Ms.refl w
  go_enter Tryz.func33, Tryz.ntmps33
  refine wp_seq_k fun _ κ1 => wl_region (wl_fare kn ?_)
  simp (disch := omega) only [fx, pv, kx]
  refine wl_nil (κ1 _ _ ?_)
  refine wp_seq_k fun _ κ2 => wp_seq_k fun _ κ3 => wl_region (wl_fare kn ?_)
  simp (config := { maxSteps := 10000000 }) (disch := omega) only [fx, pv, kx]
  refine wl_nil (κ3 _ _ ?_)
  refine wp_cond_true rfl (wp_seq_k fun _ κ4 => ?_)
  refine wl_region (wl_fare kn ?_)
  simp (disch := omega) only [fx, pv, kx]
  refine wl_nil (κ4 _ _ ?_)
  refine wp_ret ?_
  go_ret2
  exact ⟨rfl, hM.below⟩
theorem bnew_bad (x y : Int) (w : World) (h : ¬ (1 ≤ x ∧ x ≤ 64 ∧ 1 ≤ y ∧ y ≤ 64)) : Calls Tryz.prog 33 #[.int .i64 x, .int .i64 y] w fun e w' => e = .returned (.tuple #[.pointer none, .int .i64 1]) ∧ Below w.heap.size w w' := by
  by_cases h0 : x < 1
  · exact bnew_bad0 x y w h0
  by_cases h1 : 64 < x
  · exact bnew_bad1 x y w h0 h1
  by_cases h2 : y < 1
  · exact bnew_bad2 x y w h0 h1 h2
  · exact bnew_bad3 x y w h0 h1 h2 (by omega)
set_option maxHeartbeats 4000000 in
theorem bnew_any {w0 w : World} {R : List HP} (x : Nat) (y : Int) (hM : Ms w0 w R) (h1 : 1 ≤ x) (h2 : x ≤ 64) (h3 : 1 ≤ y) (h4 : y ≤ 64) : Calls Tryz.prog 33 #[.int .i64 ((x : Nat) : Int), .int .i64 y] w fun e w' => ∃ p, e = .returned (.tuple #[.pointer (some ⟨p, 0, none⟩), .int .i64 0]) ∧ Ms w0 w' (bf p x y 0 [] :: R) := by
  go_enter Tryz.func33, Tryz.ntmps33
  refine wp_seq_k fun _ κ1 => wl_region (wl_fare kn ?_)
  simp (disch := omega) only [fx, pv, kx]
  refine wl_nil (κ1 _ _ ?_)
  refine wp_seq_k fun _ κ2 => wp_seq_k fun _ κ3 => wl_region (wl_fare kn ?_)
  simp (config := { maxSteps := 10000000 }) (disch := omega) only [fx, pv, kx, ((decide_eq_false (by omega)) : decide ((((x : Nat) : Int)) < (1)) = false), ((decide_eq_false (by omega)) : decide ((64) < (((x : Nat) : Int))) = false), ((decide_eq_false (by omega)) : decide ((y) < (1)) = false), ((decide_eq_false (by omega)) : decide ((64) < (y)) = false)]
  refine wl_nil (κ3 _ _ ?_)
  refine wp_cond_false rfl (wp_skip ?_)
  refine κ2 _ _ (wp_seq_k fun _ κ4 => ?_)
  refine wl_region (wl_fare kn ?_)
  simp (disch := omega) only [fx, pv, kx]
  refine wl_give rfl (g_mmap (enc := kI) hM fun w5 h_ => ?_)
  replace hM : Ms w0 w5 (mp kI (w.heap.size) ([]) :: R) := h_
  clear h_
  try simp only [nz]
  refine wl_give rfl (g_bld130 _ _ _ (((x : Nat) : Int)) (y) (some (w.heap.size)) rfl rfl rfl ?_)
  try simp only [nz]
  refine wl_give rfl (g_box 130 _ ([.int .i64 (((x : Nat) : Int)), .int .i64 (y), .map (some (w.heap.size)), .int .i64 (0)]) rfl fun w6 t_ b_ => ?_)
  replace hM := hM.new t_ b_
  clear t_ b_
  refine wl_fare kn ?_
  simp (disch := omega) only [fx, pv, kx]
  refine wl_nil (κ4 _ _ ?_)
  refine wp_ret ?_
  go_ret2
  refine ⟨w5.heap.size, rfl, ?_⟩
  exact bf_new (show Ms w0 w6 (blk (w5.heap.size) ([.int .i64 (((x : Nat) : Int)), .int .i64 (y), .map (some (w.heap.size)), .int .i64 (0)]) 130 :: mp kI (w.heap.size) ([]) :: R) from ((hM.up 1 rfl).up 1 rfl))
end Go.Proofs.YtcclcemdodoiiaaGreatDoor
namespace Go.Proofs.YtcclcemdodoiiaaGreatDoor
set_option maxRecDepth 10000
open Go Go.RowKit
set_option linter.unusedVariables false
set_option linter.unusedSimpArgs false

section
variable {P : Program} {b : Frame} {a : Act} {k : List Item} {cs : List Frame} {w : World} {Z : Goroutine → World → Prop}
/-- A loop of so many rounds at most. -/
theorem lt_rounds {c : Code} (I : Nat → Act → World → Prop) (n : Nat) (h0 : I n a w) (h : ∀ n a w, (∀ m a' w', m < n → I m a' w' → LT P Z b cs (.inLoop c :: k) a' w') → I n a w → LT P Z b cs (.code c :: .inLoop c :: k) a w) : LT P Z b cs (.code (.loop c) :: k) a w := by
  have key : ∀ n a w, I n a w → LT P Z b cs (.code c :: .inLoop c :: k) a w := by
    intro n
    induction n using Nat.strongRecOn with
    | _ n ih => exact fun a w hI => h n a w (fun m a' w' hm hI' => lt_again (ih m hm a' w' hI')) hI
  exact lt_loop (key n a w h0)
end
/-- Is it among these? -/
def isin (s : ByteArray) (ts : List ByteArray) : Bool := ts.any (fun t => decide (t = s))
theorem isin_ofI (i : Int) (s : ByteArray) (L : List Thg) : isin s (ofI i L) = hasT i s L := by
  rw [Bool.eq_iff_iff, hasT_iff, ← mem_ofI]
  unfold isin
  rw [List.any_eq_true]
  constructor
  · rintro ⟨t, h1, h2⟩
    rw [← of_decide_eq_true h2]; exact h1
  · intro h
    exact ⟨s, h, by simp⟩
set_option maxHeartbeats 4000000 in
theorem has_in {w0 w : World} {R : List HP} {p m c x : Nat} {y d i : Int} {s : ByteArray} {es : List (Int × Value)} {ts : List ByteArray} (hM : Ms w0 w (blk (p) ([.int .i64 (((x : Nat) : Int)), .int .i64 (y), .map (some m), .int .i64 (d)]) 130 :: mp kI m (es) :: ch c (x) ((ts).map Value.string) :: R)) (hl : mlook es i = some (.chan (some c))) (hx : ts.length ≤ x) (hx2 : x ≤ 1000) : Calls Tryz.prog 87 #[.pointer (some ⟨p, 0, none⟩), .int .i64 i, .string s] w fun e w' => e = .returned (.bool (isin s ts)) ∧ Ms w0 w' (blk (p) ([.int .i64 (((x : Nat) : Int)), .int .i64 (y), .map (some m), .int .i64 (d)]) 130 :: mp kI m (es) :: ch c (x) ((ts).map Value.string) :: R) := by
  refine calls_of_lt Tryz.func87 rfl (fun b cs hbf hbk => ?_)
  simp only [Tryz.ntmps87, List.size_toArray, List.length_cons, List.length_nil, Nat.reduceAdd, Nat.reduceSub, Array.replicate_succ, Array.replicate_zero, List.push_toArray, List.append_toArray, List.nil_append, List.cons_append]
  refine lt_seq ?_
  refine lt_wp fun _ κ1 => ?_
  refine wl_region (wl_fare kn ?_)
  simp (disch := omega) only [fx, pv, kx]
  refine wl_nil (κ1 _ _ ?_)
  refine lt_seq ?_
  refine lt_wp fun _ κ2 => ?_
  refine wl_region (wl_fare kn ?_)
  simp (disch := omega) only [fx, pv, kx, (hM.get 0 rfl).cell 2 (.map (some m)) rfl]
  refine wl_give rfl (g_look keyI Tryz.underlying128 Tryz.zeroValue140 _ _ (i) (.chan (some c)) rfl rfl (show Ms w0 _ (mp kI m (es) :: blk (p) ([.int .i64 (((x : Nat) : Int)), .int .i64 (y), .map (some m), .int .i64 (d)]) 130 :: ch c (x) ((ts).map Value.string) :: R) from (hM.up 1 rfl)) (by rw [hl]; rfl) ?_)
  refine wl_fare kn ?_
  simp (disch := omega) only [fx, pv, kx]
  refine wl_nil (κ2 _ _ ?_)
  refine lt_seq ?_
  refine lt_seq ?_
  refine lt_wp fun _ κ3 => ?_
  refine wl_region (wl_fare kn ?_)
  simp (disch := omega) only [fx, pv, kx]
  refine wl_give rfl (g_lenC _ (((ts.length : Nat) : Int)) rfl (show Ms w0 _ (ch c (x) ((ts).map Value.string) :: blk (p) ([.int .i64 (((x : Nat) : Int)), .int .i64 (y), .map (some m), .int .i64 (d)]) 130 :: mp kI m (es) :: R) from (hM.up 2 rfl)) (by simp) ?_)
  refine wl_fare kn ?_
  simp (disch := omega) only [fx, pv, kx]
  refine wl_nil (κ3 _ _ ?_)
  refine lt_block ?_
  refine lt_rounds (fun n a w => ∃ (j : Nat) (hs : Bool) (t9 t19 t20 t21 t22 t23 t24 t25 t26 t27 t28 t29 t30 : Value), a = ⟨#[.pointer (some ⟨p, 0, none⟩), .int .i64 (i), .string (s), undef, undef, undef, .bool false, .chan (some c), .bool hs, t9, .pointer (some ⟨p, 0, none⟩), .pointer (some ⟨p, 0, none⟩), .pointer (some ⟨p, 2, none⟩), .map (some m), .int .i64 (i), .chan (some c), .chan (some c), .int .i64 (((ts.length : Nat) : Int)), .int .i64 ((j : Nat) : Int), t19, t20, t21, t22, t23, t24, t25, t26, t27, t28, t29, t30, undef], []⟩ ∧ j + n = ts.length ∧ hs = isin s (ts.take j) ∧ Ms w0 w (blk (p) ([.int .i64 (((x : Nat) : Int)), .int .i64 (y), .map (some m), .int .i64 (d)]) 130 :: mp kI m (es) :: ch c (x) ((ts.drop j ++ ts.take j).map Value.string) :: R)) ts.length ⟨0, false, _, _, _, _, _, _, _, _, _, _, _, _, _, rfl, Nat.zero_add _, by simp [isin], by simpa using hM⟩ ?_
  clear hM
  rintro n a w hrec ⟨j, hs, t9, t19, t20, t21, t22, t23, t24, t25, t26, t27, t28, t29, t30, rfl, hj, hhs, hM⟩
  by_cases hlt : ((j : Nat) : Int) < ((ts.length : Nat) : Int)
  · obtain ⟨t, ht⟩ : ∃ t, ts[j]? = some t := ⟨_, List.getElem?_eq_getElem (by omega)⟩
    have hjl : Shut (j < ts.length) := ⟨by omega⟩
    have hd : ts.drop j = t :: ts.drop (j + 1) := by rw [List.drop_eq_getElem_cons hjl.out]; congr 1; rw [List.getElem?_eq_getElem hjl.out] at ht; exact Option.some.inj ht
    have htk : ts.take (j + 1) = ts.take j ++ [t] := by rw [List.take_add_one, ht]; rfl
    have e1 : Shut (IntKind.i64.wrap (((j : Nat) : Int) + 1) = ((j + 1 : Nat) : Int)) := ⟨by rw [wrap_id _ (by omega) (by omega)]; omega⟩
    have e2 : Shut (((ts.drop (j + 1) ++ ts.take j).map Value.string).length < x) := ⟨by simp only [List.length_map, List.length_append, List.length_drop, List.length_take]; omega⟩
    replace hM : Ms w0 w (blk (p) ([.int .i64 (((x : Nat) : Int)), .int .i64 (y), .map (some m), .int .i64 (d)]) 130 :: mp kI m (es) :: ch c (x) (.string t :: (ts.drop (j + 1) ++ ts.take j).map Value.string) :: R) := by rw [hd, List.cons_append, List.map_cons] at hM; exact hM
    cases hs with
    | true =>
      refine lt_seq ?_
      refine lt_wp fun _ κ4 => ?_
      refine wl_region (wl_fare kn ?_)
      simp (disch := omega) only [fx, pv, kx]
      refine wl_nil (κ4 _ _ ?_)
      refine lt_seq ?_
      refine lt_true rfl ?_
      refine lt_skip ?_
      refine lt_seq ?_
      refine lt_block ?_
      refine lt_seq ?_
      refine lt_region ?_
      refine lo_give rfl (g_move _ (.chan (some c)) rfl ?_)
      try simp only [nz]
      refine lo_recv hbk Tryz.underlying140 Tryz.zeroValue9 rfl (show Ms w0 w (ch c (x) (.string t :: (ts.drop (j + 1) ++ ts.take j).map Value.string) :: blk (p) ([.int .i64 (((x : Nat) : Int)), .int .i64 (y), .map (some m), .int .i64 (d)]) 130 :: mp kI m (es) :: R) from (hM.up 2 rfl)) ?_
      intro w5 h_
      replace hM : Ms w0 w5 (ch c (x) ((ts.drop (j + 1) ++ ts.take j).map Value.string) :: blk (p) ([.int .i64 (((x : Nat) : Int)), .int .i64 (y), .map (some m), .int .i64 (d)]) 130 :: mp kI m (es) :: R) := h_
      clear h_
      try simp only [nz]
      refine lo_give rfl (g_assign _ (.string (t)) rfl ?_)
      try simp only [nz]
      refine lo_nil ?_
      refine lt_seq ?_
      refine lt_wp fun _ κ6 => ?_
      refine wl_region (wl_fare kn ?_)
      simp (disch := omega) only [fx, pv, kx]
      refine wl_nil (κ6 _ _ ?_)
      refine lt_region ?_
      refine lo_give rfl (g_move _ (.chan (some c)) rfl ?_)
      try simp only [nz]
      refine lo_give rfl (g_move _ (.string (t)) rfl ?_)
      try simp only [nz]
      refine lo_send hbk rfl rfl hM (e2.out) ?_
      intro w7 h_
      replace hM : Ms w0 w7 (ch c (x) ((ts.drop (j + 1) ++ ts.take j).map Value.string ++ [.string (t)]) :: blk (p) ([.int .i64 (((x : Nat) : Int)), .int .i64 (y), .map (some m), .int .i64 (d)]) 130 :: mp kI m (es) :: R) := h_
      clear h_
      try simp only [nz]
      refine lo_nil ?_
      refine lt_over ?_
      refine lt_wp fun _ κ8 => ?_
      refine wl_region (wl_fare kn ?_)
      simp (disch := omega) only [fx, pv, kx, ((e1.out) : IntKind.i64.wrap ((((j : Nat) : Int)) + (1)) = ((j + 1 : Nat) : Int))]
      refine wl_nil (κ8 _ _ ?_)
      have h9 : Ms w0 w7 (blk (p) ([.int .i64 (((x : Nat) : Int)), .int .i64 (y), .map (some m), .int .i64 (d)]) 130 :: mp kI m (es) :: ch c (x) ((ts.drop (j + 1) ++ ts.take j).map Value.string ++ [.string t]) :: R) := (((hM.up 0 rfl).up 2 rfl).up 2 rfl)
      rw [show (ts.drop (j + 1) ++ ts.take j).map Value.string ++ [Value.string t] = (ts.drop (j + 1) ++ ts.take (j + 1)).map Value.string by rw [htk]; simp] at h9
      exact hrec (n - 1) _ _ (by have := hjl.out; omega) ⟨j + 1, true, _, _, _, _, _, _, _, _, _, _, _, _, _, rfl, by have := hjl.out; omega, by rw [htk]; unfold isin at *; rw [List.any_append, ← hhs, Bool.true_or], h9⟩
    | false =>
      by_cases hts : t = s
      · skip
        refine lt_seq ?_
        refine lt_wp fun _ κ9 => ?_
        refine wl_region (wl_fare kn ?_)
        simp (disch := omega) only [fx, pv, kx]
        refine wl_nil (κ9 _ _ ?_)
        refine lt_seq ?_
        refine lt_true rfl ?_
        refine lt_skip ?_
        refine lt_seq ?_
        refine lt_block ?_
        refine lt_seq ?_
        refine lt_region ?_
        refine lo_give rfl (g_move _ (.chan (some c)) rfl ?_)
        try simp only [nz]
        refine lo_recv hbk Tryz.underlying140 Tryz.zeroValue9 rfl (show Ms w0 w (ch c (x) (.string t :: (ts.drop (j + 1) ++ ts.take j).map Value.string) :: blk (p) ([.int .i64 (((x : Nat) : Int)), .int .i64 (y), .map (some m), .int .i64 (d)]) 130 :: mp kI m (es) :: R) from (hM.up 2 rfl)) ?_
        intro w10 h_
        replace hM : Ms w0 w10 (ch c (x) ((ts.drop (j + 1) ++ ts.take j).map Value.string) :: blk (p) ([.int .i64 (((x : Nat) : Int)), .int .i64 (y), .map (some m), .int .i64 (d)]) 130 :: mp kI m (es) :: R) := h_
        clear h_
        try simp only [nz]
        refine lo_give rfl (g_assign _ (.string (t)) rfl ?_)
        try simp only [nz]
        refine lo_nil ?_
        refine lt_seq ?_
        refine lt_wp fun _ κ11 => ?_
        refine wl_region (wl_fare kn ?_)
        simp (disch := omega) only [fx, pv, kx]
        refine wl_give rfl (g_steq 9 _ _ (t) (s) true rfl rfl (decide_eq_true hts) ?_)
        refine wl_fare kn ?_
        simp (disch := omega) only [fx, pv, kx]
        refine wl_nil (κ11 _ _ ?_)
        refine lt_region ?_
        refine lo_give rfl (g_move _ (.chan (some c)) rfl ?_)
        try simp only [nz]
        refine lo_give rfl (g_move _ (.string (t)) rfl ?_)
        try simp only [nz]
        refine lo_send hbk rfl rfl hM (e2.out) ?_
        intro w12 h_
        replace hM : Ms w0 w12 (ch c (x) ((ts.drop (j + 1) ++ ts.take j).map Value.string ++ [.string (t)]) :: blk (p) ([.int .i64 (((x : Nat) : Int)), .int .i64 (y), .map (some m), .int .i64 (d)]) 130 :: mp kI m (es) :: R) := h_
        clear h_
        try simp only [nz]
        refine lo_nil ?_
        refine lt_over ?_
        refine lt_wp fun _ κ13 => ?_
        refine wl_region (wl_fare kn ?_)
        simp (disch := omega) only [fx, pv, kx, ((e1.out) : IntKind.i64.wrap ((((j : Nat) : Int)) + (1)) = ((j + 1 : Nat) : Int))]
        refine wl_nil (κ13 _ _ ?_)
        have h9 : Ms w0 w12 (blk (p) ([.int .i64 (((x : Nat) : Int)), .int .i64 (y), .map (some m), .int .i64 (d)]) 130 :: mp kI m (es) :: ch c (x) ((ts.drop (j + 1) ++ ts.take j).map Value.string ++ [.string t]) :: R) := (((hM.up 0 rfl).up 2 rfl).up 2 rfl)
        rw [show (ts.drop (j + 1) ++ ts.take j).map Value.string ++ [Value.string t] = (ts.drop (j + 1) ++ ts.take (j + 1)).map Value.string by rw [htk]; simp] at h9
        exact hrec (n - 1) _ _ (by have := hjl.out; omega) ⟨j + 1, true, _, _, _, _, _, _, _, _, _, _, _, _, _, rfl, by have := hjl.out; omega, by rw [htk]; unfold isin at *; rw [List.any_append, ← hhs]; simp [hts], h9⟩
      · skip
        refine lt_seq ?_
        refine lt_wp fun _ κ14 => ?_
        refine wl_region (wl_fare kn ?_)
        simp (disch := omega) only [fx, pv, kx]
        refine wl_nil (κ14 _ _ ?_)
        refine lt_seq ?_
        refine lt_true rfl ?_
        refine lt_skip ?_
        refine lt_seq ?_
        refine lt_block ?_
        refine lt_seq ?_
        refine lt_region ?_
        refine lo_give rfl (g_move _ (.chan (some c)) rfl ?_)
        try simp only [nz]
        refine lo_recv hbk Tryz.underlying140 Tryz.zeroValue9 rfl (show Ms w0 w (ch c (x) (.string t :: (ts.drop (j + 1) ++ ts.take j).map Value.string) :: blk (p) ([.int .i64 (((x : Nat) : Int)), .int .i64 (y), .map (some m), .int .i64 (d)]) 130 :: mp kI m (es) :: R) from (hM.up 2 rfl)) ?_
        intro w15 h_
        replace hM : Ms w0 w15 (ch c (x) ((ts.drop (j + 1) ++ ts.take j).map Value.string) :: blk (p) ([.int .i64 (((x : Nat) : Int)), .int .i64 (y), .map (some m), .int .i64 (d)]) 130 :: mp kI m (es) :: R) := h_
        clear h_
        try simp only [nz]
        refine lo_give rfl (g_assign _ (.string (t)) rfl ?_)
        try simp only [nz]
        refine lo_nil ?_
        refine lt_seq ?_
        refine lt_wp fun _ κ16 => ?_
        refine wl_region (wl_fare kn ?_)
        simp (disch := omega) only [fx, pv, kx]
        refine wl_give rfl (g_steq 9 _ _ (t) (s) false rfl rfl (decide_eq_false hts) ?_)
        refine wl_fare kn ?_
        simp (disch := omega) only [fx, pv, kx]
        refine wl_nil (κ16 _ _ ?_)
        refine lt_region ?_
        refine lo_give rfl (g_move _ (.chan (some c)) rfl ?_)
        try simp only [nz]
        refine lo_give rfl (g_move _ (.string (t)) rfl ?_)
        try simp only [nz]
        refine lo_send hbk rfl rfl hM (e2.out) ?_
        intro w17 h_
        replace hM : Ms w0 w17 (ch c (x) ((ts.drop (j + 1) ++ ts.take j).map Value.string ++ [.string (t)]) :: blk (p) ([.int .i64 (((x : Nat) : Int)), .int .i64 (y), .map (some m), .int .i64 (d)]) 130 :: mp kI m (es) :: R) := h_
        clear h_
        try simp only [nz]
        refine lo_nil ?_
        refine lt_over ?_
        refine lt_wp fun _ κ18 => ?_
        refine wl_region (wl_fare kn ?_)
        simp (disch := omega) only [fx, pv, kx, ((e1.out) : IntKind.i64.wrap ((((j : Nat) : Int)) + (1)) = ((j + 1 : Nat) : Int))]
        refine wl_nil (κ18 _ _ ?_)
        have h9 : Ms w0 w17 (blk (p) ([.int .i64 (((x : Nat) : Int)), .int .i64 (y), .map (some m), .int .i64 (d)]) 130 :: mp kI m (es) :: ch c (x) ((ts.drop (j + 1) ++ ts.take j).map Value.string ++ [.string t]) :: R) := (((hM.up 0 rfl).up 2 rfl).up 2 rfl)
        rw [show (ts.drop (j + 1) ++ ts.take j).map Value.string ++ [Value.string t] = (ts.drop (j + 1) ++ ts.take (j + 1)).map Value.string by rw [htk]; simp] at h9
        exact hrec (n - 1) _ _ (by have := hjl.out; omega) ⟨j + 1, false, _, _, _, _, _, _, _, _, _, _, _, _, _, rfl, by have := hjl.out; omega, by rw [htk]; unfold isin at *; rw [List.any_append, ← hhs]; simp [hts], h9⟩
  · have hjn : j = ts.length := by omega
    subst hjn
    have e5 : (ts.drop ts.length ++ ts.take ts.length) = ts := by simp
    rw [e5] at hM
    refine lt_seq ?_
    refine lt_wp fun _ κ19 => ?_
    refine wl_region (wl_fare kn ?_)
    simp (disch := omega) only [fx, pv, kx]
    refine wl_nil (κ19 _ _ ?_)
    refine lt_seq ?_
    refine lt_false rfl ?_
    refine lt_exit rfl ?_
    refine lt_seq ?_
    refine lt_wp fun _ κ20 => ?_
    refine wl_region (wl_fare kn ?_)
    simp (disch := omega) only [fx, pv, kx]
    refine wl_nil (κ20 _ _ ?_)
    rw [List.take_length] at hhs
    subst hhs
    refine lt_ret hbf hbk Tryz.func87 rfl (results_tmp rfl _ _ _) ⟨rfl, (((hM.up 2 rfl).up 2 rfl).up 2 rfl)⟩
set_option maxHeartbeats 4000000 in
theorem has_out {w0 w : World} {R : List HP} {p m x : Nat} {y d i : Int} {s : ByteArray} {es : List (Int × Value)} (hM : Ms w0 w (blk (p) ([.int .i64 (((x : Nat) : Int)), .int .i64 (y), .map (some m), .int .i64 (d)]) 130 :: mp kI m (es) :: R)) (hl : mlook es i = none) : Calls Tryz.prog 87 #[.pointer (some ⟨p, 0, none⟩), .int .i64 i, .string s] w fun e w' => e = .returned (.bool false) ∧ Ms w0 w' (blk (p) ([.int .i64 (((x : Nat) : Int)), .int .i64 (y), .map (some m), .int .i64 (d)]) 130 :: mp kI m (es) :: R) := by
  refine calls_of_lt Tryz.func87 rfl (fun b cs hbf hbk => ?_)
  simp only [Tryz.ntmps87, List.size_toArray, List.length_cons, List.length_nil, Nat.reduceAdd, Nat.reduceSub, Array.replicate_succ, Array.replicate_zero, List.push_toArray, List.append_toArray, List.nil_append, List.cons_append]
  refine lt_seq ?_
  refine lt_wp fun _ κ1 => ?_
  refine wl_region (wl_fare kn ?_)
  simp (disch := omega) only [fx, pv, kx]
  refine wl_nil (κ1 _ _ ?_)
  refine lt_seq ?_
  refine lt_wp fun _ κ2 => ?_
  refine wl_region (wl_fare kn ?_)
  simp (disch := omega) only [fx, pv, kx, (hM.get 0 rfl).cell 2 (.map (some m)) rfl]
  refine wl_give rfl (g_look keyI Tryz.underlying128 Tryz.zeroValue140 _ _ (i) (.chan none) rfl rfl (show Ms w0 _ (mp kI m (es) :: blk (p) ([.int .i64 (((x : Nat) : Int)), .int .i64 (y), .map (some m), .int .i64 (d)]) 130 :: R) from (hM.up 1 rfl)) (by rw [hl]; rfl) ?_)
  refine wl_fare kn ?_
  simp (disch := omega) only [fx, pv, kx]
  refine wl_nil (κ2 _ _ ?_)
  refine lt_seq ?_
  refine lt_seq ?_
  refine lt_wp fun _ κ3 => ?_
  refine wl_region (wl_fare kn ?_)
  simp (disch := omega) only [fx, pv, kx]
  refine wl_give rfl (g_lenC0 _ rfl ?_)
  refine wl_fare kn ?_
  simp (disch := omega) only [fx, pv, kx]
  refine wl_nil (κ3 _ _ ?_)
  refine lt_block ?_
  refine lt_loop ?_
  refine lt_seq ?_
  refine lt_wp fun _ κ4 => ?_
  refine wl_region (wl_fare kn ?_)
  simp (disch := omega) only [fx, pv, kx]
  refine wl_nil (κ4 _ _ ?_)
  refine lt_seq ?_
  refine lt_false rfl ?_
  refine lt_exit rfl ?_
  refine lt_seq ?_
  refine lt_wp fun _ κ5 => ?_
  refine wl_region (wl_fare kn ?_)
  simp (disch := omega) only [fx, pv, kx]
  refine wl_nil (κ5 _ _ ?_)
  refine lt_ret hbf hbk Tryz.func87 rfl (results_tmp rfl _ _ _) ⟨rfl, hM⟩
end Go.Proofs.YtcclcemdodoiiaaGreatDoor
