/- What Take answers, where the interval's channel is known, or is none. What Size and Drop answer: loops over a map, in whatever order it is gone through. -/
import Derived.Test.YtcclcemdodoiiaaGreatDoorQRunG
import Derived.Test.YtcclcemdodoiiaaGreatDoorQBf4
namespace Go.Proofs.YtcclcemdodoiiaaGreatDoor
set_option maxRecDepth 10000
open Go Go.RowKit
set_option linter.unusedVariables false
set_option linter.unusedSimpArgs false

set_option maxHeartbeats 4000000 in
theorem take_in {w0 w : World} {R : List HP} {p m x : Nat} {y d i : Int} {es : List (Int × Value)} {c : Nat} {ts : List ByteArray} (hM : Ms w0 w (blk (p) ([.int .i64 (((x : Nat) : Int)), .int .i64 (y), .map (some m), .int .i64 (d)]) 130 :: mp kI m (es) :: ch c (x) ((ts).map Value.string) :: R)) (hl : mlook es i = some (.chan (some c))) (hx : ts.length ≤ 10000) : Calls Tryz.prog 93 #[.pointer (some ⟨p, 0, none⟩), .int .i64 i] w fun e w' => ∃ v, e = .returned v ∧ Ms w0 w' (row 9 1 v ts.length ((ts).map Value.string) :: blk (p) ([.int .i64 (((x : Nat) : Int)), .int .i64 (y), .map (some m), .int .i64 (d)]) 130 :: mp kI m (mdel es i) :: R) := by
  refine calls_of_ltv Tryz.func93 rfl (fun b cs hbf hbk => ?_)
  simp only [Tryz.ntmps93, List.size_toArray, List.length_cons, List.length_nil, Nat.reduceAdd, Nat.reduceSub, Array.replicate_succ, Array.replicate_zero, List.push_toArray, List.append_toArray, List.nil_append, List.cons_append]
  refine lt_seq ?_
  refine lt_wp fun _ κ1 => ?_
  refine wl_region (wl_fare kn ?_)
  simp (disch := omega) only [fx, pv, kx]
  refine wl_nil (κ1 _ _ ?_)
  refine lt_seq ?_
  refine lt_wp fun _ κ2 => ?_
  refine wl_region (wl_fare kn ?_)
  simp (disch := omega) only [fx, pv, kx]
  refine wl_nil (κ2 _ _ ?_)
  refine lt_seq ?_
  refine lt_wp fun _ κ3 => ?_
  refine wl_region (wl_fare kn ?_)
  simp (disch := omega) only [fx, pv, kx, (hM.get 0 rfl).cell 2 (.map (some m)) rfl]
  refine wl_give rfl (g_look keyI Tryz.underlying128 Tryz.zeroValue140 _ _ (i) (.chan (some c)) rfl rfl (show Ms w0 _ (mp kI m (es) :: blk (p) ([.int .i64 (((x : Nat) : Int)), .int .i64 (y), .map (some m), .int .i64 (d)]) 130 :: ch c (x) ((ts).map Value.string) :: R) from (hM.up 1 rfl)) (by rw [hl]; rfl) ?_)
  refine wl_fare kn ?_
  simp (disch := omega) only [fx, pv, kx]
  refine wl_nil (κ3 _ _ ?_)
  refine lt_seq ?_
  refine lt_seq ?_
  refine lt_wp fun _ κ4 => ?_
  refine wl_region (wl_fare kn ?_)
  simp (disch := omega) only [fx, pv, kx]
  refine wl_give rfl (g_lenC _ (((ts.length : Nat) : Int)) rfl (show Ms w0 _ (ch c (x) ((ts).map Value.string) :: blk (p) ([.int .i64 (((x : Nat) : Int)), .int .i64 (y), .map (some m), .int .i64 (d)]) 130 :: mp kI m (es) :: R) from (hM.up 2 rfl)) (by simp) ?_)
  refine wl_fare kn ?_
  simp (disch := omega) only [fx, pv, kx]
  refine wl_nil (κ4 _ _ ?_)
  refine lt_block ?_
  have h9 : Ms w0 w (row 9 1 (.slice none 0 0) (0) ([]) :: blk (p) ([.int .i64 (((x : Nat) : Int)), .int .i64 (y), .map (some m), .int .i64 (d)]) 130 :: mp kI m (es) :: ch c (x) ((ts).map Value.string) :: R) := row_nil hM
  clear hM
  refine lt_rounds (fun n a w => ∃ (j : Nat) (v : Value) (t16 t17 t18 t19 t20 t21 t22 : Value), a = ⟨#[.pointer (some ⟨p, 0, none⟩), .int .i64 (i), undef, undef, .slice none (0) (0), v, .chan (some c), .pointer (some ⟨p, 0, none⟩), .pointer (some ⟨p, 0, none⟩), .pointer (some ⟨p, 2, none⟩), .map (some m), .int .i64 (i), .chan (some c), .chan (some c), .int .i64 (((ts.length : Nat) : Int)), .int .i64 ((j : Nat) : Int), t16, t17, t18, t19, t20, t21, t22, undef, undef, undef, undef, undef, undef], []⟩ ∧ j + n = ts.length ∧ Ms w0 w (row 9 1 v (j) ((ts.take j).map Value.string) :: blk (p) ([.int .i64 (((x : Nat) : Int)), .int .i64 (y), .map (some m), .int .i64 (d)]) 130 :: mp kI m (es) :: ch c (x) ((ts.drop j).map Value.string) :: R)) ts.length ⟨0, .slice none 0 0, _, _, _, _, _, _, _, rfl, Nat.zero_add _, by simpa using h9⟩ ?_
  clear h9
  rintro n a w hrec ⟨j, v, t16, t17, t18, t19, t20, t21, t22, rfl, hj, hM⟩
  by_cases hlt : ((j : Nat) : Int) < ((ts.length : Nat) : Int)
  · obtain ⟨t, ht⟩ : ∃ t, ts[j]? = some t := ⟨_, List.getElem?_eq_getElem (by omega)⟩
    have hjl : Shut (j < ts.length) := ⟨by omega⟩
    have hd : ts.drop j = t :: ts.drop (j + 1) := by rw [List.drop_eq_getElem_cons hjl.out]; congr 1; rw [List.getElem?_eq_getElem hjl.out] at ht; exact Option.some.inj ht
    have htk : ts.take (j + 1) = ts.take j ++ [t] := by rw [List.take_add_one, ht]; rfl
    have e1 : Shut (IntKind.i64.wrap (((j : Nat) : Int) + 1) = ((j + 1 : Nat) : Int)) := ⟨by rw [wrap_id _ (by omega) (by omega)]; omega⟩
    replace hM : Ms w0 w (row 9 1 v (j) ((ts.take j).map Value.string) :: blk (p) ([.int .i64 (((x : Nat) : Int)), .int .i64 (y), .map (some m), .int .i64 (d)]) 130 :: mp kI m (es) :: ch c (x) (.string t :: (ts.drop (j + 1)).map Value.string) :: R) := by rw [hd, List.map_cons] at hM; exact hM
    refine lt_seq ?_
    refine lt_wp fun _ κ5 => ?_
    refine wl_region (wl_fare kn ?_)
    simp (disch := omega) only [fx, pv, kx]
    refine wl_nil (κ5 _ _ ?_)
    refine lt_seq ?_
    refine lt_true rfl ?_
    refine lt_skip ?_
    refine lt_seq ?_
    refine lt_block ?_
    refine lt_region ?_
    refine lo_give rfl (g_move _ (v) rfl ?_)
    try simp only [nz]
    refine lo_give rfl (g_move _ (.chan (some c)) rfl ?_)
    try simp only [nz]
    refine lo_recv hbk Tryz.underlying140 Tryz.zeroValue9 rfl (show Ms w0 w (ch c (x) (.string t :: (ts.drop (j + 1)).map Value.string) :: row 9 1 v (j) ((ts.take j).map Value.string) :: blk (p) ([.int .i64 (((x : Nat) : Int)), .int .i64 (y), .map (some m), .int .i64 (d)]) 130 :: mp kI m (es) :: R) from (hM.up 3 rfl)) ?_
    intro w6 h_
    replace hM : Ms w0 w6 (ch c (x) ((ts.drop (j + 1)).map Value.string) :: row 9 1 v (j) ((ts.take j).map Value.string) :: blk (p) ([.int .i64 (((x : Nat) : Int)), .int .i64 (y), .map (some m), .int .i64 (d)]) 130 :: mp kI m (es) :: R) := h_
    clear h_
    try simp only [nz]
    refine lo_give rfl (g_bs1 59 9 Tryz.underlying59 szof9 _ Tryz.zeroValue9 rfl _ (.string (t)) rfl rfl hM ?_)
    intro w7 h_
    replace hM : Ms w0 w7 (blk (w6.heap.size) [.string (t)] 9 :: ch c (x) ((ts.drop (j + 1)).map Value.string) :: row 9 1 v (j) ((ts.take j).map Value.string) :: blk (p) ([.int .i64 (((x : Nat) : Int)), .int .i64 (y), .map (some m), .int .i64 (d)]) 130 :: mp kI m (es) :: R) := h_
    clear h_
    try simp only [nz]
    refine lo_give rfl (g_apS _ _ (v) (j) ((ts.take j).map Value.string) (w6.heap.size) 1 ([.string (t)]) 9 rfl rfl (show Ms w0 w7 (row 9 1 v (j) ((ts.take j).map Value.string) :: blk (w6.heap.size) [.string (t)] 9 :: ch c (x) ((ts.drop (j + 1)).map Value.string) :: blk (p) ([.int .i64 (((x : Nat) : Int)), .int .i64 (y), .map (some m), .int .i64 (d)]) 130 :: mp kI m (es) :: R) from (hM.up 2 rfl)) rfl (by simp [Value.oneCell']) (by have := hjl.out; omega) ?_)
    intro v9 w8 h_
    replace hM : Ms w0 w8 (row 9 1 v9 (j + 1) ((ts.take j).map Value.string ++ [.string (t)]) :: blk (w6.heap.size) [.string (t)] 9 :: ch c (x) ((ts.drop (j + 1)).map Value.string) :: blk (p) ([.int .i64 (((x : Nat) : Int)), .int .i64 (y), .map (some m), .int .i64 (d)]) 130 :: mp kI m (es) :: R) := h_
    clear h_
    try simp only [nz]
    refine lo_give rfl (g_assign _ (v9) rfl ?_)
    try simp only [nz]
    refine lo_nil ?_
    refine lt_over ?_
    refine lt_wp fun _ κ10 => ?_
    refine wl_region (wl_fare kn ?_)
    simp (disch := omega) only [fx, pv, kx, ((e1.out) : IntKind.i64.wrap ((((j : Nat) : Int)) + (1)) = ((j + 1 : Nat) : Int))]
    refine wl_nil (κ10 _ _ ?_)
    have h9 : Ms w0 w8 (row 9 1 v9 (j + 1) ((ts.take j).map Value.string ++ [.string (t)]) :: blk (p) ([.int .i64 (((x : Nat) : Int)), .int .i64 (y), .map (some m), .int .i64 (d)]) 130 :: mp kI m (es) :: ch c (x) ((ts.drop (j + 1)).map Value.string) :: blk (w6.heap.size) [.string (t)] 9 :: R) := ((((hM.up 2 rfl).up 4 rfl).up 4 rfl).up 3 rfl)
    have h10 : Ms w0 w8 (row 9 1 v9 (j + 1) ((ts.take j).map Value.string ++ [.string (t)]) :: blk (p) ([.int .i64 (((x : Nat) : Int)), .int .i64 (y), .map (some m), .int .i64 (d)]) 130 :: mp kI m (es) :: ch c (x) ((ts.drop (j + 1)).map Value.string) :: R) := h9.erase 4
    rw [show (ts.take j).map Value.string ++ [Value.string (t)] = (ts.take (j + 1)).map Value.string by rw [htk]; simp] at h10
    exact hrec (n - 1) _ _ (by have := hjl.out; omega) ⟨j + 1, _, _, _, _, _, _, _, _, rfl, by have := hjl.out; omega, h10⟩
  · have hjn : j = ts.length := by omega
    subst hjn
    rw [List.take_length, List.drop_length] at hM
    replace hM : Ms w0 w (row 9 1 v (ts.length) ((ts).map Value.string) :: blk (p) ([.int .i64 (((x : Nat) : Int)), .int .i64 (y), .map (some m), .int .i64 (d)]) 130 :: mp kI m (es) :: ch c (x) ([]) :: R) := hM
    refine lt_seq ?_
    refine lt_wp fun _ κ11 => ?_
    refine wl_region (wl_fare kn ?_)
    simp (disch := omega) only [fx, pv, kx]
    refine wl_nil (κ11 _ _ ?_)
    refine lt_seq ?_
    refine lt_false rfl ?_
    refine lt_exit rfl ?_
    refine lt_seq ?_
    refine lt_wp fun _ κ12 => ?_
    refine wl_region (wl_fare kn ?_)
    simp (disch := omega) only [fx, pv, kx, (hM.get 1 rfl).cell 2 (.map (some m)) rfl]
    refine wl_give rfl (g_mdel keyI Tryz.underlying128 _ _ (i) rfl rfl (show Ms w0 w (mp kI m (es) :: row 9 1 v (ts.length) ((ts).map Value.string) :: blk (p) ([.int .i64 (((x : Nat) : Int)), .int .i64 (y), .map (some m), .int .i64 (d)]) 130 :: ch c (x) ([]) :: R) from (hM.up 2 rfl)) fun w13 h_ => ?_)
    replace hM : Ms w0 w13 (mp kI m (mdel (es) (i)) :: row 9 1 v (ts.length) ((ts).map Value.string) :: blk (p) ([.int .i64 (((x : Nat) : Int)), .int .i64 (y), .map (some m), .int .i64 (d)]) 130 :: ch c (x) ([]) :: R) := h_
    clear h_
    try simp only [nz]
    refine wl_nil (κ12 _ _ ?_)
    refine lt_seq ?_
    refine lt_wp fun _ κ14 => ?_
    refine wl_region (wl_fare kn ?_)
    simp (disch := omega) only [fx, pv, kx]
    refine wl_nil (κ14 _ _ ?_)
    have h9 : Ms w0 w13 (row 9 1 v (ts.length) ((ts).map Value.string) :: blk (p) ([.int .i64 (((x : Nat) : Int)), .int .i64 (y), .map (some m), .int .i64 (d)]) 130 :: mp kI m (mdel (es) (i)) :: ch c (x) ([]) :: R) := (((hM.up 0 rfl).up 2 rfl).up 2 rfl)
    have h10 : Ms w0 w13 (row 9 1 v (ts.length) ((ts).map Value.string) :: blk (p) ([.int .i64 (((x : Nat) : Int)), .int .i64 (y), .map (some m), .int .i64 (d)]) 130 :: mp kI m (mdel (es) (i)) :: R) := h9.erase 3
    refine lt_ret (v := v) hbf hbk Tryz.func93 rfl ((results_tmp (t := 4) rfl _ _ _).trans rfl) ⟨_, rfl, h10⟩
set_option maxHeartbeats 4000000 in
theorem take_out {w0 w : World} {R : List HP} {p m x : Nat} {y d i : Int} {es : List (Int × Value)} (hM : Ms w0 w (blk (p) ([.int .i64 (((x : Nat) : Int)), .int .i64 (y), .map (some m), .int .i64 (d)]) 130 :: mp kI m (es) :: R)) (hl : mlook es i = none) : Calls Tryz.prog 93 #[.pointer (some ⟨p, 0, none⟩), .int .i64 i] w fun e w' => ∃ v, e = .returned v ∧ Ms w0 w' (row 9 1 v 0 ([]) :: blk (p) ([.int .i64 (((x : Nat) : Int)), .int .i64 (y), .map (some m), .int .i64 (d)]) 130 :: mp kI m (mdel es i) :: R) := by
  refine calls_of_ltv Tryz.func93 rfl (fun b cs hbf hbk => ?_)
  simp only [Tryz.ntmps93, List.size_toArray, List.length_cons, List.length_nil, Nat.reduceAdd, Nat.reduceSub, Array.replicate_succ, Array.replicate_zero, List.push_toArray, List.append_toArray, List.nil_append, List.cons_append]
  refine lt_seq ?_
  refine lt_wp fun _ κ1 => ?_
  refine wl_region (wl_fare kn ?_)
  simp (disch := omega) only [fx, pv, kx]
  refine wl_nil (κ1 _ _ ?_)
  refine lt_seq ?_
  refine lt_wp fun _ κ2 => ?_
  refine wl_region (wl_fare kn ?_)
  simp (disch := omega) only [fx, pv, kx]
  refine wl_nil (κ2 _ _ ?_)
  refine lt_seq ?_
  refine lt_wp fun _ κ3 => ?_
  refine wl_region (wl_fare kn ?_)
  simp (disch := omega) only [fx, pv, kx, (hM.get 0 rfl).cell 2 (.map (some m)) rfl]
  refine wl_give rfl (g_look keyI Tryz.underlying128 Tryz.zeroValue140 _ _ (i) (.chan none) rfl rfl (show Ms w0 _ (mp kI m (es) :: blk (p) ([.int .i64 (((x : Nat) : Int)), .int .i64 (y), .map (some m), .int .i64 (d)]) 130 :: R) from (hM.up 1 rfl)) (by rw [hl]; rfl) ?_)
  refine wl_fare kn ?_
  simp (disch := omega) only [fx, pv, kx]
  refine wl_nil (κ3 _ _ ?_)
  refine lt_seq ?_
  refine lt_seq ?_
  refine lt_wp fun _ κ4 => ?_
  refine wl_region (wl_fare kn ?_)
  simp (disch := omega) only [fx, pv, kx]
  refine wl_give rfl (g_lenC0 _ rfl ?_)
  refine wl_fare kn ?_
  simp (disch := omega) only [fx, pv, kx]
  refine wl_nil (κ4 _ _ ?_)
  refine lt_block ?_
  refine lt_loop ?_
  refine lt_seq ?_
  refine lt_wp fun _ κ5 => ?_
  refine wl_region (wl_fare kn ?_)
  simp (disch := omega) only [fx, pv, kx]
  refine wl_nil (κ5 _ _ ?_)
  refine lt_seq ?_
  refine lt_false rfl ?_
  refine lt_exit rfl ?_
  refine lt_seq ?_
  refine lt_wp fun _ κ6 => ?_
  refine wl_region (wl_fare kn ?_)
  simp (disch := omega) only [fx, pv, kx, (hM.get 0 rfl).cell 2 (.map (some m)) rfl]
  refine wl_give rfl (g_mdel keyI Tryz.underlying128 _ _ (i) rfl rfl (show Ms w0 w (mp kI m (es) :: blk (p) ([.int .i64 (((x : Nat) : Int)), .int .i64 (y), .map (some m), .int .i64 (d)]) 130 :: R) from (hM.up 1 rfl)) fun w7 h_ => ?_)
  replace hM : Ms w0 w7 (mp kI m (mdel (es) (i)) :: blk (p) ([.int .i64 (((x : Nat) : Int)), .int .i64 (y), .map (some m), .int .i64 (d)]) 130 :: R) := h_
  clear h_
  try simp only [nz]
  refine wl_nil (κ6 _ _ ?_)
  refine lt_seq ?_
  refine lt_wp fun _ κ8 => ?_
  refine wl_region (wl_fare kn ?_)
  simp (disch := omega) only [fx, pv, kx]
  refine wl_nil (κ8 _ _ ?_)
  refine lt_ret (v := .slice none 0 0) hbf hbk Tryz.func93 rfl ((results_tmp (t := 4) rfl _ _ _).trans rfl) ⟨_, rfl, row_nil ((hM.up 0 rfl).up 1 rfl)⟩
end Go.Proofs.YtcclcemdodoiiaaGreatDoor
namespace Go.Proofs.YtcclcemdodoiiaaGreatDoor
set_option maxRecDepth 10000
open Go Go.RowKit
set_option linter.unusedVariables false
set_option linter.unusedSimpArgs false

section
variable {P : Program} {Q : Exit → Act → World → Prop} {a : Act} {w : World}
/-- A loop of so many rounds at most, among plain statements. -/
theorem wp_rounds {c : Code} (I : Nat → Act → World → Prop) (n : Nat) (h0 : I n a w) (h : ∀ n a w, I n a w → c.wp P (Exit.then (fun a' w' => ∃ m, m < n ∧ I m a' w') Q) a w) : (Code.loop c).wp P Q a w := by
  have least : ∀ n a w, I n a w → ∃ m, I m a w ∧ ∀ m', I m' a w → m ≤ m' := by
    intro n
    induction n using Nat.strongRecOn with
    | _ n ih =>
      intro a w hn
      by_cases hx : ∃ m, m < n ∧ I m a w
      · obtain ⟨m, h1, h2⟩ := hx
        exact ih m h1 a w h2
      · exact ⟨n, hn, fun m' hm => Nat.le_of_not_lt fun hl => hx ⟨m', hl, hm⟩⟩
  have key : ∀ a w, ∃ μ : Nat, (∃ n, I n a w) → I μ a w ∧ ∀ m', I m' a w → μ ≤ m' := fun a w => by
    by_cases hx : ∃ n, I n a w
    · obtain ⟨n, hn⟩ := hx
      obtain ⟨m, h1, h2⟩ := least n a w hn
      exact ⟨m, fun _ => ⟨h1, h2⟩⟩
    · exact ⟨0, fun h => absurd h hx⟩
  have hμ : ∃ μ : Act → World → Nat, ∀ a w, (∃ n, I n a w) → I (μ a w) a w ∧ ∀ m', I m' a w → μ a w ≤ m' :=
    ⟨fun a w => Classical.choose (key a w), fun a w => Classical.choose_spec (key a w)⟩
  obtain ⟨μ, hμ⟩ := hμ
  refine wp_loop (fun a w => ∃ n, I n a w) μ ⟨n, h0⟩ fun a w hI => ?_
  refine wp_mono (h _ a w (hμ a w hI).1) fun e a' w' hq => ?_
  cases e with
  | normal =>
    obtain ⟨m, h1, h2⟩ := hq
    exact ⟨⟨m, h2⟩, Nat.lt_of_le_of_lt ((hμ a' w' ⟨m, h2⟩).2 m h2) h1⟩
  | _ => exact hq
end
section
variable {w0 w : World} {L : List HP}
theorem ch_mem {c cap : Nat} {vs : List Value} (h : Ms w0 w L) (hm : ch c cap vs ∈ L) : Chn w c cap vs := by
  obtain ⟨A, B, rfl⟩ := List.append_of_mem hm
  exact ch_get (h.perm List.perm_middle)
theorem star_sub {A B : List HP} (h : B.Sublist A) : ∀ {F : Nat → Prop} {w : World}, Star A F w → ∃ F', (∀ k, F' k → F k) ∧ Star B F' w := by
  induction h with
  | slnil => exact fun h => ⟨_, fun _ h => h, h⟩
  | cons x _ ih =>
    rintro F w ⟨F1, F2, h1, h2, h3, h4⟩
    obtain ⟨F', h5, h6⟩ := ih h2
    exact ⟨F', fun k hk => (h3 k).2 (.inr (h5 k hk)), h6⟩
  | cons_cons x _ ih =>
    rintro F w ⟨F1, F2, h1, h2, h3, h4⟩
    obtain ⟨F', h5, h6⟩ := ih h2
    exact ⟨fun k => F1 k ∨ F' k, fun k hk => (h3 k).2 (hk.imp id (h5 k)), F1, F', h1, h6, fun k => Iff.rfl, fun k a b => h4 k a (h5 k b)⟩
theorem Ms.sub {A B : List HP} (hs : B.Sublist A) (h : Ms w0 w A) : Ms w0 w B := by
  obtain ⟨F, h1, h2⟩ := h.mem
  obtain ⟨F', h3, h4⟩ := star_sub hs h1
  exact ⟨h.below, F', h4, fun k hk => h2 k (h3 k hk)⟩
end
theorem chs_mem {each : Nat} {L : List Thg} {E : List (Int × Nat)} {i : Int} {c : Nat} (h : (i, c) ∈ E) : ch c each ((ofI i L).map Value.string) ∈ chs each L E := List.mem_map.2 ⟨(i, c), h, rfl⟩
theorem g_lenQ {w : World} {a : Act} {K : Value → World → Prop} {dst : Option Tmp} {ty : TypeId} {pos : String} {aft : Array Edge} {gd : Option (Nat × Bool)} {c cap : Nat} {vs : List Value} (x : Operand) (r : Int) (hx : a.eval x = .chan (some c)) (hM : Chn w c cap vs) (hr : ((vs.length : Nat) : Int) = r) (hk : K (.int .i64 r) w) : gives Tryz.prog ⟨dst, .call { callee := .builtin .len, args := #[x], argTypes := #[140] }, ty, pos, aft, gd⟩ a w K := by
  obtain ⟨s, q, hc⟩ := hM
  refine g_val (.int .i64 r) w ?_ hk
  subst hr
  simp [execOp, resolve, invoke, builtin, hx, Builtin.len_, run_underlying Tryz.underlying140, run_getObj_chan _ _ hc, Result.andThen, goInt]
section
variable {L : List Thg}
theorem mdel_perm {l : List (Int × Value)} {y : Int × Value} (hn : (l.map (·.1)).Nodup) (hy : y ∈ l) : (l.map (·.1)).Perm (y.1 :: (mdel l y.1).map (·.1)) := by
  induction l with
  | nil => cases hy
  | cons q l ih =>
    simp only [List.map_cons, List.nodup_cons] at hn
    by_cases hq : q.1 = y.1
    · have h1 : mdel (q :: l) y.1 = l := by
        have := mdel_none (es := l) (x := y.1) (by rw [← hq]; exact hn.1)
        unfold mdel at *
        simp [hq, this]
      rw [h1, List.map_cons, hq]
    · have hyl : y ∈ l := by
        rcases List.mem_cons.1 hy with e | h
        · exact absurd (by rw [e]) hq
        · exact h
      have h1 : mdel (q :: l) y.1 = q :: mdel l y.1 := by unfold mdel; simp [hq]
      rw [h1, List.map_cons, List.map_cons]
      exact ((ih hn.2 hyl).cons q.1).trans (List.Perm.swap _ _ _)
theorem cnt_mdel {l : List (Int × Value)} {y : Int × Value} (hn : (l.map (·.1)).Nodup) (hy : y ∈ l) : cnt (l.map (·.1)) L = (ofI y.1 L).length + cnt ((mdel l y.1).map (·.1)) L := by
  rw [cnt_perm (mdel_perm hn hy), cnt_cons]
theorem mdel_sub {κ : Type} [DecidableEq κ] {l : List (κ × Value)} {k : κ} : ∀ z ∈ mdel l k, z ∈ l := fun z hz => (List.mem_filter.1 hz).1
theorem mdel_length {l : List (Int × Value)} {y : Int × Value} (hy : y ∈ l) : (mdel l y.1).length < l.length := by
  unfold mdel
  refine Nat.lt_of_le_of_ne (List.length_filter_le _ _) fun e => ?_
  have := List.filter_eq_self.1 (List.Sublist.eq_of_length List.filter_sublist e) y hy
  simp at this
end
set_option maxHeartbeats 4000000 in
theorem size_bo {w0 w : World} {R : List HP} {p m x : Nat} {y d : Int} {L : List Thg} {E : List (Int × Nat)} (hM : Ms w0 w (blk (p) ([.int .i64 (((x : Nat) : Int)), .int .i64 (y), .map (some m), .int .i64 (d)]) 130 :: mp kI m (E.map mv) :: (chs x L E ++ R))) (hB : Bu x E L) (hL : L.length ≤ 1000000) : Calls Tryz.prog 48 #[.pointer (some ⟨p, 0, none⟩)] w fun e w' => e = .returned (.int .i64 ((L.length : Nat) : Int)) ∧ Ms w0 w' (blk (p) ([.int .i64 (((x : Nat) : Int)), .int .i64 (y), .map (some m), .int .i64 (d)]) 130 :: mp kI m (E.map mv) :: (chs x L E ++ R)) := by
  have hkeys : ((E.map mv).map (·.1)).Nodup := by rw [List.map_map]; exact hB.keys
  have hall : 0 + cnt ((E.map mv).map (·.1)) L = L.length := by rw [Nat.zero_add, List.map_map]; exact cnt_all hB.keys (fun t ht => (hB.dom t.1).2 ⟨t, ht, rfl⟩)
  go_enter Tryz.func48, Tryz.ntmps48
  refine wp_seq_k fun _ κ1 => wl_region (wl_fare kn ?_)
  simp (disch := omega) only [fx, pv, kx]
  refine wl_nil (κ1 _ _ ?_)
  refine wp_seq_k fun _ κ2 => wl_region (wl_fare kn ?_)
  simp (disch := omega) only [fx, pv, kx]
  refine wl_nil (κ2 _ _ ?_)
  refine wp_seq_k fun _ κ3 => wp_seq_k fun _ κ4 => wl_region (wl_fare kn ?_)
  simp (disch := omega) only [fx, pv, kx, (hM.get 0 rfl).cell 2 (.map (some m)) rfl]
  refine wl_give rfl (g_range Tryz.underlying128 _ rfl (show Ms w0 w (mp kI m (E.map mv) :: blk (p) ([.int .i64 (((x : Nat) : Int)), .int .i64 (y), .map (some m), .int .i64 (d)]) 130 :: (chs x L E ++ R)) from (hM.up 1 rfl)) fun w5 h_ => ?_)
  replace hM : Ms w0 w5 (rg kI m (w.heap.size) (E.map mv) (E.map mv) (none) :: blk (p) ([.int .i64 (((x : Nat) : Int)), .int .i64 (y), .map (some m), .int .i64 (d)]) 130 :: (chs x L E ++ R)) := h_
  clear h_
  try simp only [nz]
  refine wl_nil (κ4 _ _ ?_)
  refine wp_block ?_
  refine wp_rounds (fun n a wr => ∃ (n0 : Nat) (left : List (Int × Value)) (cur : Option (Int × Value)) (t5 t11 t12 t13 t14 t15 t16 t17 t18 : Value), a = ⟨#[.pointer (some ⟨p, 0, none⟩), undef, .int .i64 (0), .int .i64 ((n0 : Nat) : Int), undef, t5, .pointer (some ⟨p, 0, none⟩), .pointer (some ⟨p, 0, none⟩), .pointer (some ⟨p, 2, none⟩), .map (some m), .pointer (some ⟨(w.heap.size), 0, none⟩), t11, t12, t13, t14, t15, t16, t17, t18, undef], []⟩ ∧ left.length = n ∧ (∀ z ∈ left, z ∈ E.map mv) ∧ (left.map (·.1)).Nodup ∧ n0 + cnt (left.map (·.1)) L = L.length ∧ Ms w0 wr (rg kI m (w.heap.size) (E.map mv) (left) (cur) :: blk (p) ([.int .i64 (((x : Nat) : Int)), .int .i64 (y), .map (some m), .int .i64 (d)]) 130 :: (chs x L E ++ R))) _ ⟨0, _, _, _, _, _, _, _, _, _, _, _, rfl, rfl, fun _ h => h, hkeys, hall, hM⟩ ?_
  clear hM
  rintro n a wr ⟨n0, left, cur, t5, t11, t12, t13, t14, t15, t16, t17, t18, rfl, hlen, hsub, hnd, hcnt, hM⟩
  by_cases hleft : left = []
  · subst hleft
    refine wp_seq_k fun _ κ6 => wl_region (wl_give rfl (g_next0 (enc := kI) _ rfl hM ?_))
    refine wl_fare kn ?_
    simp (disch := omega) only [fx, pv, kx]
    refine wl_nil (κ6 _ _ ?_)
    refine wp_seq_k fun _ κ7 => wp_cond_false rfl ?_
    refine wp_exit (κ3 _ _ ?_)
    refine wp_seq_k fun _ κ8 => wl_region (wl_fare kn ?_)
    simp (disch := omega) only [fx, pv, kx]
    refine wl_nil (κ8 _ _ ?_)
    refine wp_ret ?_
    have hn0 : n0 = L.length := by simpa [cnt] using hcnt
    subst hn0
    go_ret
    exact ⟨rfl, (rg_end ((hM.up 1 rfl).up 1 rfl)).up 1 rfl⟩
  · skip
    refine wp_seq_k fun _ κ9 => wl_region (wl_give rfl (g_next1 keyI _ rfl hM (hleft) ?_))
    intro y11 w10 hy h_
    replace hM : Ms w0 w10 (rg kI m (w.heap.size) (E.map mv) (mdel (left) y11.1) (some y11) :: blk (p) ([.int .i64 (((x : Nat) : Int)), .int .i64 (y), .map (some m), .int .i64 (d)]) 130 :: (chs x L E ++ R)) := h_
    clear h_
    try simp only [nz]
    obtain ⟨⟨j, c⟩, hE, rfl⟩ := List.mem_map.1 (hsub _ hy)
    replace hM : Ms w0 w10 (rg kI m (w.heap.size) (E.map mv) (mdel left j) (some (mv (j, c))) :: blk (p) ([.int .i64 (((x : Nat) : Int)), .int .i64 (y), .map (some m), .int .i64 (d)]) 130 :: (chs x L E ++ R)) := hM
    have hstep := cnt_mdel (L := L) hnd hy
    have hadd : Shut (IntKind.i64.wrap (((n0 : Nat) : Int) + (((ofI j L).length : Nat) : Int)) = ((n0 + (ofI j L).length : Nat) : Int)) := ⟨by have := ofI_le j L; rw [wrap_id _ (by omega) (by omega)]; omega⟩
    refine wl_fare kn ?_
    simp (disch := omega) only [fx, pv, kx]
    refine wl_nil (κ9 _ _ ?_)
    refine wp_seq_k fun _ κ12 => wp_cond_true rfl (wp_skip ?_)
    refine κ12 _ _ ?_
    refine wp_block (wp_seq_k fun _ κ13 => ?_)
    refine wl_region (wl_give rfl (g_entry _ ((mv (j, c))) rfl hM ?_))
    refine wl_fare kn ?_
    simp (disch := omega) only [fx, pv, kx]
    refine wl_nil (κ13 _ _ ?_)
    refine wl_region (wl_fare kn ?_)
    simp (disch := omega) only [fx, pv, kx]
    refine wl_give rfl (g_lenQ _ ((((ofI j L).length : Nat) : Int)) rfl (ch_mem hM (List.mem_cons_of_mem _ (List.mem_cons_of_mem _ (List.mem_append_left _ (chs_mem hE))))) (by simp) ?_)
    refine wl_fare kn ?_
    simp (disch := omega) only [fx, pv, kx, (((hadd.out)) : IntKind.i64.wrap ((((n0 : Nat) : Int)) + ((((ofI j L).length : Nat) : Int))) = ((n0 + (ofI j L).length : Nat) : Int))]
    refine wl_nil ?_
    (try simp only [Exit.then, Exit.inBlock, ↓reduceIte, Nat.reduceEqDiff])
    exact ⟨_, hlen ▸ mdel_length hy, n0 + (ofI j L).length, _, _, _, _, _, _, _, _, _, _, _, rfl, rfl, fun z hz => hsub z (mdel_sub z hz), mdel_keys hnd, by rw [hstep] at hcnt; exact (Nat.add_assoc _ _ _).trans hcnt, hM⟩
end Go.Proofs.YtcclcemdodoiiaaGreatDoor
