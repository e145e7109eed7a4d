/- What the program's Clock.Read answers; nothing that was there is changed. -/
import Derived.Test.YtpenicjlpiechaaDoorDr2
namespace Go.Proofs.YtpenicjlpiechaaDoor.Wd
set_option maxRecDepth 10000
open Go Go.RowKit
set_option linter.unusedVariables false

/-- What a clock shows. -/
def shw (f s r t : Int) : Int := s + (t - f) + (t - f) * r / 1000000000
/-- A number, if it has 64 bits, and an error. -/
def wh (z : Int) : Int × Int := if -9223372036854775808 ≤ z ∧ z < 9223372036854775808 then (z, 0) else (0, 6)
/-- What is read of a clock, and an error. -/
def rd (f s r t : Int) : Int × Int := if t < f then (0, 1) else if t - f < 9223372036854775808 then wh (shw f s r t) else (0, 6)
theorem wh_in (z : Int) (h : In64 z) : wh z = (z, 0) := by unfold In64 at h; unfold wh; rw [if_pos h]
theorem wh_out (z : Int) (h : ¬ In64 z) : wh z = (0, 6) := by unfold In64 at h; unfold wh; rw [if_neg h]
theorem wh_64 (z : Int) : In64 (wh z).1 := by
  unfold wh; split
  · assumption
  · unfold In64; omega
theorem rd_64 (f s r t : Int) : In64 (rd f s r t).1 := by
  unfold rd; split
  · unfold In64; omega
  · split
    · exact wh_64 _
    · unfold In64; omega
theorem int_any (z V E : Int) (w : World) (h : Hid (wh z = (V, E))) :
    Calls Tryd.prog 25 #[.agg (nl z).toArray] w fun e w' => e = .returned (.tuple #[.int .i64 V, .int .i64 E]) ∧ Below w.heap.size w w' := by
  have h := h.out
  by_cases hz : In64 z
  · rw [wh_in z hz] at h
    cases h
    exact int_ok z w hz
  · rw [wh_out z hz] at h
    cases h
    exact int_over z w hz
theorem part_128 (n r P Q : Int) (hn : In64 n) (hr : In64 r) (hP : n * r = P) (hQ : P / 1000000000 = Q) : In128 P ∧ -100000000000000000000000000000 ≤ Q ∧ Q ≤ 100000000000000000000000000000 := by
  have h := prod_bound n r hn hr
  rw [hP] at h
  unfold In128
  omega
/-- What a clock shows behind a span. -/
theorem shown_any (f s r n P Q Y : Int) (w : World) (hs : In64 s) (hn : In64 n) (hr : In64 r) (hP : n * r = P) (hQ : P / 1000000000 = Q) (hY : Hid (s + n + Q = Y)) :
    Calls Tryd.prog 44 #[.agg (cl f s r).toArray, .int .i64 n] w fun e w' => e = .returned (.agg (nl Y).toArray) ∧ Below w.heap.size w w' := by
  obtain ⟨iP, hq⟩ := part_128 n r P Q hn hr hP hQ
  have hY := hY.out
  have hs' := hs
  have hn' := hn
  unfold In64 at hs' hn'
  exact shown_l f s r n P Q _ (s + n) Y w hs hn hr hP iP hQ rfl (by unfold In128; omega) hs.to hn.to (by unfold In128; omega) (by unfold In128; omega) (by unfold In128; omega) (by show _ = _; omega) rfl hY

set_option maxRecDepth 10000 in
set_option maxHeartbeats 4000000 in
theorem read_lt (f s r t : Int) (w : World) (hf : In64 f) (hs : In64 s) (hr : In64 r) (ht : In64 t) (hl : t < f) :
    Calls Tryd.prog 16 #[.agg (cl f s r).toArray, .int .i64 t] w fun e w' => e = .returned (.tuple #[.int .i64 (0), .int .i64 (1)]) ∧ Below w.heap.size w w' := by
  go_enter Tryd.func16, Tryd.ntmps16
  go_wp2_with (first
    | ((with_reducible refine at_boxD 2 36 ?_); refine L_box 36 _ (cl (f) (s) (r)) rfl ?_; intro w1 t_ b_c; have l_c : w.heap.size ≤ w.heap.size := Nat.le_refl _; have hB : Below w.heap.size w w1 := t_.below (Below.refl _ _) (Nat.le_refl _); clear t_)
    | ((with_reducible refine at_loadD 10 2 ?_); refine L_cell2 _ (w.heap.size) 0 (cl (f) (s) (r)) 36 (.int .i64 (f)) rfl b_c (rfl) ?_)
    | ((with_reducible refine at_binD 11 ?_); refine L_give (by rfl) (g_ilss 2 _ _ .i64 _ _ true rfl rfl (decide_eq_true hl) ?_)))
  go_ret2
  exact ⟨rfl, hB⟩

set_option maxRecDepth 10000 in
set_option maxHeartbeats 4000000 in
theorem read_far (f s r t : Int) (w : World) (hf : In64 f) (hs : In64 s) (hr : In64 r) (ht : In64 t) (hl : ¬ t < f) (it : In128 t) (if_ : In128 f) (hd : ¬ In64 (t - f)) :
    Calls Tryd.prog 16 #[.agg (cl f s r).toArray, .int .i64 t] w fun e w' => e = .returned (.tuple #[.int .i64 (0), .int .i64 (6)]) ∧ Below w.heap.size w w' := by
  go_enter Tryd.func16, Tryd.ntmps16
  go_wp2_with (first
    | ((with_reducible refine at_boxD 2 36 ?_); refine L_box 36 _ (cl (f) (s) (r)) rfl ?_; intro w1 t_ b_c; have l_c : w.heap.size ≤ w.heap.size := Nat.le_refl _; have hB : Below w.heap.size w w1 := t_.below (Below.refl _ _) (Nat.le_refl _); clear t_)
    | ((with_reducible refine at_loadD 10 2 ?_); refine L_cell2 _ (w.heap.size) 0 (cl (f) (s) (r)) 36 (.int .i64 (f)) rfl b_c (rfl) ?_)
    | ((with_reducible refine at_binD 11 ?_); refine L_give (by rfl) (g_ilss 2 _ _ .i64 _ _ false rfl rfl (decide_eq_false hl) ?_))
    | ((with_reducible refine stop_region 3 ?_); intro X1 hX1))
  refine hX1.out ?_
  clear hX1
  refine wp_region_fixed (by kernel_rfl) (by kernel_rfl) [.int .i64 (t), .agg (nl (t)).toArray, .pointer (some ⟨w.heap.size, 0, none⟩), .int .i64 (f), .agg (nl (f)).toArray, .tuple #[.int .i64 (0), .int .i64 (6)], .tuple #[.int .i64 (0), .int .i64 (6)], .int .i64 (0), .int .i64 (6), .int .i64 (0), .int .i64 (6)] (by rfl) (fun w9 => Below w1.heap.size w1 w9) (Below.refl _ _).drew ?_ ?_
  · simp only [fullL, Act.put, List.setIfInBounds_toArray, List.set_cons_succ, List.set_cons_zero]
    refine ⟨?_, ?_, ?_, ?_, ?_, ?_, ?_, ?_, ?_, ?_, ?_, trivial⟩
    · exact fun w9 hw => gw rfl (g_move _ _ rfl ⟨rfl, hw⟩)
    · exact fun w9 hw => gw rfl (g_call 29 _ _ [.int .i64 (t)] (kf29 _ _) rfl (mono_val hw (of_any t w9 ht)))
    · exact fun w9 hw => gw rfl (g_fC0 _ _ rfl ⟨rfl, hw⟩)
    · exact fun w9 hw => gw rfl (g_cell2 _ (w.heap.size) 0 (cl (f) (s) (r)) 36 _ rfl (b_c.below hw b_c.lt) (rfl) ⟨rfl, hw⟩)
    · exact fun w9 hw => gw rfl (g_call 29 _ _ [.int .i64 (f)] (kf29 _ _) rfl (mono_val hw (of_any f w9 hf)))
    · exact fun w9 hw => gw rfl (g_call 43 _ _ [.agg (nl (t)).toArray, .agg (nl (f)).toArray] (kf43 _ _) rfl (mono_val hw (since_over t f w9 it if_ hd)))
    · exact fun w9 hw => gw rfl (g_move _ _ rfl ⟨rfl, hw⟩)
    · exact fun w9 hw => gw rfl (g_extract _ _ 0 _ rfl rfl ⟨rfl, hw⟩)
    · exact fun w9 hw => gw rfl (g_extract _ _ 1 _ rfl rfl ⟨rfl, hw⟩)
    · exact fun w9 hw => gw rfl (g_assign _ _ rfl ⟨rfl, hw⟩)
    · exact fun w9 hw => gw rfl (g_assign _ _ rfl ⟨rfl, hw⟩)
  simp only [fullL, Act.put, List.setIfInBounds_toArray, List.set_cons_succ, List.set_cons_zero]
  intro w2 hw
  replace b_c := b_c.below hw b_c.lt
  replace hB := hB.trans (hw.mono hB.size)
  clear hw
  go_wp2_with fail
  go_ret2
  exact ⟨rfl, hB⟩

set_option maxRecDepth 10000 in
set_option maxHeartbeats 4000000 in
theorem read_in (f s r t n P Q Y V E : Int) (w : World) (hf : In64 f) (hs : In64 s) (hr : In64 r) (ht : In64 t) (hl : ¬ t < f) (it : In128 t) (if_ : In128 f) (hn : Hid (t - f = n)) (jn : In64 n) (hP : Hid (n * r = P)) (hQ : Hid (P / 1000000000 = Q)) (hY : Hid (s + n + Q = Y)) (hV : Hid (wh Y = (V, E))) :
    Calls Tryd.prog 16 #[.agg (cl f s r).toArray, .int .i64 t] w fun e w' => e = .returned (.tuple #[.int .i64 (V), .int .i64 (E)]) ∧ Below w.heap.size w w' := by
  go_enter Tryd.func16, Tryd.ntmps16
  go_wp2_with (first
    | ((with_reducible refine at_boxD 2 36 ?_); refine L_box 36 _ (cl (f) (s) (r)) rfl ?_; intro w1 t_ b_c; have l_c : w.heap.size ≤ w.heap.size := Nat.le_refl _; have hB : Below w.heap.size w w1 := t_.below (Below.refl _ _) (Nat.le_refl _); clear t_)
    | ((with_reducible refine at_loadD 10 2 ?_); refine L_cell2 _ (w.heap.size) 0 (cl (f) (s) (r)) 36 (.int .i64 (f)) rfl b_c (rfl) ?_)
    | ((with_reducible refine at_binD 11 ?_); refine L_give (by rfl) (g_ilss 2 _ _ .i64 _ _ false rfl rfl (decide_eq_false hl) ?_))
    | ((with_reducible refine stop_region 3 ?_); intro X1 hX1))
  refine hX1.out ?_
  clear hX1
  refine wp_region_fixed (by kernel_rfl) (by kernel_rfl) [.int .i64 (t), .agg (nl (t)).toArray, .pointer (some ⟨w.heap.size, 0, none⟩), .int .i64 (f), .agg (nl (f)).toArray, .tuple #[.int .i64 (n), .int .i64 (0)], .tuple #[.int .i64 (n), .int .i64 (0)], .int .i64 (n), .int .i64 (0), .int .i64 (n), .int .i64 (0)] (by rfl) (fun w9 => Below w1.heap.size w1 w9) (Below.refl _ _).drew ?_ ?_
  · simp only [fullL, Act.put, List.setIfInBounds_toArray, List.set_cons_succ, List.set_cons_zero]
    refine ⟨?_, ?_, ?_, ?_, ?_, ?_, ?_, ?_, ?_, ?_, ?_, trivial⟩
    · exact fun w9 hw => gw rfl (g_move _ _ rfl ⟨rfl, hw⟩)
    · exact fun w9 hw => gw rfl (g_call 29 _ _ [.int .i64 (t)] (kf29 _ _) rfl (mono_val hw (of_any t w9 ht)))
    · exact fun w9 hw => gw rfl (g_fC0 _ _ rfl ⟨rfl, hw⟩)
    · exact fun w9 hw => gw rfl (g_cell2 _ (w.heap.size) 0 (cl (f) (s) (r)) 36 _ rfl (b_c.below hw b_c.lt) (rfl) ⟨rfl, hw⟩)
    · exact fun w9 hw => gw rfl (g_call 29 _ _ [.int .i64 (f)] (kf29 _ _) rfl (mono_val hw (of_any f w9 hf)))
    · exact fun w9 hw => gw rfl (g_call 43 _ _ [.agg (nl (t)).toArray, .agg (nl (f)).toArray] (kf43 _ _) rfl (mono_val hw (since_ok t f n w9 it if_ hn jn)))
    · exact fun w9 hw => gw rfl (g_move _ _ rfl ⟨rfl, hw⟩)
    · exact fun w9 hw => gw rfl (g_extract _ _ 0 _ rfl rfl ⟨rfl, hw⟩)
    · exact fun w9 hw => gw rfl (g_extract _ _ 1 _ rfl rfl ⟨rfl, hw⟩)
    · exact fun w9 hw => gw rfl (g_assign _ _ rfl ⟨rfl, hw⟩)
    · exact fun w9 hw => gw rfl (g_assign _ _ rfl ⟨rfl, hw⟩)
  simp only [fullL, Act.put, List.setIfInBounds_toArray, List.set_cons_succ, List.set_cons_zero]
  intro w2 hw
  replace b_c := b_c.below hw b_c.lt
  replace hB := hB.trans (hw.mono hB.size)
  clear hw
  go_wp2_with (first
    | ((with_reducible refine at_loadD 24 36 ?_); refine L_load_all 36 _ (w.heap.size) (cl (f) (s) (r)) 36 _ rfl b_c Tryd.underlying36 rfl (szC 0 0 0) ?_))
  refine (shown_any f s r n P Q Y w2 hs jn hr hP.out hQ.out hY).mono ?_
  rintro e w3 ⟨rfl, t_⟩
  replace b_c := b_c.below t_ b_c.lt
  replace hB := hB.trans (t_.mono hB.size)
  clear t_
  go_wp2_with fail
  refine (int_any Y V E w3 hV).mono ?_
  rintro e w4 ⟨rfl, t_⟩
  replace b_c := b_c.below t_ b_c.lt
  replace hB := hB.trans (t_.mono hB.size)
  clear t_
  go_wp2_with fail
  go_ret2
  exact ⟨rfl, hB⟩

theorem read_any (f s r t V E : Int) (w : World) (hf : In64 f) (hs : In64 s) (hr : In64 r) (ht : In64 t) (h : Hid (rd f s r t = (V, E))) :
    Calls Tryd.prog 16 #[.agg (cl f s r).toArray, .int .i64 t] w fun e w' => e = .returned (.tuple #[.int .i64 V, .int .i64 E]) ∧ Below w.heap.size w w' := by
  have h := h.out
  have hf' := hf
  have ht' := ht
  unfold In64 at hf' ht'
  unfold rd at h
  split at h
  · rename_i hl
    cases h
    exact read_lt f s r t w hf hs hr ht hl
  · rename_i hl
    split at h
    · exact read_in f s r t _ _ _ _ V E w hf hs hr ht hl ht.to hf.to rfl (by unfold In64; omega) rfl rfl rfl h
    · cases h
      exact read_far f s r t w hf hs hr ht hl ht.to hf.to (by unfold In64; omega)

end Go.Proofs.YtpenicjlpiechaaDoor.Wd
