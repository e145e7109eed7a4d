/- What the program's drift.shown answers: a sum of three things that are asked of a clock; nothing that was there is changed. -/
import Derived.Test.YtpenicjlpiechaaDoorDr1
namespace Go.Proofs.YtpenicjlpiechaaDoor.Wd
set_option maxRecDepth 10000
open Go Go.RowKit
set_option linter.unusedVariables false

theorem run_bF (w : World) : (Instr.buildSlice 111 3 #[(0, .func (.func 63) #[] #[]), (1, .func (.func 64) #[] #[]), (2, .func (.func 65) #[] #[])]).run Tryd.prog w = .ok (.slice (some ⟨w.heap.size, 0, none⟩) 3 3) (w.alloc (.cells #[.func (.func 63) #[] #[], .func (.func 64) #[] #[], .func (.func 65) #[] #[]] 88)) := by
  go_simp
section
variable {P : Program} {ops : Array Oper} {rest : List Oper} {a : Act} {w : World} {Q : Exit → Act → World → Prop} {dst : Option Tmp} {ty yt : TypeId} {pos : String} {aft : Array Edge} {gd : Option (Nat × Bool)} {K : Value → World → Prop}
theorem at_buildD {t : TypeId} {ps : Array (Nat × Operand)} {n : Nat} (d : Tmp) (h : wpList P ops Q (⟨some d, .buildSlice t n ps, ty, pos, aft, none⟩ :: rest) a w) : wpList P ops Q (⟨some d, .buildSlice t n ps, ty, pos, aft, none⟩ :: rest) a w := h
theorem g_bF (x y z : Operand) (hx : a.eval x = .func (.func 63) #[] #[]) (hy : a.eval y = .func (.func 64) #[] #[]) (hz : a.eval z = .func (.func 65) #[] #[])
    (h : ∀ w', Turn w.heap.size w w' → Blk w' w.heap.size [.func (.func 63) #[] #[], .func (.func 64) #[] #[], .func (.func 65) #[] #[]] 88 → K (.slice (some ⟨w.heap.size, 0, none⟩) 3 3) w') : gives Tryd.prog ⟨dst, .buildSlice 111 3 #[(0, x), (1, y), (2, z)], ty, pos, aft, gd⟩ a w K := by
  have ht := turn_alloc w [.func (.func 63) #[] #[], .func (.func 64) #[] #[], .func (.func 65) #[] #[]] 88
  refine g_val _ (w.alloc (.cells #[.func (.func 63) #[] #[], .func (.func 64) #[] #[], .func (.func 65) #[] #[]] 88)) ?_ (h _ ht.1 ht.2)
  simp only [execOp, hx, hy, hz, List.map_toArray, List.map_cons, List.map_nil, Sem.run_bind, run_bF, Result.andThen_ok, Sem.run_pure]
/-- A call of a function that lies in a variable. -/
theorem g_callv (x : Operand) (f : FuncId) (args : List Operand) (ts : Array TypeId) (vs : List Value) (hx : a.eval x = .func (.func f) #[] #[]) (hc : (callFunc f vs.toArray).run P w = .ok (.enter f vs.toArray) w) (hv : args.map a.eval = vs)
    (h : Calls P f vs.toArray w (fun e w'' => ∃ v, e = .returned v ∧ K v w'')) : gives P ⟨dst, .call { callee := .value x, args := args.toArray, argTypes := ts }, ty, pos, aft, gd⟩ a w K := by
  unfold gives
  simp only [execOp, resolve, hx, Deferred.ofValue, invoke, List.map_toArray, hv, Sem.run_bind, Sem.run_pure, Result.andThen_ok, Array.append_empty, Array.empty_append, hc]
  exact h
end
/-- The sum behind so many rounds. -/
def zz (s X Y : Int) : Nat → Int
  | 0 => 0
  | 1 => s
  | 2 => X
  | _ => Y

set_option maxRecDepth 10000 in
set_option maxHeartbeats 4000000 in
theorem shown_l (f s r n P Q M X Y : Int) (w : World) (hs : In64 s) (hn : In64 n) (hr : In64 r) (hP : Hid (n * r = P)) (iP : In128 P) (hQ : Hid (P / 1000000000 = Q)) (hM : Hid (P % 1000000000 = M)) (i0 : In128 0) (is : In128 s) (in_ : In128 n) (iQ : In128 Q) (iX : In128 X) (iY : In128 Y) (h1 : Hid (0 + s = s)) (h2 : Hid (s + n = X)) (h3 : Hid (X + Q = Y)) :
    Calls Tryd.prog 44 #[.agg (cl f s r).toArray, .int .i64 n] w fun e w' => e = .returned (.agg (nl Y).toArray) ∧ Below w.heap.size w w' := by
  go_enter Tryd.func44, Tryd.ntmps44
  go_wp2_with (first
    | ((with_reducible refine at_boxD 2 36 ?_); refine L_box 36 _ (cl (f) (s) (r)) rfl ?_; intro w1 t_ b_c; have l_c : w.heap.size ≤ w.heap.size := Nat.le_refl _; have hB : Below w.heap.size w w1 := t_.below (Below.refl _ _) (Nat.le_refl _); clear t_)
    | ((with_reducible refine at_allocD 4 60 ?_); refine L_alloc 60 (nl (0)) zeroN ?_; intro w2 t_ b_r; have l_r : w.heap.size ≤ w1.heap.size := hB.size; have o_r := b_c.lt; replace b_c := t_.blk b_c (by omega); replace hB := t_.below hB l_r; clear t_)
    | ((with_reducible refine at_allocD 5 60 ?_); refine L_alloc 60 (nl (0)) zeroN ?_; intro w3 t_ b_s; have l_s : w.heap.size ≤ w2.heap.size := hB.size; have o_s := b_r.lt; replace b_c := t_.blk b_c (by omega); replace b_r := t_.blk b_r (by omega); replace hB := t_.below hB l_s; clear t_)
    | ((with_reducible refine at_buildD 8 ?_); refine L_give (by rfl) (g_bF _ _ _ rfl rfl rfl ?_); intro w4 t_ b_sl; have l_sl : w.heap.size ≤ w3.heap.size := hB.size; have o_sl := b_s.lt; replace b_c := t_.blk b_c (by omega); replace b_r := t_.blk b_r (by omega); replace b_s := t_.blk b_s (by omega); replace hB := t_.below hB l_sl; clear t_))
  go_loopw [10] (fun i wr => ∃ k : Nat, k ≤ 3 ∧ i = .int .i64 k ∧ Below w.heap.size w wr ∧ Blk wr (w.heap.size) (cl (f) (s) (r)) 36 ∧ Blk wr (w1.heap.size) (nl (0)) 60 ∧ Blk wr (w2.heap.size) (nl (zz s X Y k)) 60 ∧ Blk wr (w3.heap.size) ([.func (.func 63) #[] #[], .func (.func 64) #[] #[], .func (.func 65) #[] #[]]) 88) (fun i _ => 3 - (intOf i).toNat)
  case atStart => exact ⟨0, by omega, rfl, hB, b_c, b_r, b_s, b_sl⟩
  case round =>
    clear hB b_c b_r b_s b_sl
    obtain ⟨k, hk, rfl, hB, b_c, b_r, b_s, b_sl⟩ := hrel
    have hkk : k = 0 ∨ k = 1 ∨ k = 2 ∨ k = 3 := by omega
    rcases hkk with rfl | rfl | rfl | rfl
    · replace b_s : Blk wr (w2.heap.size) (nl 0) 60 := b_s
      have hd := b_sl.cell 0 _ rfl
      go_wp2_with (first
        | ((with_reducible refine stop_region 5 ?_); intro X1 hX1))
      refine hX1.out ?_
      clear hX1
      have hB0 : w.heap.size ≤ wr.heap.size := hB.size
      have lt_c := b_c.lt
      have lt_r := b_r.lt
      have lt_s := b_s.lt
      have lt_sl := b_sl.lt
      refine wp_region_inv (by kernel_rfl) (by kernel_rfl) (fun t v wx => Below w.heap.size wr wx ∧ Blk wx (w.heap.size) (cl (f) (s) (r)) 36 ∧ Blk wx (w1.heap.size) (nl (0)) 60 ∧ Blk wx (w3.heap.size) ([.func (.func 63) #[] #[], .func (.func 64) #[] #[], .func (.func 65) #[] #[]]) 88 ∧ (t 0 = true → v 0 = .agg (nl (0)).toArray) ∧ (t 1 = true → v 1 = .func (.func 63) #[] #[]) ∧ (t 2 = true → v 2 = .agg (cl (f) (s) (r)).toArray) ∧ (t 3 = true → v 3 = .int .i64 (n)) ∧ (t 4 = true → v 4 = .agg (nl (s)).toArray) ∧ (t 5 = true → v 5 = .tuple #[.agg (nl (s)).toArray, .int .i64 (0)]) ∧ (t 6 = true → v 6 = .tuple #[.agg (nl (s)).toArray, .int .i64 (0)]) ∧ (t 7 = true → v 7 = .agg (nl (s)).toArray) ∧ (t 8 = true → v 8 = .int .i64 (0)) ∧ ((t 9 = false → Blk wx (w2.heap.size) (nl 0) 60) ∧ (t 9 = true → Blk wx (w2.heap.size) (nl (s)) 60)) ∧ (t 9 = true → t 0 = true)) ?_ ?_ ?_
      · exact ⟨(Below.refl _ _).drew, b_c.drew, b_r.drew, b_sl.drew, (fun h => by cases h), (fun h => by cases h), (fun h => by cases h), (fun h => by cases h), (fun h => by cases h), (fun h => by cases h), (fun h => by cases h), (fun h => by cases h), (fun h => by cases h), ⟨fun _ => b_s.drew, (fun h => by cases h)⟩, (fun h => by cases h)⟩
      · simp only [full, Act.put, List.setIfInBounds_toArray, List.set_cons_succ, List.set_cons_zero, Nat.zero_add, Nat.reduceAdd]
        intro i o ho t v wx hS hti hall
        obtain ⟨hC, q_c, q_r, q_sl, k0, k1, k2, k3, k4, k5, k6, k7, k8, k9, m9_0⟩ := hS
        have hnw : w.heap.size ≤ wx.heap.size := Nat.le_trans hB0 hC.size
        rcases i with _ | _ | _ | _ | _ | _ | _ | _ | _ | _ | i
        · obtain rfl := Option.some.inj ho
          have hz : t 9 = false := by
            cases h : t 9 with
            | false => rfl
            | true => rw [m9_0 h] at hti; cases hti
          refine g_load_all 60 _ (w2.heap.size) (nl 0) 60 _ rfl (k9.1 hz) Tryd.underlying60 rfl (szN 0) ?_
          exact ⟨hC, q_c, q_r, q_sl, newE rfl, keepE (by decide) k1, keepE (by decide) k2, keepE (by decide) k3, keepE (by decide) k4, keepE (by decide) k5, keepE (by decide) k6, keepE (by decide) k7, keepE (by decide) k8, ⟨fun h => by rw [setB_other _ _ _ (by decide)] at h; exact k9.1 h, fun h => by rw [setB_other _ _ _ (by decide)] at h; exact k9.2 h⟩, (fun _ => setB_self _ _)⟩
        · obtain rfl := Option.some.inj ho
          refine g_move _ _ rfl ?_
          exact ⟨hC, q_c, q_r, q_sl, keepE (by decide) k0, newE rfl, keepE (by decide) k2, keepE (by decide) k3, keepE (by decide) k4, keepE (by decide) k5, keepE (by decide) k6, keepE (by decide) k7, keepE (by decide) k8, ⟨fun h => by rw [setB_other _ _ _ (by decide)] at h; exact k9.1 h, fun h => by rw [setB_other _ _ _ (by decide)] at h; exact k9.2 h⟩, (fun h => by rw [setB_other _ _ _ (by decide)] at h ⊢; exact m9_0 h)⟩
        · obtain rfl := Option.some.inj ho
          refine g_load_all 36 _ (w.heap.size) (cl (f) (s) (r)) 36 _ rfl q_c Tryd.underlying36 rfl (szC 0 0 0) ?_
          exact ⟨hC, q_c, q_r, q_sl, keepE (by decide) k0, keepE (by decide) k1, newE rfl, keepE (by decide) k3, keepE (by decide) k4, keepE (by decide) k5, keepE (by decide) k6, keepE (by decide) k7, keepE (by decide) k8, ⟨fun h => by rw [setB_other _ _ _ (by decide)] at h; exact k9.1 h, fun h => by rw [setB_other _ _ _ (by decide)] at h; exact k9.2 h⟩, (fun h => by rw [setB_other _ _ _ (by decide)] at h ⊢; exact m9_0 h)⟩
        · obtain rfl := Option.some.inj ho
          refine g_move _ _ rfl ?_
          exact ⟨hC, q_c, q_r, q_sl, keepE (by decide) k0, keepE (by decide) k1, keepE (by decide) k2, newE rfl, keepE (by decide) k4, keepE (by decide) k5, keepE (by decide) k6, keepE (by decide) k7, keepE (by decide) k8, ⟨fun h => by rw [setB_other _ _ _ (by decide)] at h; exact k9.1 h, fun h => by rw [setB_other _ _ _ (by decide)] at h; exact k9.2 h⟩, (fun h => by rw [setB_other _ _ _ (by decide)] at h ⊢; exact m9_0 h)⟩
        · obtain rfl := Option.some.inj ho
          have d2 := k2 (hall ⟨2, .data⟩ (by simp) rfl)
          have d3 := k3 (hall ⟨3, .data⟩ (by simp) rfl)
          have d1 := k1 (hall ⟨1, .data⟩ (by simp) rfl)
          refine g_callv _ 63 _ _ [.agg (cl (f) (s) (r)).toArray, .int .i64 (n)] (show v 1 = _ from d1) (kf63 _ _) (by show ([v 2, v 3] : List Value) = _; rw [d2, d3]; (try rfl)) ((first_any f s r n wx hs).mono ?_)
          rintro e w' ⟨rfl, hb⟩
          exact ⟨_, rfl, hC.trans (hb.mono hnw), q_c.below hb q_c.lt, q_r.below hb q_r.lt, q_sl.below hb q_sl.lt, keepE (by decide) k0, keepE (by decide) k1, keepE (by decide) k2, keepE (by decide) k3, newE rfl, keepE (by decide) k5, keepE (by decide) k6, keepE (by decide) k7, keepE (by decide) k8, ⟨fun h => by rw [setB_other _ _ _ (by decide)] at h; exact (k9.1 h).below hb (k9.1 h).lt, fun h => by rw [setB_other _ _ _ (by decide)] at h; exact (k9.2 h).below hb (k9.2 h).lt⟩, (fun h => by rw [setB_other _ _ _ (by decide)] at h ⊢; exact m9_0 h)⟩
        · obtain rfl := Option.some.inj ho
          have d0 := k0 (hall ⟨0, .data⟩ (by simp) rfl)
          have d4 := k4 (hall ⟨4, .data⟩ (by simp) rfl)
          refine g_call 52 _ _ [.agg (nl (0)).toArray, .agg (nl (s)).toArray] (kf52 _ _) (by show ([v 0, v 4] : List Value) = _; rw [d0, d4]; (try rfl)) ((add_l 0 s s wx i0 is is h1).mono ?_)
          rintro e w' ⟨rfl, hb⟩
          exact ⟨_, rfl, hC.trans (hb.mono hnw), q_c.below hb q_c.lt, q_r.below hb q_r.lt, q_sl.below hb q_sl.lt, keepE (by decide) k0, keepE (by decide) k1, keepE (by decide) k2, keepE (by decide) k3, keepE (by decide) k4, newE rfl, keepE (by decide) k6, keepE (by decide) k7, keepE (by decide) k8, ⟨fun h => by rw [setB_other _ _ _ (by decide)] at h; exact (k9.1 h).below hb (k9.1 h).lt, fun h => by rw [setB_other _ _ _ (by decide)] at h; exact (k9.2 h).below hb (k9.2 h).lt⟩, (fun h => by rw [setB_other _ _ _ (by decide)] at h ⊢; exact m9_0 h)⟩
        · obtain rfl := Option.some.inj ho
          have d5 := k5 (hall ⟨5, .data⟩ (by simp) rfl)
          refine g_move _ _ (show v 5 = _ from d5) ?_
          exact ⟨hC, q_c, q_r, q_sl, keepE (by decide) k0, keepE (by decide) k1, keepE (by decide) k2, keepE (by decide) k3, keepE (by decide) k4, keepE (by decide) k5, newE rfl, keepE (by decide) k7, keepE (by decide) k8, ⟨fun h => by rw [setB_other _ _ _ (by decide)] at h; exact k9.1 h, fun h => by rw [setB_other _ _ _ (by decide)] at h; exact k9.2 h⟩, (fun h => by rw [setB_other _ _ _ (by decide)] at h ⊢; exact m9_0 h)⟩
        · obtain rfl := Option.some.inj ho
          have d6 := k6 (hall ⟨6, .data⟩ (by simp) rfl)
          refine g_extract _ _ 0 _ (show v 6 = _ from d6) rfl ?_
          exact ⟨hC, q_c, q_r, q_sl, keepE (by decide) k0, keepE (by decide) k1, keepE (by decide) k2, keepE (by decide) k3, keepE (by decide) k4, keepE (by decide) k5, keepE (by decide) k6, newE rfl, keepE (by decide) k8, ⟨fun h => by rw [setB_other _ _ _ (by decide)] at h; exact k9.1 h, fun h => by rw [setB_other _ _ _ (by decide)] at h; exact k9.2 h⟩, (fun h => by rw [setB_other _ _ _ (by decide)] at h ⊢; exact m9_0 h)⟩
        · obtain rfl := Option.some.inj ho
          have d6 := k6 (hall ⟨6, .data⟩ (by simp) rfl)
          refine g_extract _ _ 1 _ (show v 6 = _ from d6) rfl ?_
          exact ⟨hC, q_c, q_r, q_sl, keepE (by decide) k0, keepE (by decide) k1, keepE (by decide) k2, keepE (by decide) k3, keepE (by decide) k4, keepE (by decide) k5, keepE (by decide) k6, keepE (by decide) k7, newE rfl, ⟨fun h => by rw [setB_other _ _ _ (by decide)] at h; exact k9.1 h, fun h => by rw [setB_other _ _ _ (by decide)] at h; exact k9.2 h⟩, (fun h => by rw [setB_other _ _ _ (by decide)] at h ⊢; exact m9_0 h)⟩
        · obtain rfl := Option.some.inj ho
          have hold := k9.1 hti
          have hlo := l_s
          have d7 := k7 (hall ⟨7, .data⟩ (by simp) rfl)
          refine g_store_all 60 _ _ (w2.heap.size) (nl (s)) _ 60 rfl (show v 7 = _ from d7) hold (szN 0) rfl (one_nl _) (fun w' h1 h2 => ?_)
          exact ⟨h1.below hC hlo, h1.blk q_c (by omega), h1.blk q_r (by omega), h1.blk q_sl (by omega), keepE (by decide) k0, keepE (by decide) k1, keepE (by decide) k2, keepE (by decide) k3, keepE (by decide) k4, keepE (by decide) k5, keepE (by decide) k6, keepE (by decide) k7, keepE (by decide) k8, ⟨(fun h => by have := setB_self t 9; rw [h] at this; cases this), fun _ => h2⟩, (fun _ => by rw [setB_other _ _ _ (by decide)]; exact hall ⟨0, .phase⟩ (by simp) rfl)⟩
        · simp at ho
      · simp only [full, Act.put, List.setIfInBounds_toArray, List.set_cons_succ, List.set_cons_zero, Nat.zero_add, Nat.reduceAdd]
        intro t v w101 hS ht
        obtain ⟨hC, q_c, q_r, q_sl, k0, k1, k2, k3, k4, k5, k6, k7, k8, k9, m9_0⟩ := hS
        have h_s := k9.2 (ht 9 (by decide))
        have d0 := k0 (ht 0 (by decide)); (try rw [d0])
        clear d0
        have d1 := k1 (ht 1 (by decide)); (try rw [d1])
        clear d1
        have d2 := k2 (ht 2 (by decide)); (try rw [d2])
        clear d2
        have d3 := k3 (ht 3 (by decide)); (try rw [d3])
        clear d3
        have d4 := k4 (ht 4 (by decide)); (try rw [d4])
        clear d4
        have d5 := k5 (ht 5 (by decide)); (try rw [d5])
        clear d5
        have d6 := k6 (ht 6 (by decide)); (try rw [d6])
        clear d6
        have d7 := k7 (ht 7 (by decide)); (try rw [d7])
        clear d7
        have d8 := k8 (ht 8 (by decide)); (try rw [d8])
        clear d8
        clear ht k0 k1 k2 k3 k4 k5 k6 k7 k8 k9 m9_0 lt_c lt_r lt_s lt_sl
        generalize v 9 = y1_9
        replace b_c := q_c
        clear q_c
        replace b_r := q_r
        clear q_r
        replace b_sl := q_sl
        clear q_sl
        replace b_s := h_s
        clear h_s
        replace hB := hB.trans hC
        clear hC hB0
        go_wp2_with fail
        go_roundw
        case rel => exact ⟨1, by omega, by go_num, hB, b_c, b_r, b_s, b_sl⟩
        case measure => simp [intOf]
    · replace b_s : Blk wr (w2.heap.size) (nl s) 60 := b_s
      have hd := b_sl.cell 1 _ rfl
      go_wp2_with (first
        | ((with_reducible refine stop_region 5 ?_); intro X11 hX11))
      refine hX11.out ?_
      clear hX11
      have hB0 : w.heap.size ≤ wr.heap.size := hB.size
      have lt_c := b_c.lt
      have lt_r := b_r.lt
      have lt_s := b_s.lt
      have lt_sl := b_sl.lt
      refine wp_region_inv (by kernel_rfl) (by kernel_rfl) (fun t v wx => Below w.heap.size wr wx ∧ Blk wx (w.heap.size) (cl (f) (s) (r)) 36 ∧ Blk wx (w1.heap.size) (nl (0)) 60 ∧ Blk wx (w3.heap.size) ([.func (.func 63) #[] #[], .func (.func 64) #[] #[], .func (.func 65) #[] #[]]) 88 ∧ (t 0 = true → v 0 = .agg (nl (s)).toArray) ∧ (t 1 = true → v 1 = .func (.func 64) #[] #[]) ∧ (t 2 = true → v 2 = .agg (cl (f) (s) (r)).toArray) ∧ (t 3 = true → v 3 = .int .i64 (n)) ∧ (t 4 = true → v 4 = .agg (nl (n)).toArray) ∧ (t 5 = true → v 5 = .tuple #[.agg (nl (X)).toArray, .int .i64 (0)]) ∧ (t 6 = true → v 6 = .tuple #[.agg (nl (X)).toArray, .int .i64 (0)]) ∧ (t 7 = true → v 7 = .agg (nl (X)).toArray) ∧ (t 8 = true → v 8 = .int .i64 (0)) ∧ ((t 9 = false → Blk wx (w2.heap.size) (nl s) 60) ∧ (t 9 = true → Blk wx (w2.heap.size) (nl (X)) 60)) ∧ (t 9 = true → t 0 = true)) ?_ ?_ ?_
      · exact ⟨(Below.refl _ _).drew, b_c.drew, b_r.drew, b_sl.drew, (fun h => by cases h), (fun h => by cases h), (fun h => by cases h), (fun h => by cases h), (fun h => by cases h), (fun h => by cases h), (fun h => by cases h), (fun h => by cases h), (fun h => by cases h), ⟨fun _ => b_s.drew, (fun h => by cases h)⟩, (fun h => by cases h)⟩
      · simp only [full, Act.put, List.setIfInBounds_toArray, List.set_cons_succ, List.set_cons_zero, Nat.zero_add, Nat.reduceAdd]
        intro i o ho t v wx hS hti hall
        obtain ⟨hC, q_c, q_r, q_sl, k0, k1, k2, k3, k4, k5, k6, k7, k8, k9, m9_0⟩ := hS
        have hnw : w.heap.size ≤ wx.heap.size := Nat.le_trans hB0 hC.size
        rcases i with _ | _ | _ | _ | _ | _ | _ | _ | _ | _ | i
        · obtain rfl := Option.some.inj ho
          have hz : t 9 = false := by
            cases h : t 9 with
            | false => rfl
            | true => rw [m9_0 h] at hti; cases hti
          refine g_load_all 60 _ (w2.heap.size) (nl s) 60 _ rfl (k9.1 hz) Tryd.underlying60 rfl (szN 0) ?_
          exact ⟨hC, q_c, q_r, q_sl, newE rfl, keepE (by decide) k1, keepE (by decide) k2, keepE (by decide) k3, keepE (by decide) k4, keepE (by decide) k5, keepE (by decide) k6, keepE (by decide) k7, keepE (by decide) k8, ⟨fun h => by rw [setB_other _ _ _ (by decide)] at h; exact k9.1 h, fun h => by rw [setB_other _ _ _ (by decide)] at h; exact k9.2 h⟩, (fun _ => setB_self _ _)⟩
        · obtain rfl := Option.some.inj ho
          refine g_move _ _ rfl ?_
          exact ⟨hC, q_c, q_r, q_sl, keepE (by decide) k0, newE rfl, keepE (by decide) k2, keepE (by decide) k3, keepE (by decide) k4, keepE (by decide) k5, keepE (by decide) k6, keepE (by decide) k7, keepE (by decide) k8, ⟨fun h => by rw [setB_other _ _ _ (by decide)] at h; exact k9.1 h, fun h => by rw [setB_other _ _ _ (by decide)] at h; exact k9.2 h⟩, (fun h => by rw [setB_other _ _ _ (by decide)] at h ⊢; exact m9_0 h)⟩
        · obtain rfl := Option.some.inj ho
          refine g_load_all 36 _ (w.heap.size) (cl (f) (s) (r)) 36 _ rfl q_c Tryd.underlying36 rfl (szC 0 0 0) ?_
          exact ⟨hC, q_c, q_r, q_sl, keepE (by decide) k0, keepE (by decide) k1, newE rfl, keepE (by decide) k3, keepE (by decide) k4, keepE (by decide) k5, keepE (by decide) k6, keepE (by decide) k7, keepE (by decide) k8, ⟨fun h => by rw [setB_other _ _ _ (by decide)] at h; exact k9.1 h, fun h => by rw [setB_other _ _ _ (by decide)] at h; exact k9.2 h⟩, (fun h => by rw [setB_other _ _ _ (by decide)] at h ⊢; exact m9_0 h)⟩
        · obtain rfl := Option.some.inj ho
          refine g_move _ _ rfl ?_
          exact ⟨hC, q_c, q_r, q_sl, keepE (by decide) k0, keepE (by decide) k1, keepE (by decide) k2, newE rfl, keepE (by decide) k4, keepE (by decide) k5, keepE (by decide) k6, keepE (by decide) k7, keepE (by decide) k8, ⟨fun h => by rw [setB_other _ _ _ (by decide)] at h; exact k9.1 h, fun h => by rw [setB_other _ _ _ (by decide)] at h; exact k9.2 h⟩, (fun h => by rw [setB_other _ _ _ (by decide)] at h ⊢; exact m9_0 h)⟩
        · obtain rfl := Option.some.inj ho
          have d2 := k2 (hall ⟨2, .data⟩ (by simp) rfl)
          have d3 := k3 (hall ⟨3, .data⟩ (by simp) rfl)
          have d1 := k1 (hall ⟨1, .data⟩ (by simp) rfl)
          refine g_callv _ 64 _ _ [.agg (cl (f) (s) (r)).toArray, .int .i64 (n)] (show v 1 = _ from d1) (kf64 _ _) (by show ([v 2, v 3] : List Value) = _; rw [d2, d3]; (try rfl)) ((gone_any f s r n wx hn).mono ?_)
          rintro e w' ⟨rfl, hb⟩
          exact ⟨_, rfl, hC.trans (hb.mono hnw), q_c.below hb q_c.lt, q_r.below hb q_r.lt, q_sl.below hb q_sl.lt, keepE (by decide) k0, keepE (by decide) k1, keepE (by decide) k2, keepE (by decide) k3, newE rfl, keepE (by decide) k5, keepE (by decide) k6, keepE (by decide) k7, keepE (by decide) k8, ⟨fun h => by rw [setB_other _ _ _ (by decide)] at h; exact (k9.1 h).below hb (k9.1 h).lt, fun h => by rw [setB_other _ _ _ (by decide)] at h; exact (k9.2 h).below hb (k9.2 h).lt⟩, (fun h => by rw [setB_other _ _ _ (by decide)] at h ⊢; exact m9_0 h)⟩
        · obtain rfl := Option.some.inj ho
          have d0 := k0 (hall ⟨0, .data⟩ (by simp) rfl)
          have d4 := k4 (hall ⟨4, .data⟩ (by simp) rfl)
          refine g_call 52 _ _ [.agg (nl (s)).toArray, .agg (nl (n)).toArray] (kf52 _ _) (by show ([v 0, v 4] : List Value) = _; rw [d0, d4]; (try rfl)) ((add_l s n X wx is in_ iX h2).mono ?_)
          rintro e w' ⟨rfl, hb⟩
          exact ⟨_, rfl, hC.trans (hb.mono hnw), q_c.below hb q_c.lt, q_r.below hb q_r.lt, q_sl.below hb q_sl.lt, keepE (by decide) k0, keepE (by decide) k1, keepE (by decide) k2, keepE (by decide) k3, keepE (by decide) k4, newE rfl, keepE (by decide) k6, keepE (by decide) k7, keepE (by decide) k8, ⟨fun h => by rw [setB_other _ _ _ (by decide)] at h; exact (k9.1 h).below hb (k9.1 h).lt, fun h => by rw [setB_other _ _ _ (by decide)] at h; exact (k9.2 h).below hb (k9.2 h).lt⟩, (fun h => by rw [setB_other _ _ _ (by decide)] at h ⊢; exact m9_0 h)⟩
        · obtain rfl := Option.some.inj ho
          have d5 := k5 (hall ⟨5, .data⟩ (by simp) rfl)
          refine g_move _ _ (show v 5 = _ from d5) ?_
          exact ⟨hC, q_c, q_r, q_sl, keepE (by decide) k0, keepE (by decide) k1, keepE (by decide) k2, keepE (by decide) k3, keepE (by decide) k4, keepE (by decide) k5, newE rfl, keepE (by decide) k7, keepE (by decide) k8, ⟨fun h => by rw [setB_other _ _ _ (by decide)] at h; exact k9.1 h, fun h => by rw [setB_other _ _ _ (by decide)] at h; exact k9.2 h⟩, (fun h => by rw [setB_other _ _ _ (by decide)] at h ⊢; exact m9_0 h)⟩
        · obtain rfl := Option.some.inj ho
          have d6 := k6 (hall ⟨6, .data⟩ (by simp) rfl)
          refine g_extract _ _ 0 _ (show v 6 = _ from d6) rfl ?_
          exact ⟨hC, q_c, q_r, q_sl, keepE (by decide) k0, keepE (by decide) k1, keepE (by decide) k2, keepE (by decide) k3, keepE (by decide) k4, keepE (by decide) k5, keepE (by decide) k6, newE rfl, keepE (by decide) k8, ⟨fun h => by rw [setB_other _ _ _ (by decide)] at h; exact k9.1 h, fun h => by rw [setB_other _ _ _ (by decide)] at h; exact k9.2 h⟩, (fun h => by rw [setB_other _ _ _ (by decide)] at h ⊢; exact m9_0 h)⟩
        · obtain rfl := Option.some.inj ho
          have d6 := k6 (hall ⟨6, .data⟩ (by simp) rfl)
          refine g_extract _ _ 1 _ (show v 6 = _ from d6) rfl ?_
          exact ⟨hC, q_c, q_r, q_sl, keepE (by decide) k0, keepE (by decide) k1, keepE (by decide) k2, keepE (by decide) k3, keepE (by decide) k4, keepE (by decide) k5, keepE (by decide) k6, keepE (by decide) k7, newE rfl, ⟨fun h => by rw [setB_other _ _ _ (by decide)] at h; exact k9.1 h, fun h => by rw [setB_other _ _ _ (by decide)] at h; exact k9.2 h⟩, (fun h => by rw [setB_other _ _ _ (by decide)] at h ⊢; exact m9_0 h)⟩
        · obtain rfl := Option.some.inj ho
          have hold := k9.1 hti
          have hlo := l_s
          have d7 := k7 (hall ⟨7, .data⟩ (by simp) rfl)
          refine g_store_all 60 _ _ (w2.heap.size) (nl (X)) _ 60 rfl (show v 7 = _ from d7) hold (szN 0) rfl (one_nl _) (fun w' h1 h2 => ?_)
          exact ⟨h1.below hC hlo, h1.blk q_c (by omega), h1.blk q_r (by omega), h1.blk q_sl (by omega), keepE (by decide) k0, keepE (by decide) k1, keepE (by decide) k2, keepE (by decide) k3, keepE (by decide) k4, keepE (by decide) k5, keepE (by decide) k6, keepE (by decide) k7, keepE (by decide) k8, ⟨(fun h => by have := setB_self t 9; rw [h] at this; cases this), fun _ => h2⟩, (fun _ => by rw [setB_other _ _ _ (by decide)]; exact hall ⟨0, .phase⟩ (by simp) rfl)⟩
        · simp at ho
      · simp only [full, Act.put, List.setIfInBounds_toArray, List.set_cons_succ, List.set_cons_zero, Nat.zero_add, Nat.reduceAdd]
        intro t v w111 hS ht
        obtain ⟨hC, q_c, q_r, q_sl, k0, k1, k2, k3, k4, k5, k6, k7, k8, k9, m9_0⟩ := hS
        have h_s := k9.2 (ht 9 (by decide))
        have d0 := k0 (ht 0 (by decide)); (try rw [d0])
        clear d0
        have d1 := k1 (ht 1 (by decide)); (try rw [d1])
        clear d1
        have d2 := k2 (ht 2 (by decide)); (try rw [d2])
        clear d2
        have d3 := k3 (ht 3 (by decide)); (try rw [d3])
        clear d3
        have d4 := k4 (ht 4 (by decide)); (try rw [d4])
        clear d4
        have d5 := k5 (ht 5 (by decide)); (try rw [d5])
        clear d5
        have d6 := k6 (ht 6 (by decide)); (try rw [d6])
        clear d6
        have d7 := k7 (ht 7 (by decide)); (try rw [d7])
        clear d7
        have d8 := k8 (ht 8 (by decide)); (try rw [d8])
        clear d8
        clear ht k0 k1 k2 k3 k4 k5 k6 k7 k8 k9 m9_0 lt_c lt_r lt_s lt_sl
        generalize v 9 = y11_9
        replace b_c := q_c
        clear q_c
        replace b_r := q_r
        clear q_r
        replace b_sl := q_sl
        clear q_sl
        replace b_s := h_s
        clear h_s
        replace hB := hB.trans hC
        clear hC hB0
        go_wp2_with fail
        go_roundw
        case rel => exact ⟨2, by omega, by go_num, hB, b_c, b_r, b_s, b_sl⟩
        case measure => simp [intOf]
    · replace b_s : Blk wr (w2.heap.size) (nl X) 60 := b_s
      have hd := b_sl.cell 2 _ rfl
      go_wp2_with (first
        | ((with_reducible refine stop_region 5 ?_); intro X21 hX21))
      refine hX21.out ?_
      clear hX21
      have hB0 : w.heap.size ≤ wr.heap.size := hB.size
      have lt_c := b_c.lt
      have lt_r := b_r.lt
      have lt_s := b_s.lt
      have lt_sl := b_sl.lt
      refine wp_region_inv (by kernel_rfl) (by kernel_rfl) (fun t v wx => Below w.heap.size wr wx ∧ Blk wx (w.heap.size) (cl (f) (s) (r)) 36 ∧ Blk wx (w1.heap.size) (nl (0)) 60 ∧ Blk wx (w3.heap.size) ([.func (.func 63) #[] #[], .func (.func 64) #[] #[], .func (.func 65) #[] #[]]) 88 ∧ (t 0 = true → v 0 = .agg (nl (X)).toArray) ∧ (t 1 = true → v 1 = .func (.func 65) #[] #[]) ∧ (t 2 = true → v 2 = .agg (cl (f) (s) (r)).toArray) ∧ (t 3 = true → v 3 = .int .i64 (n)) ∧ (t 4 = true → v 4 = .agg (nl (Q)).toArray) ∧ (t 5 = true → v 5 = .tuple #[.agg (nl (Y)).toArray, .int .i64 (0)]) ∧ (t 6 = true → v 6 = .tuple #[.agg (nl (Y)).toArray, .int .i64 (0)]) ∧ (t 7 = true → v 7 = .agg (nl (Y)).toArray) ∧ (t 8 = true → v 8 = .int .i64 (0)) ∧ ((t 9 = false → Blk wx (w2.heap.size) (nl X) 60) ∧ (t 9 = true → Blk wx (w2.heap.size) (nl (Y)) 60)) ∧ (t 9 = true → t 0 = true)) ?_ ?_ ?_
      · exact ⟨(Below.refl _ _).drew, b_c.drew, b_r.drew, b_sl.drew, (fun h => by cases h), (fun h => by cases h), (fun h => by cases h), (fun h => by cases h), (fun h => by cases h), (fun h => by cases h), (fun h => by cases h), (fun h => by cases h), (fun h => by cases h), ⟨fun _ => b_s.drew, (fun h => by cases h)⟩, (fun h => by cases h)⟩
      · simp only [full, Act.put, List.setIfInBounds_toArray, List.set_cons_succ, List.set_cons_zero, Nat.zero_add, Nat.reduceAdd]
        intro i o ho t v wx hS hti hall
        obtain ⟨hC, q_c, q_r, q_sl, k0, k1, k2, k3, k4, k5, k6, k7, k8, k9, m9_0⟩ := hS
        have hnw : w.heap.size ≤ wx.heap.size := Nat.le_trans hB0 hC.size
        rcases i with _ | _ | _ | _ | _ | _ | _ | _ | _ | _ | i
        · obtain rfl := Option.some.inj ho
          have hz : t 9 = false := by
            cases h : t 9 with
            | false => rfl
            | true => rw [m9_0 h] at hti; cases hti
          refine g_load_all 60 _ (w2.heap.size) (nl X) 60 _ rfl (k9.1 hz) Tryd.underlying60 rfl (szN 0) ?_
          exact ⟨hC, q_c, q_r, q_sl, newE rfl, keepE (by decide) k1, keepE (by decide) k2, keepE (by decide) k3, keepE (by decide) k4, keepE (by decide) k5, keepE (by decide) k6, keepE (by decide) k7, keepE (by decide) k8, ⟨fun h => by rw [setB_other _ _ _ (by decide)] at h; exact k9.1 h, fun h => by rw [setB_other _ _ _ (by decide)] at h; exact k9.2 h⟩, (fun _ => setB_self _ _)⟩
        · obtain rfl := Option.some.inj ho
          refine g_move _ _ rfl ?_
          exact ⟨hC, q_c, q_r, q_sl, keepE (by decide) k0, newE rfl, keepE (by decide) k2, keepE (by decide) k3, keepE (by decide) k4, keepE (by decide) k5, keepE (by decide) k6, keepE (by decide) k7, keepE (by decide) k8, ⟨fun h => by rw [setB_other _ _ _ (by decide)] at h; exact k9.1 h, fun h => by rw [setB_other _ _ _ (by decide)] at h; exact k9.2 h⟩, (fun h => by rw [setB_other _ _ _ (by decide)] at h ⊢; exact m9_0 h)⟩
        · obtain rfl := Option.some.inj ho
          refine g_load_all 36 _ (w.heap.size) (cl (f) (s) (r)) 36 _ rfl q_c Tryd.underlying36 rfl (szC 0 0 0) ?_
          exact ⟨hC, q_c, q_r, q_sl, keepE (by decide) k0, keepE (by decide) k1, newE rfl, keepE (by decide) k3, keepE (by decide) k4, keepE (by decide) k5, keepE (by decide) k6, keepE (by decide) k7, keepE (by decide) k8, ⟨fun h => by rw [setB_other _ _ _ (by decide)] at h; exact k9.1 h, fun h => by rw [setB_other _ _ _ (by decide)] at h; exact k9.2 h⟩, (fun h => by rw [setB_other _ _ _ (by decide)] at h ⊢; exact m9_0 h)⟩
        · obtain rfl := Option.some.inj ho
          refine g_move _ _ rfl ?_
          exact ⟨hC, q_c, q_r, q_sl, keepE (by decide) k0, keepE (by decide) k1, keepE (by decide) k2, newE rfl, keepE (by decide) k4, keepE (by decide) k5, keepE (by decide) k6, keepE (by decide) k7, keepE (by decide) k8, ⟨fun h => by rw [setB_other _ _ _ (by decide)] at h; exact k9.1 h, fun h => by rw [setB_other _ _ _ (by decide)] at h; exact k9.2 h⟩, (fun h => by rw [setB_other _ _ _ (by decide)] at h ⊢; exact m9_0 h)⟩
        · obtain rfl := Option.some.inj ho
          have d2 := k2 (hall ⟨2, .data⟩ (by simp) rfl)
          have d3 := k3 (hall ⟨3, .data⟩ (by simp) rfl)
          have d1 := k1 (hall ⟨1, .data⟩ (by simp) rfl)
          refine g_callv _ 65 _ _ [.agg (cl (f) (s) (r)).toArray, .int .i64 (n)] (show v 1 = _ from d1) (kf65 _ _) (by show ([v 2, v 3] : List Value) = _; rw [d2, d3]; (try rfl)) ((gained_any f s r n P Q M wx hn hr hP iP hQ hM).mono ?_)
          rintro e w' ⟨rfl, hb⟩
          exact ⟨_, rfl, hC.trans (hb.mono hnw), q_c.below hb q_c.lt, q_r.below hb q_r.lt, q_sl.below hb q_sl.lt, keepE (by decide) k0, keepE (by decide) k1, keepE (by decide) k2, keepE (by decide) k3, newE rfl, keepE (by decide) k5, keepE (by decide) k6, keepE (by decide) k7, keepE (by decide) k8, ⟨fun h => by rw [setB_other _ _ _ (by decide)] at h; exact (k9.1 h).below hb (k9.1 h).lt, fun h => by rw [setB_other _ _ _ (by decide)] at h; exact (k9.2 h).below hb (k9.2 h).lt⟩, (fun h => by rw [setB_other _ _ _ (by decide)] at h ⊢; exact m9_0 h)⟩
        · obtain rfl := Option.some.inj ho
          have d0 := k0 (hall ⟨0, .data⟩ (by simp) rfl)
          have d4 := k4 (hall ⟨4, .data⟩ (by simp) rfl)
          refine g_call 52 _ _ [.agg (nl (X)).toArray, .agg (nl (Q)).toArray] (kf52 _ _) (by show ([v 0, v 4] : List Value) = _; rw [d0, d4]; (try rfl)) ((add_l X Q Y wx iX iQ iY h3).mono ?_)
          rintro e w' ⟨rfl, hb⟩
          exact ⟨_, rfl, hC.trans (hb.mono hnw), q_c.below hb q_c.lt, q_r.below hb q_r.lt, q_sl.below hb q_sl.lt, keepE (by decide) k0, keepE (by decide) k1, keepE (by decide) k2, keepE (by decide) k3, keepE (by decide) k4, newE rfl, keepE (by decide) k6, keepE (by decide) k7, keepE (by decide) k8, ⟨fun h => by rw [setB_other _ _ _ (by decide)] at h; exact (k9.1 h).below hb (k9.1 h).lt, fun h => by rw [setB_other _ _ _ (by decide)] at h; exact (k9.2 h).below hb (k9.2 h).lt⟩, (fun h => by rw [setB_other _ _ _ (by decide)] at h ⊢; exact m9_0 h)⟩
        · obtain rfl := Option.some.inj ho
          have d5 := k5 (hall ⟨5, .data⟩ (by simp) rfl)
          refine g_move _ _ (show v 5 = _ from d5) ?_
          exact ⟨hC, q_c, q_r, q_sl, keepE (by decide) k0, keepE (by decide) k1, keepE (by decide) k2, keepE (by decide) k3, keepE (by decide) k4, keepE (by decide) k5, newE rfl, keepE (by decide) k7, keepE (by decide) k8, ⟨fun h => by rw [setB_other _ _ _ (by decide)] at h; exact k9.1 h, fun h => by rw [setB_other _ _ _ (by decide)] at h; exact k9.2 h⟩, (fun h => by rw [setB_other _ _ _ (by decide)] at h ⊢; exact m9_0 h)⟩
        · obtain rfl := Option.some.inj ho
          have d6 := k6 (hall ⟨6, .data⟩ (by simp) rfl)
          refine g_extract _ _ 0 _ (show v 6 = _ from d6) rfl ?_
          exact ⟨hC, q_c, q_r, q_sl, keepE (by decide) k0, keepE (by decide) k1, keepE (by decide) k2, keepE (by decide) k3, keepE (by decide) k4, keepE (by decide) k5, keepE (by decide) k6, newE rfl, keepE (by decide) k8, ⟨fun h => by rw [setB_other _ _ _ (by decide)] at h; exact k9.1 h, fun h => by rw [setB_other _ _ _ (by decide)] at h; exact k9.2 h⟩, (fun h => by rw [setB_other _ _ _ (by decide)] at h ⊢; exact m9_0 h)⟩
        · obtain rfl := Option.some.inj ho
          have d6 := k6 (hall ⟨6, .data⟩ (by simp) rfl)
          refine g_extract _ _ 1 _ (show v 6 = _ from d6) rfl ?_
          exact ⟨hC, q_c, q_r, q_sl, keepE (by decide) k0, keepE (by decide) k1, keepE (by decide) k2, keepE (by decide) k3, keepE (by decide) k4, keepE (by decide) k5, keepE (by decide) k6, keepE (by decide) k7, newE rfl, ⟨fun h => by rw [setB_other _ _ _ (by decide)] at h; exact k9.1 h, fun h => by rw [setB_other _ _ _ (by decide)] at h; exact k9.2 h⟩, (fun h => by rw [setB_other _ _ _ (by decide)] at h ⊢; exact m9_0 h)⟩
        · obtain rfl := Option.some.inj ho
          have hold := k9.1 hti
          have hlo := l_s
          have d7 := k7 (hall ⟨7, .data⟩ (by simp) rfl)
          refine g_store_all 60 _ _ (w2.heap.size) (nl (Y)) _ 60 rfl (show v 7 = _ from d7) hold (szN 0) rfl (one_nl _) (fun w' h1 h2 => ?_)
          exact ⟨h1.below hC hlo, h1.blk q_c (by omega), h1.blk q_r (by omega), h1.blk q_sl (by omega), keepE (by decide) k0, keepE (by decide) k1, keepE (by decide) k2, keepE (by decide) k3, keepE (by decide) k4, keepE (by decide) k5, keepE (by decide) k6, keepE (by decide) k7, keepE (by decide) k8, ⟨(fun h => by have := setB_self t 9; rw [h] at this; cases this), fun _ => h2⟩, (fun _ => by rw [setB_other _ _ _ (by decide)]; exact hall ⟨0, .phase⟩ (by simp) rfl)⟩
        · simp at ho
      · simp only [full, Act.put, List.setIfInBounds_toArray, List.set_cons_succ, List.set_cons_zero, Nat.zero_add, Nat.reduceAdd]
        intro t v w121 hS ht
        obtain ⟨hC, q_c, q_r, q_sl, k0, k1, k2, k3, k4, k5, k6, k7, k8, k9, m9_0⟩ := hS
        have h_s := k9.2 (ht 9 (by decide))
        have d0 := k0 (ht 0 (by decide)); (try rw [d0])
        clear d0
        have d1 := k1 (ht 1 (by decide)); (try rw [d1])
        clear d1
        have d2 := k2 (ht 2 (by decide)); (try rw [d2])
        clear d2
        have d3 := k3 (ht 3 (by decide)); (try rw [d3])
        clear d3
        have d4 := k4 (ht 4 (by decide)); (try rw [d4])
        clear d4
        have d5 := k5 (ht 5 (by decide)); (try rw [d5])
        clear d5
        have d6 := k6 (ht 6 (by decide)); (try rw [d6])
        clear d6
        have d7 := k7 (ht 7 (by decide)); (try rw [d7])
        clear d7
        have d8 := k8 (ht 8 (by decide)); (try rw [d8])
        clear d8
        clear ht k0 k1 k2 k3 k4 k5 k6 k7 k8 k9 m9_0 lt_c lt_r lt_s lt_sl
        generalize v 9 = y21_9
        replace b_c := q_c
        clear q_c
        replace b_r := q_r
        clear q_r
        replace b_sl := q_sl
        clear q_sl
        replace b_s := h_s
        clear h_s
        replace hB := hB.trans hC
        clear hC hB0
        go_wp2_with fail
        go_roundw
        case rel => exact ⟨3, by omega, by go_num, hB, b_c, b_r, b_s, b_sl⟩
        case measure => simp [intOf]
    · replace b_s : Blk wr (w2.heap.size) (nl Y) 60 := b_s
      go_wp2_with (first
        | ((with_reducible refine at_loadD 24 60 ?_); refine L_load_all 60 _ (w2.heap.size) (nl Y) 60 _ rfl b_s Tryd.underlying60 rfl (szN 0) ?_)
        | ((with_reducible refine at_storeX 4 60 ?_); refine L_store_all 60 _ _ (w1.heap.size) (nl (Y)) _ 60 rfl rfl b_r (szN 0) (rfl) (one_nl _) ?_; have b0_r := b_r; clear b_r; intro w201 t_ b_r; replace b_c := t_.blk b_c (by omega); replace b_s := t_.blk b_s (by omega); replace b_sl := t_.blk b_sl (by omega); replace hB := t_.below hB l_r; clear t_ b0_r))
      exact bodyPost_ret (results_blk rfl _ (nl Y) _ rfl b_r Tryd.underlying60 rfl (szN 0)) rfl ⟨rfl, hB⟩

end Go.Proofs.YtpenicjlpiechaaDoor.Wd
