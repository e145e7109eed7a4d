/- What the program's plan.May, asker and the function that it makes, moment, Begins, Tells, Told and Safe answer. -/
import Derived.Test.YtcclcemdodoiiaaGreatDoorQRunG
import Derived.Test.YtcclcemdodoiiaaGreatDoorQRcMath
import Derived.WalkKit
import Derived.WalkSpells
import Derived.WalkLawsBesides
namespace Go.Proofs.YtcclcemdodoiiaaGreatDoor
set_option maxRecDepth 10000
open Go Go.RowKit
set_option linter.unusedVariables false
set_option linter.unusedSimpArgs false

set_option maxHeartbeats 4000000 in
theorem pmay_b (P : Pl) (w : World) (B : Bool) (hB : Shut (okP P = B)) : Calls Tryz.prog 11 #[.agg (plc P).toArray] w fun e w' => e = .returned (.bool B) ∧ Below w.heap.size w w' := by
  have hM := Ms.refl w
  go_enter Tryz.func11, Tryz.ntmps11
  refine wp_seq_k fun _ κ1 => wl_region (wl_give rfl (g_box 25 _ (plc (P)) rfl ?_))
  intro w2 t_ b_
  replace hM := hM.new t_ b_
  clear t_ b_
  refine wl_fare kn ?_
  simp (disch := omega) only [fx, pv, kx]
  refine wl_nil (κ1 _ _ ?_)
  refine wp_seq_k fun _ κ3 => ?_
  by_cases c0 : -1152921504606846976 ≤ P.st
  · skip
    by_cases c1 : P.st ≤ 1152921504606846976
    · skip
      by_cases c2 : 1 ≤ P.lg
      · skip
        by_cases c3 : P.lg ≤ 1099511627776
        · skip
          by_cases c4 : 1 ≤ P.dl
          · skip
            by_cases c5 : P.dl ≤ 16
            · skip
              by_cases c6 : 1 ≤ P.ct
              · skip
                by_cases c7 : P.ct ≤ 1024
                · obtain rfl : true = B := by rw [← hB.out]; exact (decide_eq_true ⟨c0, c1, c2, c3, c4, c5, c6, c7⟩).symm
                  (try simp only [List.append_eq, List.cons_append, List.nil_append])
                  refine wl_region (wl_fare kn ?_)
                  simp (config := { maxSteps := 10000000 }) (disch := omega) only [fx, pv, kx, (hM.get 0 rfl).cell 0 (.int .i64 ((P).st)) rfl, (hM.get 0 rfl).cell 1 (.int .i64 ((P).lg)) rfl, (hM.get 0 rfl).cell 2 (.int .i64 ((P).dl)) rfl, (hM.get 0 rfl).cell 3 (.int .i64 ((P).ct)) rfl]
                  refine wl_nil (κ3 _ _ ?_)
                  refine wp_ret ?_
                  go_ret
                  exact ⟨rfl, hM.below⟩
                · obtain rfl : false = B := by rw [← hB.out]; exact (decide_eq_false (fun h => c7 (by have h : POk P := h; omega))).symm
                  (try simp only [List.append_eq, List.cons_append, List.nil_append])
                  refine wl_region (wl_fare kn ?_)
                  simp (config := { maxSteps := 10000000 }) (disch := omega) only [fx, pv, kx, (hM.get 0 rfl).cell 0 (.int .i64 ((P).st)) rfl, (hM.get 0 rfl).cell 1 (.int .i64 ((P).lg)) rfl, (hM.get 0 rfl).cell 2 (.int .i64 ((P).dl)) rfl, (hM.get 0 rfl).cell 3 (.int .i64 ((P).ct)) rfl]
                  refine wl_nil (κ3 _ _ ?_)
                  refine wp_ret ?_
                  go_ret
                  exact ⟨rfl, hM.below⟩
              · obtain rfl : false = B := by rw [← hB.out]; exact (decide_eq_false (fun h => c6 (by have h : POk P := h; omega))).symm
                (try simp only [List.append_eq, List.cons_append, List.nil_append])
                refine wl_region (wl_fare kn ?_)
                simp (config := { maxSteps := 10000000 }) (disch := omega) only [fx, pv, kx, (hM.get 0 rfl).cell 0 (.int .i64 ((P).st)) rfl, (hM.get 0 rfl).cell 1 (.int .i64 ((P).lg)) rfl, (hM.get 0 rfl).cell 2 (.int .i64 ((P).dl)) rfl, (hM.get 0 rfl).cell 3 (.int .i64 ((P).ct)) rfl]
                refine wl_nil (κ3 _ _ ?_)
                refine wp_ret ?_
                go_ret
                exact ⟨rfl, hM.below⟩
            · obtain rfl : false = B := by rw [← hB.out]; exact (decide_eq_false (fun h => c5 (by have h : POk P := h; omega))).symm
              (try simp only [List.append_eq, List.cons_append, List.nil_append])
              refine wl_region (wl_fare kn ?_)
              simp (config := { maxSteps := 10000000 }) (disch := omega) only [fx, pv, kx, (hM.get 0 rfl).cell 0 (.int .i64 ((P).st)) rfl, (hM.get 0 rfl).cell 1 (.int .i64 ((P).lg)) rfl, (hM.get 0 rfl).cell 2 (.int .i64 ((P).dl)) rfl]
              refine wl_nil (κ3 _ _ ?_)
              refine wp_ret ?_
              go_ret
              exact ⟨rfl, hM.below⟩
          · obtain rfl : false = B := by rw [← hB.out]; exact (decide_eq_false (fun h => c4 (by have h : POk P := h; omega))).symm
            (try simp only [List.append_eq, List.cons_append, List.nil_append])
            refine wl_region (wl_fare kn ?_)
            simp (config := { maxSteps := 10000000 }) (disch := omega) only [fx, pv, kx, (hM.get 0 rfl).cell 0 (.int .i64 ((P).st)) rfl, (hM.get 0 rfl).cell 1 (.int .i64 ((P).lg)) rfl, (hM.get 0 rfl).cell 2 (.int .i64 ((P).dl)) rfl]
            refine wl_nil (κ3 _ _ ?_)
            refine wp_ret ?_
            go_ret
            exact ⟨rfl, hM.below⟩
        · obtain rfl : false = B := by rw [← hB.out]; exact (decide_eq_false (fun h => c3 (by have h : POk P := h; omega))).symm
          (try simp only [List.append_eq, List.cons_append, List.nil_append])
          refine wl_region (wl_fare kn ?_)
          simp (config := { maxSteps := 10000000 }) (disch := omega) only [fx, pv, kx, (hM.get 0 rfl).cell 0 (.int .i64 ((P).st)) rfl, (hM.get 0 rfl).cell 1 (.int .i64 ((P).lg)) rfl]
          refine wl_nil (κ3 _ _ ?_)
          refine wp_ret ?_
          go_ret
          exact ⟨rfl, hM.below⟩
      · obtain rfl : false = B := by rw [← hB.out]; exact (decide_eq_false (fun h => c2 (by have h : POk P := h; omega))).symm
        (try simp only [List.append_eq, List.cons_append, List.nil_append])
        refine wl_region (wl_fare kn ?_)
        simp (config := { maxSteps := 10000000 }) (disch := omega) only [fx, pv, kx, (hM.get 0 rfl).cell 0 (.int .i64 ((P).st)) rfl, (hM.get 0 rfl).cell 1 (.int .i64 ((P).lg)) rfl]
        refine wl_nil (κ3 _ _ ?_)
        refine wp_ret ?_
        go_ret
        exact ⟨rfl, hM.below⟩
    · obtain rfl : false = B := by rw [← hB.out]; exact (decide_eq_false (fun h => c1 (by have h : POk P := h; omega))).symm
      (try simp only [List.append_eq, List.cons_append, List.nil_append])
      refine wl_region (wl_fare kn ?_)
      simp (config := { maxSteps := 10000000 }) (disch := omega) only [fx, pv, kx, (hM.get 0 rfl).cell 0 (.int .i64 ((P).st)) rfl]
      refine wl_nil (κ3 _ _ ?_)
      refine wp_ret ?_
      go_ret
      exact ⟨rfl, hM.below⟩
  · obtain rfl : false = B := by rw [← hB.out]; exact (decide_eq_false (fun h => c0 (by have h : POk P := h; omega))).symm
    (try simp only [List.append_eq, List.cons_append, List.nil_append])
    refine wl_region (wl_fare kn ?_)
    simp (config := { maxSteps := 10000000 }) (disch := omega) only [fx, pv, kx, (hM.get 0 rfl).cell 0 (.int .i64 ((P).st)) rfl]
    refine wl_nil (κ3 _ _ ?_)
    refine wp_ret ?_
    go_ret
    exact ⟨rfl, hM.below⟩
theorem pmay_any (P : Pl) (w : World) : Calls Tryz.prog 11 #[.agg (plc P).toArray] w fun e w' => e = .returned (.bool (okP P)) ∧ Below w.heap.size w w' := pmay_b P w _ ⟨rfl⟩
theorem may_yes (P : Pl) (w : World) (h : POk P) : Calls Tryz.prog 11 #[.agg (plc P).toArray] w fun e w' => e = .returned (.bool true) ∧ Below w.heap.size w w' := pmay_b P w true ⟨decide_eq_true h⟩
theorem may_no (P : Pl) (w : World) (h : ¬ POk P) : Calls Tryz.prog 11 #[.agg (plc P).toArray] w fun e w' => e = .returned (.bool false) ∧ Below w.heap.size w w' := pmay_b P w false ⟨decide_eq_false h⟩
set_option maxHeartbeats 4000000 in
theorem asker_any {w0 w : World} {R : List HP} (P : Pl) (n : Int) (hM : Ms w0 w R) : Calls Tryz.prog 56 #[.agg (plc P).toArray, .int .i64 n] w fun e w' => ∃ b p q, e = .returned (.func (.func 81) #[] #[.pointer (some ⟨b, 0, none⟩), .pointer (some ⟨p, 0, none⟩), .pointer (some ⟨q, 0, none⟩)]) ∧ Ms w0 w' (blk b [.bool (okP P)] 4 :: blk p (plc P) 25 :: blk q [.int .i64 n] 3 :: R) := by
  go_enter Tryz.func56, Tryz.ntmps56
  refine wp_seq_k fun _ κ1 => wl_region (wl_give rfl (g_box 25 _ (plc (P)) rfl ?_))
  intro w2 t_ b_
  replace hM := hM.new t_ b_
  clear t_ b_
  try simp only [nz]
  refine wl_give rfl (g_box1 3 _ (.int .i64 (n)) rfl rfl fun w3 t_ b_ => ?_)
  replace hM := hM.new t_ b_
  clear t_ b_
  refine wl_fare kn ?_
  simp (disch := omega) only [fx, pv, kx]
  refine wl_nil (κ1 _ _ ?_)
  refine wp_seq_k fun _ κ4 => wl_region (wl_give rfl (g_load_all 25 _ (w.heap.size) (plc (P)) 25 _ rfl (hM.get 1 rfl) Tryz.underlying25 rfl (szPl _) ?_))
  try simp only [nz]
  refine wl_give rfl (g_cM hM (kf11 _ _) (pmay_any P w3) rfl fun w5 hM => ?_)
  try simp only [nz]
  refine wl_give rfl (g_alloc1 4 (.bool false) zeroB rfl fun w6 t_ b_ => ?_)
  replace hM := hM.new t_ b_
  clear t_ b_
  try simp only [nz]
  refine wl_give rfl (g_st1 4 _ _ (w5.heap.size) (0) (.bool (okP P)) _ 4 rfl rfl (hM.get 0 rfl) (show 0 < 1 by decide) rfl rfl size4 fun w7 t_ b_ => ?_)
  replace hM : Ms w0 w7 (blk (w5.heap.size) ([.bool (okP P)]) 4 :: blk (w2.heap.size) ([.int .i64 (n)]) 3 :: blk (w.heap.size) (plc (P)) 25 :: R) := hM.put 0 rfl t_ b_
  clear t_ b_
  try simp only [nz]
  refine wl_nil (κ4 _ _ ?_)
  refine wp_seq_k fun _ κ8 => wl_region (wl_give rfl (g_mkF 81 _ [.pointer (some ⟨w5.heap.size, 0, none⟩), .pointer (some ⟨w.heap.size, 0, none⟩), .pointer (some ⟨w2.heap.size, 0, none⟩)] rfl ?_))
  refine wl_fare kn ?_
  simp (disch := omega) only [fx, pv, kx]
  refine wl_nil (κ8 _ _ ?_)
  refine wp_ret ?_
  go_ret
  exact ⟨_, _, _, rfl, ((hM.up 2 rfl).up 1 rfl)⟩
set_option maxHeartbeats 4000000 in
theorem asks_b {w0 w : World} {R : List HP} {b p q : Nat} (P : Pl) (n i : Int) (hM : Ms w0 w (blk b [.bool (okP P)] 4 :: blk p (plc P) 25 :: blk q [.int .i64 n] 3 :: R)) (X B : Bool) (hX : okP P = X) (hs : X = true → IntKind.i64.wrap (P.ct + n) = P.ct + n) (hB : Shut (decide (X = true ∧ 1 ≤ i ∧ i ≤ P.ct + n) = B)) : Calls Tryz.prog 81 #[.int .i64 i, .pointer (some ⟨b, 0, none⟩), .pointer (some ⟨p, 0, none⟩), .pointer (some ⟨q, 0, none⟩)] w fun e w' => e = .returned (.bool B) ∧ Below w.heap.size w w' := by
  rw [hX] at hM
  have hBe := Below.refl w.heap.size w
  cases X with
  | true =>
    go_enter Tryz.func81, Tryz.ntmps81
    refine wp_seq_k fun _ κ1 => wl_region (wl_fare kn ?_)
    simp (disch := omega) only [fx, pv, kx]
    refine wl_nil (κ1 _ _ ?_)
    refine wp_seq_k fun _ κ2 => ?_
    by_cases h1 : 1 ≤ i
    · skip
      by_cases h2 : i ≤ P.ct + n
      · obtain rfl : true = B := by rw [← hB.out]; exact (decide_eq_true ⟨rfl, h1, h2⟩).symm
        refine wl_region (wl_fare kn ?_)
        simp (disch := omega) only [fx, pv, kx, (hM.get 0 rfl).cell 0 (.bool true) rfl, (hM.get 1 rfl).cell 3 (.int .i64 ((P).ct)) rfl, (hM.get 2 rfl).cell 0 (.int .i64 (n)) rfl, ((hs rfl) : IntKind.i64.wrap (((P).ct) + (n)) = P.ct + n)]
        refine wl_nil (κ2 _ _ ?_)
        refine wp_ret ?_
        go_ret
        exact ⟨rfl, hBe⟩
      · obtain rfl : false = B := by rw [← hB.out]; exact (decide_eq_false (fun h => h2 h.2.2)).symm
        refine wl_region (wl_fare kn ?_)
        simp (disch := omega) only [fx, pv, kx, (hM.get 0 rfl).cell 0 (.bool true) rfl, (hM.get 1 rfl).cell 3 (.int .i64 ((P).ct)) rfl, (hM.get 2 rfl).cell 0 (.int .i64 (n)) rfl, ((hs rfl) : IntKind.i64.wrap (((P).ct) + (n)) = P.ct + n)]
        refine wl_nil (κ2 _ _ ?_)
        refine wp_ret ?_
        go_ret
        exact ⟨rfl, hBe⟩
    · obtain rfl : false = B := by rw [← hB.out]; exact (decide_eq_false (fun h => h1 h.2.1)).symm
      refine wl_region (wl_fare kn ?_)
      simp (disch := omega) only [fx, pv, kx, (hM.get 0 rfl).cell 0 (.bool true) rfl]
      refine wl_nil (κ2 _ _ ?_)
      refine wp_ret ?_
      go_ret
      exact ⟨rfl, hBe⟩
  | false =>
    obtain rfl : false = B := by rw [← hB.out]; exact (decide_eq_false (fun h => Bool.noConfusion h.1)).symm
    go_enter Tryz.func81, Tryz.ntmps81
    refine wp_seq_k fun _ κ1 => wl_region (wl_fare kn ?_)
    simp (disch := omega) only [fx, pv, kx]
    refine wl_nil (κ1 _ _ ?_)
    refine wp_seq_k fun _ κ2 => wl_region (wl_fare kn ?_)
    simp (disch := omega) only [fx, pv, kx, (hM.get 0 rfl).cell 0 (.bool false) rfl]
    refine wl_nil (κ2 _ _ ?_)
    refine wp_ret ?_
    go_ret
    exact ⟨rfl, hBe⟩
theorem asked_yes {w0 w : World} {R : List HP} {b p q : Nat} (P : Pl) (n i : Int) (hM : Ms w0 w (blk b [.bool (okP P)] 4 :: blk p (plc P) 25 :: blk q [.int .i64 n] 3 :: R)) (hn : POk P ∧ 1 ≤ i ∧ i ≤ P.ct + n) (h : POk P → -9223372036854775808 ≤ P.ct + n ∧ P.ct + n ≤ 9223372036854775807) : Calls Tryz.prog 81 #[.int .i64 i, .pointer (some ⟨b, 0, none⟩), .pointer (some ⟨p, 0, none⟩), .pointer (some ⟨q, 0, none⟩)] w fun e w' => e = .returned (.bool true) ∧ Below w.heap.size w w' :=
  asks_b P n i hM true true (decide_eq_true hn.1) (fun _ => wrap_id _ (h hn.1).1 (h hn.1).2) ⟨decide_eq_true ⟨rfl, hn.2⟩⟩
theorem asked_no {w0 w : World} {R : List HP} {b p q : Nat} (P : Pl) (n i : Int) (hM : Ms w0 w (blk b [.bool (okP P)] 4 :: blk p (plc P) 25 :: blk q [.int .i64 n] 3 :: R)) (hn : ¬ (POk P ∧ 1 ≤ i ∧ i ≤ P.ct + n)) (h : POk P → -9223372036854775808 ≤ P.ct + n ∧ P.ct + n ≤ 9223372036854775807) : Calls Tryz.prog 81 #[.int .i64 i, .pointer (some ⟨b, 0, none⟩), .pointer (some ⟨p, 0, none⟩), .pointer (some ⟨q, 0, none⟩)] w fun e w' => e = .returned (.bool false) ∧ Below w.heap.size w w' :=
  asks_b P n i hM (okP P) false rfl (fun e => by have hk : POk P := of_decide_eq_true e; exact wrap_id _ (h hk).1 (h hk).2) ⟨decide_eq_false (fun e => hn ⟨of_decide_eq_true e.1, e.2⟩)⟩
set_option maxHeartbeats 4000000 in
theorem mom_any (P : Pl) (i : Int) (w : World) (h : POk P) (h1 : 1 ≤ i) (h2 : i ≤ 1041) : Calls Tryz.prog 57 #[.agg (plc P).toArray, .int .i64 i] w fun e w' => e = .returned (.int .i64 (bgn P i)) ∧ Below w.heap.size w w' := by
  have b := mul_bd (a := i - 1) (b := P.lg) (A := 1040) (B := 1099511627776) (by omega) (by omega) (by omega) (by omega)
  have c := bgn_bd h h1 h2
  have e1 : Shut (IntKind.i64.wrap (i - 1) = i - 1) := ⟨wrap_id _ (by omega) (by omega)⟩
  have e2 : Shut (IntKind.i64.wrap ((i - 1) * P.lg) = (i - 1) * P.lg) := ⟨wrap_id _ (by omega) (by omega)⟩
  have e3 : Shut (IntKind.i64.wrap (P.st + (i - 1) * P.lg) = bgn P i) := ⟨wrap_id _ (by unfold bgn at c; omega) (by unfold bgn at c; omega)⟩
  clear b c
  have hM := Ms.refl w
  go_enter Tryz.func57, Tryz.ntmps57
  refine wp_seq_k fun _ κ1 => wl_region (wl_give rfl (g_box 25 _ (plc (P)) rfl ?_))
  intro w2 t_ b_
  replace hM := hM.new t_ b_
  clear t_ b_
  refine wl_fare kn ?_
  simp (disch := omega) only [fx, pv, kx]
  refine wl_nil (κ1 _ _ ?_)
  refine wp_seq_k fun _ κ3 => wl_region (wl_fare kn ?_)
  simp (disch := omega) only [fx, pv, kx, (hM.get 0 rfl).cell 0 (.int .i64 ((P).st)) rfl, (e1.out : IntKind.i64.wrap ((i) - (1)) = i - 1), (hM.get 0 rfl).cell 1 (.int .i64 ((P).lg)) rfl]
  refine wl_give rfl (g_imul 2 _ _ .i64 (i - 1) (P.lg) ((i - 1) * P.lg) rfl rfl e2.out ?_)
  refine wl_fare kn ?_
  simp (disch := omega) only [fx, pv, kx, (e3.out : IntKind.i64.wrap (((P).st) + ((i - 1) * P.lg)) = bgn P i)]
  refine wl_nil (κ3 _ _ ?_)
  refine wp_ret ?_
  go_ret
  exact ⟨rfl, hM.below⟩
set_option maxHeartbeats 4000000 in
theorem pbegins_any (P : Pl) (i : Int) (w : World) (X E : Int) (h : Shut (pbg P i = (X, E))) : Calls Tryz.prog 28 #[.agg (plc P).toArray, .int .i64 i] w fun e w' => e = .returned (.tuple #[.int .i64 X, .int .i64 E]) ∧ Below w.heap.size w w' := by
  have h := h.out
  unfold pbg at h
  have hM := Ms.refl w
  by_cases hn : POk P ∧ 1 ≤ i ∧ i ≤ P.ct + 1
  · rw [if_pos hn] at h; cases h
    go_enter Tryz.func28, Tryz.ntmps28
    refine wp_seq_k fun _ κ1 => wl_region (wl_give rfl (g_box 25 _ (plc (P)) rfl ?_))
    intro w2 t_ b_
    replace hM := hM.new t_ b_
    clear t_ b_
    refine wl_fare kn ?_
    simp (disch := omega) only [fx, pv, kx]
    refine wl_nil (κ1 _ _ ?_)
    refine wp_seq_k fun _ κ3 => wp_seq_k fun _ κ4 => wl_region (wl_give rfl (g_load_all 25 _ (w.heap.size) (plc (P)) 25 _ rfl (hM.get 0 rfl) Tryz.underlying25 rfl (szPl _) ?_))
    try simp only [nz]
    refine wl_give rfl (g_call 56 _ _ [.agg (plc (P)).toArray, .int .i64 (1)] (kf56 _ _) rfl ((asker_any P (1) hM).mono ?_))
    rintro e w5 ⟨b6, p7, q8, rfl, h_⟩
    refine ⟨_, rfl, ?_⟩
    replace hM : Ms w w5 [blk (b6) ([.bool (okP P)]) 4, blk (p7) (plc (P)) 25, blk (q8) ([.int .i64 (1)]) 3, blk (w.heap.size) (plc (P)) 25] := h_
    clear h_
    refine wl_fare kn ?_
    simp (disch := omega) only [fx, pv, kx]
    refine wl_nil (κ4 _ _ ?_)
    refine wp_seq_k fun _ κ9 => wl_region (wl_fare kn ?_)
    simp (disch := omega) only [fx, pv, kx]
    refine wl_give rfl (g_callc _ 81 _ _ #[.pointer (some ⟨b6, 0, none⟩), .pointer (some ⟨p7, 0, none⟩), .pointer (some ⟨q8, 0, none⟩)] [.int .i64 (i)] rfl (kf81 _ _) rfl ((asked_yes P (1) i (show Ms w w5 [blk (b6) ([.bool (okP P)]) 4, blk (p7) (plc (P)) 25, blk (q8) ([.int .i64 (1)]) 3, blk (w.heap.size) (plc (P)) 25] from (((hM.up 2 rfl).up 2 rfl).up 2 rfl)) hn (by intro hk; omega)).mono ?_))
    rintro e w10 ⟨rfl, t_⟩
    refine ⟨_, rfl, ?_⟩
    replace hM := hM.call t_
    clear t_
    refine wl_fare kn ?_
    simp (disch := omega) only [fx, pv, kx]
    refine wl_nil (κ9 _ _ ?_)
    refine wp_cond_false rfl (wp_skip ?_)
    refine κ3 _ _ (wp_seq_k fun _ κ11 => ?_)
    refine wl_region (wl_give rfl (g_load_all 25 _ (w.heap.size) (plc (P)) 25 _ rfl (hM.get 3 rfl) Tryz.underlying25 rfl (szPl _) ?_))
    refine wl_fare kn ?_
    simp (disch := omega) only [fx, pv, kx]
    refine wl_give rfl (g_cM hM (kf57 _ _) (mom_any P i w10 hn.1 hn.2.1 (by have := hn.2.2; have := hn.1; omega)) rfl fun w12 hM => wl_fare kn ?_)
    simp (disch := omega) only [fx, pv, kx]
    refine wl_nil (κ11 _ _ ?_)
    refine wp_ret ?_
    go_ret2
    exact ⟨rfl, hM.below⟩
  · rw [if_neg hn] at h; cases h
    go_enter Tryz.func28, Tryz.ntmps28
    refine wp_seq_k fun _ κ1 => wl_region (wl_give rfl (g_box 25 _ (plc (P)) rfl ?_))
    intro w2 t_ b_
    replace hM := hM.new t_ b_
    clear t_ b_
    refine wl_fare kn ?_
    simp (disch := omega) only [fx, pv, kx]
    refine wl_nil (κ1 _ _ ?_)
    refine wp_seq_k fun _ κ3 => wp_seq_k fun _ κ4 => wl_region (wl_give rfl (g_load_all 25 _ (w.heap.size) (plc (P)) 25 _ rfl (hM.get 0 rfl) Tryz.underlying25 rfl (szPl _) ?_))
    try simp only [nz]
    refine wl_give rfl (g_call 56 _ _ [.agg (plc (P)).toArray, .int .i64 (1)] (kf56 _ _) rfl ((asker_any P (1) hM).mono ?_))
    rintro e w5 ⟨b6, p7, q8, rfl, h_⟩
    refine ⟨_, rfl, ?_⟩
    replace hM : Ms w w5 [blk (b6) ([.bool (okP P)]) 4, blk (p7) (plc (P)) 25, blk (q8) ([.int .i64 (1)]) 3, blk (w.heap.size) (plc (P)) 25] := h_
    clear h_
    refine wl_fare kn ?_
    simp (disch := omega) only [fx, pv, kx]
    refine wl_nil (κ4 _ _ ?_)
    refine wp_seq_k fun _ κ9 => wl_region (wl_fare kn ?_)
    simp (disch := omega) only [fx, pv, kx]
    refine wl_give rfl (g_callc _ 81 _ _ #[.pointer (some ⟨b6, 0, none⟩), .pointer (some ⟨p7, 0, none⟩), .pointer (some ⟨q8, 0, none⟩)] [.int .i64 (i)] rfl (kf81 _ _) rfl ((asked_no P (1) i (show Ms w w5 [blk (b6) ([.bool (okP P)]) 4, blk (p7) (plc (P)) 25, blk (q8) ([.int .i64 (1)]) 3, blk (w.heap.size) (plc (P)) 25] from (((hM.up 2 rfl).up 2 rfl).up 2 rfl)) hn (by intro hk; omega)).mono ?_))
    rintro e w10 ⟨rfl, t_⟩
    refine ⟨_, rfl, ?_⟩
    replace hM := hM.call t_
    clear t_
    refine wl_fare kn ?_
    simp (disch := omega) only [fx, pv, kx]
    refine wl_nil (κ9 _ _ ?_)
    refine wp_cond_true rfl (wp_seq_k fun _ κ11 => ?_)
    refine wl_region (wl_fare kn ?_)
    simp (disch := omega) only [fx, pv, kx]
    refine wl_nil (κ11 _ _ ?_)
    refine wp_ret ?_
    go_ret2
    exact ⟨rfl, hM.below⟩
set_option maxHeartbeats 4000000 in
theorem ptold_any (P : Pl) (i : Int) (w : World) (X E : Int) (h : Shut (pto P i = (X, E))) : Calls Tryz.prog 30 #[.agg (plc P).toArray, .int .i64 i] w fun e w' => e = .returned (.tuple #[.int .i64 X, .int .i64 E]) ∧ Below w.heap.size w w' := by
  have h := h.out
  unfold pto at h
  have hM := Ms.refl w
  by_cases hn : POk P ∧ 1 ≤ i ∧ i ≤ P.ct
  · rw [if_pos hn] at h; cases h
    have ed : Shut (IntKind.i64.wrap (i + P.dl) = i + P.dl) := ⟨by have := hn.1; exact wrap_id _ (by omega) (by omega)⟩
    go_enter Tryz.func30, Tryz.ntmps30
    refine wp_seq_k fun _ κ1 => wl_region (wl_give rfl (g_box 25 _ (plc (P)) rfl ?_))
    intro w2 t_ b_
    replace hM := hM.new t_ b_
    clear t_ b_
    refine wl_fare kn ?_
    simp (disch := omega) only [fx, pv, kx]
    refine wl_nil (κ1 _ _ ?_)
    refine wp_seq_k fun _ κ3 => wp_seq_k fun _ κ4 => wl_region (wl_give rfl (g_load_all 25 _ (w.heap.size) (plc (P)) 25 _ rfl (hM.get 0 rfl) Tryz.underlying25 rfl (szPl _) ?_))
    try simp only [nz]
    refine wl_give rfl (g_call 56 _ _ [.agg (plc (P)).toArray, .int .i64 (0)] (kf56 _ _) rfl ((asker_any P (0) hM).mono ?_))
    rintro e w5 ⟨b6, p7, q8, rfl, h_⟩
    refine ⟨_, rfl, ?_⟩
    replace hM : Ms w w5 [blk (b6) ([.bool (okP P)]) 4, blk (p7) (plc (P)) 25, blk (q8) ([.int .i64 (0)]) 3, blk (w.heap.size) (plc (P)) 25] := h_
    clear h_
    refine wl_fare kn ?_
    simp (disch := omega) only [fx, pv, kx]
    refine wl_nil (κ4 _ _ ?_)
    refine wp_seq_k fun _ κ9 => wl_region (wl_fare kn ?_)
    simp (disch := omega) only [fx, pv, kx]
    refine wl_give rfl (g_callc _ 81 _ _ #[.pointer (some ⟨b6, 0, none⟩), .pointer (some ⟨p7, 0, none⟩), .pointer (some ⟨q8, 0, none⟩)] [.int .i64 (i)] rfl (kf81 _ _) rfl ((asked_yes P (0) i (show Ms w w5 [blk (b6) ([.bool (okP P)]) 4, blk (p7) (plc (P)) 25, blk (q8) ([.int .i64 (0)]) 3, blk (w.heap.size) (plc (P)) 25] from (((hM.up 2 rfl).up 2 rfl).up 2 rfl)) (by simpa using hn) (by intro hk; omega)).mono ?_))
    rintro e w10 ⟨rfl, t_⟩
    refine ⟨_, rfl, ?_⟩
    replace hM := hM.call t_
    clear t_
    refine wl_fare kn ?_
    simp (disch := omega) only [fx, pv, kx]
    refine wl_nil (κ9 _ _ ?_)
    refine wp_cond_false rfl (wp_skip ?_)
    refine κ3 _ _ (wp_seq_k fun _ κ11 => ?_)
    refine wl_region (wl_give rfl (g_load_all 25 _ (w.heap.size) (plc (P)) 25 _ rfl (hM.get 3 rfl) Tryz.underlying25 rfl (szPl _) ?_))
    refine wl_fare kn ?_
    simp (disch := omega) only [fx, pv, kx, (hM.get 3 rfl).cell 2 (.int .i64 ((P).dl)) rfl, (ed.out : IntKind.i64.wrap ((i) + ((P).dl)) = i + P.dl)]
    refine wl_give rfl (g_cM hM (kf57 _ _) (mom_any P (i + P.dl) w10 hn.1 (by have := hn.1; have := hn.2; omega) (by have := hn.2.2; have := hn.1; omega)) rfl fun w12 hM => wl_fare kn ?_)
    simp (disch := omega) only [fx, pv, kx]
    refine wl_nil (κ11 _ _ ?_)
    refine wp_ret ?_
    go_ret2
    exact ⟨rfl, hM.below⟩
  · rw [if_neg hn] at h; cases h
    go_enter Tryz.func30, Tryz.ntmps30
    refine wp_seq_k fun _ κ1 => wl_region (wl_give rfl (g_box 25 _ (plc (P)) rfl ?_))
    intro w2 t_ b_
    replace hM := hM.new t_ b_
    clear t_ b_
    refine wl_fare kn ?_
    simp (disch := omega) only [fx, pv, kx]
    refine wl_nil (κ1 _ _ ?_)
    refine wp_seq_k fun _ κ3 => wp_seq_k fun _ κ4 => wl_region (wl_give rfl (g_load_all 25 _ (w.heap.size) (plc (P)) 25 _ rfl (hM.get 0 rfl) Tryz.underlying25 rfl (szPl _) ?_))
    try simp only [nz]
    refine wl_give rfl (g_call 56 _ _ [.agg (plc (P)).toArray, .int .i64 (0)] (kf56 _ _) rfl ((asker_any P (0) hM).mono ?_))
    rintro e w5 ⟨b6, p7, q8, rfl, h_⟩
    refine ⟨_, rfl, ?_⟩
    replace hM : Ms w w5 [blk (b6) ([.bool (okP P)]) 4, blk (p7) (plc (P)) 25, blk (q8) ([.int .i64 (0)]) 3, blk (w.heap.size) (plc (P)) 25] := h_
    clear h_
    refine wl_fare kn ?_
    simp (disch := omega) only [fx, pv, kx]
    refine wl_nil (κ4 _ _ ?_)
    refine wp_seq_k fun _ κ9 => wl_region (wl_fare kn ?_)
    simp (disch := omega) only [fx, pv, kx]
    refine wl_give rfl (g_callc _ 81 _ _ #[.pointer (some ⟨b6, 0, none⟩), .pointer (some ⟨p7, 0, none⟩), .pointer (some ⟨q8, 0, none⟩)] [.int .i64 (i)] rfl (kf81 _ _) rfl ((asked_no P (0) i (show Ms w w5 [blk (b6) ([.bool (okP P)]) 4, blk (p7) (plc (P)) 25, blk (q8) ([.int .i64 (0)]) 3, blk (w.heap.size) (plc (P)) 25] from (((hM.up 2 rfl).up 2 rfl).up 2 rfl)) (by simpa using hn) (by intro hk; omega)).mono ?_))
    rintro e w10 ⟨rfl, t_⟩
    refine ⟨_, rfl, ?_⟩
    replace hM := hM.call t_
    clear t_
    refine wl_fare kn ?_
    simp (disch := omega) only [fx, pv, kx]
    refine wl_nil (κ9 _ _ ?_)
    refine wp_cond_true rfl (wp_seq_k fun _ κ11 => ?_)
    refine wl_region (wl_fare kn ?_)
    simp (disch := omega) only [fx, pv, kx]
    refine wl_nil (κ11 _ _ ?_)
    refine wp_ret ?_
    go_ret2
    exact ⟨rfl, hM.below⟩
set_option maxHeartbeats 4000000 in
theorem ptells_any (P : Pl) (i : Int) (w : World) (X : Int) (h : Shut (pte P i = X)) : Calls Tryz.prog 55 #[.agg (plc P).toArray, .int .i64 i] w fun e w' => e = .returned (.int .i64 X) ∧ Below w.heap.size w w' := by
  have h := h.out
  unfold pte at h
  have hM := Ms.refl w
  by_cases hn : POk P ∧ 1 ≤ i ∧ i ≤ P.ct + P.dl
  · rw [if_pos hn] at h; subst h
    have es : Shut (IntKind.i64.wrap (i - P.dl) = i - P.dl) := ⟨by have := hn.1; exact wrap_id _ (by omega) (by omega)⟩
    go_enter Tryz.func55, Tryz.ntmps55
    refine wp_seq_k fun _ κ1 => wl_region (wl_give rfl (g_box 25 _ (plc (P)) rfl ?_))
    intro w2 t_ b_
    replace hM := hM.new t_ b_
    clear t_ b_
    refine wl_fare kn ?_
    simp (disch := omega) only [fx, pv, kx]
    refine wl_nil (κ1 _ _ ?_)
    refine wp_seq_k fun _ κ3 => wp_seq_k fun _ κ4 => wl_region (wl_give rfl (g_load_all 25 _ (w.heap.size) (plc (P)) 25 _ rfl (hM.get 0 rfl) Tryz.underlying25 rfl (szPl _) ?_))
    refine wl_fare kn ?_
    simp (disch := omega) only [fx, pv, kx, (hM.get 0 rfl).cell 2 (.int .i64 ((P).dl)) rfl]
    refine wl_give rfl (g_call 56 _ _ [.agg (plc (P)).toArray, .int .i64 ((P).dl)] (kf56 _ _) rfl ((asker_any P (P.dl) hM).mono ?_))
    rintro e w5 ⟨b6, p7, q8, rfl, h_⟩
    refine ⟨_, rfl, ?_⟩
    replace hM : Ms w w5 [blk (b6) ([.bool (okP P)]) 4, blk (p7) (plc (P)) 25, blk (q8) ([.int .i64 (P.dl)]) 3, blk (w.heap.size) (plc (P)) 25] := h_
    clear h_
    refine wl_fare kn ?_
    simp (disch := omega) only [fx, pv, kx]
    refine wl_nil (κ4 _ _ ?_)
    refine wp_seq_k fun _ κ9 => wl_region (wl_fare kn ?_)
    simp (disch := omega) only [fx, pv, kx]
    refine wl_give rfl (g_callc _ 81 _ _ #[.pointer (some ⟨b6, 0, none⟩), .pointer (some ⟨p7, 0, none⟩), .pointer (some ⟨q8, 0, none⟩)] [.int .i64 (i)] rfl (kf81 _ _) rfl ((asked_yes P (P.dl) i (show Ms w w5 [blk (b6) ([.bool (okP P)]) 4, blk (p7) (plc (P)) 25, blk (q8) ([.int .i64 (P.dl)]) 3, blk (w.heap.size) (plc (P)) 25] from (((hM.up 2 rfl).up 2 rfl).up 2 rfl)) hn (by intro hk; omega)).mono ?_))
    rintro e w10 ⟨rfl, t_⟩
    refine ⟨_, rfl, ?_⟩
    replace hM := hM.call t_
    clear t_
    refine wl_fare kn ?_
    simp (disch := omega) only [fx, pv, kx]
    refine wl_nil (κ9 _ _ ?_)
    refine wp_cond_false rfl (wp_skip ?_)
    refine κ3 _ _ (wp_seq_k fun _ κ11 => ?_)
    refine wl_region (wl_fare kn ?_)
    simp (disch := omega) only [fx, pv, kx, (hM.get 3 rfl).cell 2 (.int .i64 ((P).dl)) rfl, (es.out : IntKind.i64.wrap ((i) - ((P).dl)) = i - P.dl)]
    refine wl_give rfl (g_max _ _ (i - P.dl) (0) (max (i - P.dl) 0) rfl rfl (rfl) ?_)
    refine wl_fare kn ?_
    simp (disch := omega) only [fx, pv, kx]
    refine wl_nil (κ11 _ _ ?_)
    refine wp_ret ?_
    go_ret
    exact ⟨rfl, hM.below⟩
  · rw [if_neg hn] at h; subst h
    go_enter Tryz.func55, Tryz.ntmps55
    refine wp_seq_k fun _ κ1 => wl_region (wl_give rfl (g_box 25 _ (plc (P)) rfl ?_))
    intro w2 t_ b_
    replace hM := hM.new t_ b_
    clear t_ b_
    refine wl_fare kn ?_
    simp (disch := omega) only [fx, pv, kx]
    refine wl_nil (κ1 _ _ ?_)
    refine wp_seq_k fun _ κ3 => wp_seq_k fun _ κ4 => wl_region (wl_give rfl (g_load_all 25 _ (w.heap.size) (plc (P)) 25 _ rfl (hM.get 0 rfl) Tryz.underlying25 rfl (szPl _) ?_))
    refine wl_fare kn ?_
    simp (disch := omega) only [fx, pv, kx, (hM.get 0 rfl).cell 2 (.int .i64 ((P).dl)) rfl]
    refine wl_give rfl (g_call 56 _ _ [.agg (plc (P)).toArray, .int .i64 ((P).dl)] (kf56 _ _) rfl ((asker_any P (P.dl) hM).mono ?_))
    rintro e w5 ⟨b6, p7, q8, rfl, h_⟩
    refine ⟨_, rfl, ?_⟩
    replace hM : Ms w w5 [blk (b6) ([.bool (okP P)]) 4, blk (p7) (plc (P)) 25, blk (q8) ([.int .i64 (P.dl)]) 3, blk (w.heap.size) (plc (P)) 25] := h_
    clear h_
    refine wl_fare kn ?_
    simp (disch := omega) only [fx, pv, kx]
    refine wl_nil (κ4 _ _ ?_)
    refine wp_seq_k fun _ κ9 => wl_region (wl_fare kn ?_)
    simp (disch := omega) only [fx, pv, kx]
    refine wl_give rfl (g_callc _ 81 _ _ #[.pointer (some ⟨b6, 0, none⟩), .pointer (some ⟨p7, 0, none⟩), .pointer (some ⟨q8, 0, none⟩)] [.int .i64 (i)] rfl (kf81 _ _) rfl ((asked_no P (P.dl) i (show Ms w w5 [blk (b6) ([.bool (okP P)]) 4, blk (p7) (plc (P)) 25, blk (q8) ([.int .i64 (P.dl)]) 3, blk (w.heap.size) (plc (P)) 25] from (((hM.up 2 rfl).up 2 rfl).up 2 rfl)) hn (by intro hk; omega)).mono ?_))
    rintro e w10 ⟨rfl, t_⟩
    refine ⟨_, rfl, ?_⟩
    replace hM := hM.call t_
    clear t_
    refine wl_fare kn ?_
    simp (disch := omega) only [fx, pv, kx]
    refine wl_nil (κ9 _ _ ?_)
    refine wp_cond_true rfl (wp_seq_k fun _ κ11 => ?_)
    refine wl_region (wl_fare kn ?_)
    simp (disch := omega) only [fx, pv, kx]
    refine wl_nil (κ11 _ _ ?_)
    refine wp_ret ?_
    go_ret
    exact ⟨rfl, hM.below⟩
set_option maxHeartbeats 4000000 in
theorem psafe_any (P : Pl) (i t : Int) (w : World) (B : Bool) (h : Shut (psf P i t = B)) : Calls Tryz.prog 62 #[.agg (plc P).toArray, .int .i64 i, .int .i64 t] w fun e w' => e = .returned (.bool B) ∧ Below w.heap.size w w' := by
  have h := h.out
  unfold psf at h
  obtain ⟨⟨X, E⟩, hx⟩ : ∃ r, pto P i = r := ⟨_, rfl⟩
  have hs : Shut (pto P i = (X, E)) := ⟨hx⟩
  unfold pto at hx
  have hM := Ms.refl w
  go_enter Tryz.func62, Tryz.ntmps62
  refine wp_seq_k fun _ κ1 => wl_region (wl_give rfl (g_box 25 _ (plc (P)) rfl ?_))
  intro w2 t_ b_
  replace hM := hM.new t_ b_
  clear t_ b_
  refine wl_fare kn ?_
  simp (disch := omega) only [fx, pv, kx]
  refine wl_nil (κ1 _ _ ?_)
  refine wp_seq_k fun _ κ3 => wl_region (wl_give rfl (g_load_all 25 _ (w.heap.size) (plc (P)) 25 _ rfl (hM.get 0 rfl) Tryz.underlying25 rfl (szPl _) ?_))
  refine wl_fare kn ?_
  simp (disch := omega) only [fx, pv, kx]
  refine wl_give rfl (g_cM hM (kf30 _ _) (ptold_any P i w2 X E hs) rfl fun w4 hM => wl_fare kn ?_)
  simp (disch := omega) only [fx, pv, kx]
  refine wl_nil (κ3 _ _ ?_)
  refine wp_seq_k fun _ κ5 => ?_
  by_cases hE : E = 0
  · have hk : POk P ∧ 1 ≤ i ∧ i ≤ P.ct := Decidable.byContradiction fun hn => by rw [if_neg hn] at hx; cases hx; exact absurd hE (by decide)
    rw [if_pos hk] at hx
    cases hx
    by_cases hl : t < bgn P (i + P.dl)
    · obtain rfl : true = B := by rw [← h]; exact (decide_eq_true ⟨hk, hl⟩).symm
      refine wl_region (wl_fare kn ?_)
      simp (disch := omega) only [fx, pv, kx]
      refine wl_nil (κ5 _ _ ?_)
      refine wp_ret ?_
      go_ret
      exact ⟨rfl, hM.below⟩
    · obtain rfl : false = B := by rw [← h]; exact (decide_eq_false (fun e => hl e.2)).symm
      refine wl_region (wl_fare kn ?_)
      simp (disch := omega) only [fx, pv, kx]
      refine wl_nil (κ5 _ _ ?_)
      refine wp_ret ?_
      go_ret
      exact ⟨rfl, hM.below⟩
  · have hk : ¬ (POk P ∧ 1 ≤ i ∧ i ≤ P.ct) := fun hn => by rw [if_pos hn] at hx; cases hx; exact hE rfl
    obtain rfl : false = B := by rw [← h]; exact (decide_eq_false (fun e => hk e.1)).symm
    refine wl_region (wl_fare kn ?_)
    simp (disch := omega) only [fx, pv, kx]
    refine wl_nil (κ5 _ _ ?_)
    refine wp_ret ?_
    go_ret
    exact ⟨rfl, hM.below⟩
end Go.Proofs.YtcclcemdodoiiaaGreatDoor
