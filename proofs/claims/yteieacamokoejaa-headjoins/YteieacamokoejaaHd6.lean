/- What the program's fields answers: the extensions that bytes are. -/
import Derived.Test.YteieacamokoejaaMem
namespace Go.Proofs.Yteieacamokoejaa
open Go Go.RowKit
set_option linter.unusedVariables false

def strLen : Value → Nat
  | .string s => s.size
  | _ => 0
theorem fl_step (n : Nat) (s : List UInt8) (h : Cuts s) : fl (n + 1) s = glue [seem s] (fl n (s.drop (fb (seem s)).length)) := by
  have h1 := h.1
  rw [fl, if_neg (by intro e; rw [e] at h1; simp at h1), if_pos h]
theorem fl_no (n : Nat) (s : List UInt8) (h0 : s ≠ []) (h : ¬ Cuts s) : fl (n + 1) s = ([], 2) := by
  rw [fl, if_neg h0, if_neg h]
theorem fl_many (s : List UInt8) (h0 : s ≠ []) : fl 0 s = ([], 4) := by rw [fl, if_neg h0]
theorem glue_bad (a : List (Int × ByteArray)) (E : Int) (h : E ≠ 0) : glue a ([], E) = ([], E) := by simp [glue, h]
theorem ba_ne (S : ByteArray) (h : ¬ S = ⟨#[]⟩) : S.data.toList ≠ [] := by
  intro e
  apply h
  apply ByteArray.ext
  exact Array.toList_inj.1 e
theorem ba_pos (S : ByteArray) (h : ¬ S = ⟨#[]⟩) : 1 ≤ S.size := by
  have := ba_ne S h
  rw [Lib.size_eq]
  exact List.length_pos_iff.2 this
set_option maxRecDepth 10000 in
set_option maxHeartbeats 4000000 in
theorem fields_any (s : ByteArray) (l : List (Int × ByteArray)) (E : Int) (w : World) (hs2 : s.size ≤ 140737488355328) (h : Hid (fl 16 s.data.toList = (l, E))) : Calls Try.prog 35 #[.string s] w fun e w' => ∃ v, e = .returned (.tuple #[v, .int .i64 E]) ∧ Fib w.heap.size w' v l ∧ Below w.heap.size w w' := by
  go_enter Try.func35, Try.ntmps35
  go_wp2
  go_loopw [0, 4] (fun s4 l4 wr => ∃ (S : ByteArray) (acc : List (Int × ByteArray)), s4 = .string S ∧ S.size ≤ s.size ∧ acc.length ≤ 16 ∧ Hid (fl 16 s.data.toList = glue acc (fl (16 - acc.length) S.data.toList)) ∧ OF w.heap.size wr l4 acc ∧ Below w.heap.size w wr) (fun s4 _ _ => strLen s4)
  case atStart => exact ⟨s, [], rfl, Nat.le_refl _, Nat.zero_le _, by show _ = _; rw [glue_nil _ (fl_err _ _)]; rfl, OF.nil _ _, Below.refl _ _⟩
  case round =>
    obtain ⟨S, acc, rfl, hS, ha, hfl, hO, hB⟩ := hrel
    obtain ⟨ao, cap, rfl⟩ := hO.len
    by_cases h0 : S = ⟨#[]⟩
    · have HE : Hid (acc = l ∧ (0 : Int) = E) := by
        have k := hfl.out
        rw [h.out, h0, show (⟨#[]⟩ : ByteArray).data.toList = [] from rfl, fl_none] at k
        show _ ∧ _
        simpa [glue, eq_comm] using k
      go_wp2_with (first
        | ((with_reducible refine at_binD 9 ?_); refine L_give (by rfl) (g_sneq 9 _ _ S ⟨#[]⟩ true rfl rfl (decide_eq_true h0) ?_)))
      go_ret2
      exact ⟨_, by rw [HE.out.2]; rfl, by rw [← HE.out.1]; exact hO.fib, hB⟩
    · have h1 := ba_pos S h0
      by_cases h16 : ((acc.length : Nat) : Int) = 16
      · have HE : Hid (l = [] ∧ (4 : Int) = E) := by
          have k := hfl.out
          rw [h.out, show 16 - acc.length = 0 by omega, fl_many _ (ba_ne S h0), glue_bad _ _ (by decide)] at k
          show _ ∧ _
          simpa [eq_comm] using k
        go_wp2_with (first
          | ((with_reducible refine at_binD 9 ?_); refine L_give (by rfl) (g_sneq 9 _ _ S ⟨#[]⟩ false rfl rfl (decide_eq_false h0) ?_))
          | ((with_reducible refine at_binD 12 ?_); refine L_give (by rfl) (g_ieq 3 _ _ .i64 _ _ true rfl rfl (decide_eq_true h16) ?_)))
        go_ret2
        exact ⟨_, by rw [HE.out.2]; rfl, by rw [HE.out.1]; exact Fib.nil _ _, hB⟩
      · by_cases hc : Cuts S.data.toList
        · replace hc : Hid (Cuts S.data.toList) := hc
          obtain ⟨f, hf⟩ : ∃ f, Hid (seem S.data.toList = f) := ⟨_, rfl⟩
          obtain ⟨X, hX⟩ : ∃ X, Hid (S.extract (fb f).length S.size = X) := ⟨_, rfl⟩
          have hXl : Hid (X.data.toList = S.data.toList.drop (fb f).length) := by
            show _ = _
            rw [← hX.out, ext_list]
            exact List.take_of_length_le (by rw [List.length_drop, ← Lib.size_eq]; omega)
          have hge := fb_ge f
          have hXs : X.size < S.size := by rw [← hX.out, ByteArray.size_extract]; omega
          have hR : Below wr.heap.size wr wr := Below.refl _ _
          go_wp2_with (first
            | ((with_reducible refine at_binD 9 ?_); refine L_give (by rfl) (g_sneq 9 _ _ S ⟨#[]⟩ false rfl rfl (decide_eq_false h0) ?_))
            | ((with_reducible refine at_binD 12 ?_); refine L_give (by rfl) (g_ieq 3 _ _ .i64 _ _ false rfl rfl (decide_eq_false h16) ?_))
            | ((with_reducible refine at_callD 15 ?_); refine L_give (by rfl) (g_call 41 _ _ [.string (S)] (kf41 _ _) rfl ((cut_yes S f X wr (by omega) hc hf hX).mono ?_)); rintro e wr1 ⟨rfl, t_⟩; refine ⟨_, rfl, ?_⟩; replace hB := hB.trans (t_.mono hB.size); replace hR := hR.trans (t_.mono hR.size); clear t_; (try simp only [Act.put, List.setIfInBounds_toArray, List.set_cons_zero, List.set_cons_succ]))
            | ((with_reducible refine at_allocD 5 48 ?_); refine L_alloc 48 (fc (fz)) zeroF ?_; intro wr2 t_ b_f; have l_hB_f : _ ≤ wr1.heap.size := hB.size; have l_hR_f : _ ≤ wr1.heap.size := hR.size; replace hB := t_.below hB l_hB_f; replace hR := t_.below hR l_hR_f; clear t_; (try simp only [Act.put, List.setIfInBounds_toArray, List.set_cons_zero, List.set_cons_succ]))
            | ((with_reducible refine at_storeX 5 48 ?_); refine L_store_all 48 _ _ (wr1.heap.size) (fc (f)) _ 48 rfl rfl b_f (szF fz) rfl (one_fc _) ?_; clear b_f; intro wr3 t_ b_f; replace hB := t_.below hB l_hB_f; replace hR := t_.below hR l_hR_f; clear t_)
            | ((with_reducible refine at_loadD 22 48 ?_); refine L_give (by rfl) (g_load_all 48 _ (wr1.heap.size) (fc (f)) 48 _ rfl (b_f) Try.underlying48 rfl (szF fz) ?_); (try simp only [Act.put, List.setIfInBounds_toArray, List.set_cons_zero, List.set_cons_succ]))
            | ((with_reducible refine at_bslD 23 ?_); refine L_give (by rfl) (g_bslF _ f rfl ?_); intro wr4 t_ b_n; have o_f_n := b_f.lt; have l_hB_n : _ ≤ wr3.heap.size := hB.size; have l_hR_n : _ ≤ wr3.heap.size := hR.size; replace b_f := t_.blk b_f (Nat.ne_of_lt b_f.lt); replace hB := t_.below hB l_hB_n; replace hR := t_.below hR l_hR_n; clear t_; (try simp only [Act.put, List.setIfInBounds_toArray, List.set_cons_zero, List.set_cons_succ]))
            | ((with_reducible refine at_callD 24 ?_); refine L_give (by rfl) (g_appF _ _ w.heap.size _ acc f _ rfl rfl (hO.below hR) b_n (by omega) hB.size ?_); intro v4 wr5 hO2 hg _; replace hB := hB.grown hg hB.size (fun k hk => (hO.lt k hk).1); (try simp only [Act.put, List.setIfInBounds_toArray, List.set_cons_zero, List.set_cons_succ])))
          go_roundw
          case rel =>
            refine ⟨X, acc ++ [f], rfl, by omega, by rw [List.length_append, List.length_singleton]; omega, ?_, hO2, hB⟩
            show _ = _
            rw [hfl.out, show 16 - acc.length = (15 - acc.length) + 1 by omega, fl_step _ _ hc.out, glue_glue, hf.out, hXl.out, List.length_append, List.length_singleton, show 16 - (acc.length + 1) = 15 - acc.length by omega]
          case measure => exact hXs
        · replace hc : Hid (¬ Cuts S.data.toList) := hc
          have HE : Hid (l = [] ∧ (2 : Int) = E) := by
            have k := hfl.out
            rw [h.out, show 16 - acc.length = (15 - acc.length) + 1 by omega, fl_no _ _ (ba_ne S h0) hc.out, glue_bad _ _ (by decide)] at k
            show _ ∧ _
            simpa [eq_comm] using k
          go_wp2_with (first
            | ((with_reducible refine at_binD 9 ?_); refine L_give (by rfl) (g_sneq 9 _ _ S ⟨#[]⟩ false rfl rfl (decide_eq_false h0) ?_))
            | ((with_reducible refine at_binD 12 ?_); refine L_give (by rfl) (g_ieq 3 _ _ .i64 _ _ false rfl rfl (decide_eq_false h16) ?_))
            | ((with_reducible refine at_callD 15 ?_); refine L_give (by rfl) (g_call 41 _ _ [.string (S)] (kf41 _ _) rfl ((cut_no S wr (by omega) hc.out).mono ?_)); rintro e wr1 ⟨rfl, t_⟩; refine ⟨_, rfl, ?_⟩; replace hB := hB.trans (t_.mono hB.size); clear t_; (try simp only [Act.put, List.setIfInBounds_toArray, List.set_cons_zero, List.set_cons_succ]))
            | ((with_reducible refine at_allocD 5 48 ?_); refine L_alloc 48 (fc (fz)) zeroF ?_; intro wr2 t_ b_f; have l_hB_f : _ ≤ wr1.heap.size := hB.size; replace hB := t_.below hB l_hB_f; clear t_; (try simp only [Act.put, List.setIfInBounds_toArray, List.set_cons_zero, List.set_cons_succ]))
            | ((with_reducible refine at_storeX 5 48 ?_); refine L_store_all 48 _ _ (wr1.heap.size) (fc (fz)) _ 48 rfl rfl b_f (szF fz) rfl (one_fc _) ?_; clear b_f; intro wr3 t_ b_f; replace hB := t_.below hB l_hB_f; clear t_))
          go_ret2
          exact ⟨_, by rw [HE.out.2]; rfl, by rw [HE.out.1]; exact Fib.nil _ _, hB⟩

end Go.Proofs.Yteieacamokoejaa
