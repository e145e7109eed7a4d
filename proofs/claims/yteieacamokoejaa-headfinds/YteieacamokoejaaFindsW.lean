/- HeadFinds: the walk. -/
import Derived.Test.YteieacamokoejaaLawB
namespace Go.Proofs.Yteieacamokoejaa.headFinds
open Go Go.RowKit
set_option linter.unusedVariables false
set_option linter.unusedSimpArgs false

set_option maxRecDepth 10000 in
set_option maxHeartbeats 4000000 in
theorem walk1 (l : List (Int × ByteArray)) (ao : Option Addr) (cap : Nat) (k : Int) (w : World) (hn : l.length ≤ 140737488355328) (hf : Fis w (.slice ao l.length cap) l) (hcap : l.length ≤ cap) (hk : In64 k) (hl : (60 : Int) < ((l.length : Nat) : Int)) : Calls Try.prog 8 #[.slice ao l.length cap, .int .i64 k] w fun e w' => e = .returned (.bool true) ∧ Below w.heap.size w w' := by
  go_enter Try.func8, Try.ntmps8
  go_wp2_with (first
    | ((with_reducible refine at_callD 8 ?_); refine L_give (by rfl) (g_call 11 _ _ [] (kf11 _ _) rfl ((awake_any w).mono ?_)); rintro e w1 ⟨rfl, t_⟩; refine ⟨_, rfl, ?_⟩; have hB := t_; clear t_; (try simp only [Act.put, List.setIfInBounds_toArray, List.set_cons_zero, List.set_cons_succ]))
    | ((with_reducible refine at_callD 11 ?_); refine L_give (by rfl) (g_fllen _ _ _ _ rfl ?_); (try simp only [Act.put, List.setIfInBounds_toArray, List.set_cons_zero, List.set_cons_succ]))
    | ((with_reducible refine at_binD 12 ?_); refine L_give (by rfl) (g_igtr 3 _ _ .i64 _ _ true rfl rfl (decide_eq_true hl) ?_); (try simp only [Act.put, List.setIfInBounds_toArray, List.set_cons_zero, List.set_cons_succ])))
  go_ret
  exact ⟨rfl, hB⟩
set_option maxRecDepth 10000 in
set_option maxHeartbeats 4000000 in
theorem walk2 (l : List (Int × ByteArray)) (ao : Option Addr) (cap : Nat) (k : Int) (w : World) (hn : l.length ≤ 140737488355328) (hf : Fis w (.slice ao l.length cap) l) (hcap : l.length ≤ cap) (hk : In64 k) (D : ByteArray) (q : Bool) (hl : ¬ (60 : Int) < ((l.length : Nat) : Int)) (hF : Hid (fnd l k = (D, q))) : Calls Try.prog 8 #[.slice ao l.length cap, .int .i64 k] w fun e w' => e = .returned (.bool true) ∧ Below w.heap.size w w' := by
  go_enter Try.func8, Try.ntmps8
  go_wp2_with (first
    | ((with_reducible refine at_callD 8 ?_); refine L_give (by rfl) (g_call 11 _ _ [] (kf11 _ _) rfl ((awake_any w).mono ?_)); rintro e w1 ⟨rfl, t_⟩; refine ⟨_, rfl, ?_⟩; have hB := t_; clear t_; (try simp only [Act.put, List.setIfInBounds_toArray, List.set_cons_zero, List.set_cons_succ]))
    | ((with_reducible refine at_callD 11 ?_); refine L_give (by rfl) (g_fllen _ _ _ _ rfl ?_); (try simp only [Act.put, List.setIfInBounds_toArray, List.set_cons_zero, List.set_cons_succ]))
    | ((with_reducible refine at_binD 12 ?_); refine L_give (by rfl) (g_igtr 3 _ _ .i64 _ _ false rfl rfl (decide_eq_false hl) ?_); (try simp only [Act.put, List.setIfInBounds_toArray, List.set_cons_zero, List.set_cons_succ]))
    | ((with_reducible refine at_callD 16 ?_); refine L_give (by rfl) (g_call 24 _ _ [.slice ao l.length cap, .int .i64 (k)] (kf24 _ _) rfl ((hfind_any l k D q ao cap w1 hn (hf.below hB) hF).mono ?_)); rintro e w2 ⟨rfl, t_⟩; refine ⟨_, rfl, ?_⟩; replace hB := hB.trans (t_.mono hB.size); clear t_; (try simp only [Act.put, List.setIfInBounds_toArray, List.set_cons_zero, List.set_cons_succ])))
  have hfw := hf.below hB
  go_loop [21] (fun i => ∃ j : Nat, j ≤ l.length ∧ i = .int .i64 j ∧ Hid (fnd l k = fnd (l.drop j) k)) (fun i => l.length - (intOf i).toNat)
  case atStart => exact ⟨0, Nat.zero_le _, rfl, rfl⟩
  case round =>
    obtain ⟨j, hj, rfl, ha⟩ := hrel
    by_cases hlt : j < l.length
    · have hltI : (j : Int) < ((l.length : Nat) : Int) := by omega
      obtain ⟨ao2, capx, hv2, hcs⟩ := hfw
      obtain ⟨b, bo, hao, c0, c1⟩ := hcs j hlt
      obtain rfl : ao2 = ao := by injection hv2 with hv2; exact hv2.symm
      subst hao
      clear hcs hv2
      obtain ⟨f, hfE⟩ : ∃ f, l[j] = f := ⟨_, rfl⟩
      rw [hfE] at c0 c1
      replace hfE : Hid (l[j] = f) := hfE
      by_cases hkk : f.1 = k
      · obtain ⟨rfl, rfl⟩ : f.2 = D ∧ true = q := by
          have e := fnd_yes l k j hlt (by rw [hfE.out]; exact hkk) ha.out
          rw [hF.out, hfE.out] at e
          simpa [eq_comm] using e
        go_wp2_with (first
          | ((with_reducible refine at_binD 22 ?_); refine L_give (by rfl) (g_ilss 3 _ _ .i64 _ _ true rfl rfl (decide_eq_true hltI) ?_); (try simp only [Act.put, List.setIfInBounds_toArray, List.set_cons_zero, List.set_cons_succ]))
          | ((with_reducible refine at_ixD 26 ?_); refine L_give (by rfl) (g_ixF _ _ b bo _ _ j rfl rfl hlt ?_); (try simp only [Act.put, List.setIfInBounds_toArray, List.set_cons_zero, List.set_cons_succ]))
          | ((with_reducible refine at_fdD 27 ?_); refine L_give (by rfl) (g_fF0 _ b (bo + j * 2) rfl ?_); (try simp only [Act.put, List.setIfInBounds_toArray, List.set_cons_zero, List.set_cons_succ]))
          | ((with_reducible refine at_loadD 28 3 ?_); refine L_give (by rfl) (g_cell3 _ b (bo + j * 2) _ rfl c0 ?_); (try simp only [Act.put, List.setIfInBounds_toArray, List.set_cons_zero, List.set_cons_succ]))
          | ((with_reducible refine at_binD 30 ?_); refine L_give (by rfl) (g_ieq 3 _ _ .i64 _ _ true rfl rfl (decide_eq_true hkk) ?_); (try simp only [Act.put, List.setIfInBounds_toArray, List.set_cons_zero, List.set_cons_succ]))
          | ((with_reducible refine at_ixD 36 ?_); refine L_give (by rfl) (g_ixF _ _ b bo _ _ j rfl rfl hlt ?_); (try simp only [Act.put, List.setIfInBounds_toArray, List.set_cons_zero, List.set_cons_succ]))
          | ((with_reducible refine at_fdD 37 ?_); refine L_give (by rfl) (g_fF1 _ b (bo + j * 2) rfl ?_); (try simp only [Act.put, List.setIfInBounds_toArray, List.set_cons_zero, List.set_cons_succ]))
          | ((with_reducible refine at_loadD 38 9 ?_); refine L_give (by rfl) (g_cell9 _ b (bo + j * 2 + 1) _ rfl c1 ?_); (try simp only [Act.put, List.setIfInBounds_toArray, List.set_cons_zero, List.set_cons_succ]))
          | ((with_reducible refine at_binD 39 ?_); refine L_give (by rfl) (g_seql 9 _ _ f.2 f.2 true rfl rfl (decide_eq_true rfl) ?_); (try simp only [Act.put, List.setIfInBounds_toArray, List.set_cons_zero, List.set_cons_succ])))
        go_ret
        exact ⟨rfl, hB⟩
      · have HE : Hid (fnd l k = fnd (l.drop (j + 1)) k) := fnd_step l k j hlt (by rw [hfE.out]; exact hkk) ha.out
        go_wp2_with (first
          | ((with_reducible refine at_binD 22 ?_); refine L_give (by rfl) (g_ilss 3 _ _ .i64 _ _ true rfl rfl (decide_eq_true hltI) ?_); (try simp only [Act.put, List.setIfInBounds_toArray, List.set_cons_zero, List.set_cons_succ]))
          | ((with_reducible refine at_ixD 26 ?_); refine L_give (by rfl) (g_ixF _ _ b bo _ _ j rfl rfl hlt ?_); (try simp only [Act.put, List.setIfInBounds_toArray, List.set_cons_zero, List.set_cons_succ]))
          | ((with_reducible refine at_fdD 27 ?_); refine L_give (by rfl) (g_fF0 _ b (bo + j * 2) rfl ?_); (try simp only [Act.put, List.setIfInBounds_toArray, List.set_cons_zero, List.set_cons_succ]))
          | ((with_reducible refine at_loadD 28 3 ?_); refine L_give (by rfl) (g_cell3 _ b (bo + j * 2) _ rfl c0 ?_); (try simp only [Act.put, List.setIfInBounds_toArray, List.set_cons_zero, List.set_cons_succ]))
          | ((with_reducible refine at_binD 30 ?_); refine L_give (by rfl) (g_ieq 3 _ _ .i64 _ _ false rfl rfl (decide_eq_false hkk) ?_); (try simp only [Act.put, List.setIfInBounds_toArray, List.set_cons_zero, List.set_cons_succ])))
        go_round
        case rel => exact ⟨j + 1, hlt, by go_num, HE⟩
        case measure => simp [intOf]; omega
    · have hltI : ¬ (j : Int) < ((l.length : Nat) : Int) := by omega
      obtain ⟨rfl, rfl⟩ : ByteArray.empty = D ∧ false = q := by
        have e := fnd_none l k j hlt ha.out
        rw [hF.out] at e
        simpa [eq_comm] using e
      go_wp2_with (first
        | ((with_reducible refine at_binD 22 ?_); refine L_give (by rfl) (g_ilss 3 _ _ .i64 _ _ false rfl rfl (decide_eq_false hltI) ?_); (try simp only [Act.put, List.setIfInBounds_toArray, List.set_cons_zero, List.set_cons_succ]))
        | ((with_reducible refine at_binD 46 ?_); refine L_give (by rfl) (g_seql 9 _ _ ByteArray.empty ⟨#[]⟩ true rfl rfl (decide_eq_true rfl) ?_); (try simp only [Act.put, List.setIfInBounds_toArray, List.set_cons_zero, List.set_cons_succ])))
      go_ret
      exact ⟨rfl, hB⟩
theorem walk (l : List (Int × ByteArray)) (ao : Option Addr) (cap : Nat) (k : Int) (w : World) (hn : l.length ≤ 140737488355328) (hf : Fis w (.slice ao l.length cap) l) (hcap : l.length ≤ cap) (hk : In64 k) : Calls Try.prog 8 #[.slice ao l.length cap, .int .i64 k] w fun e w' => e = .returned (.bool true) ∧ Below w.heap.size w w' := by
  by_cases hl : (60 : Int) < ((l.length : Nat) : Int)
  · exact walk1 l ao cap k w hn hf hcap hk hl
  · exact walk2 l ao cap k w hn hf hcap hk _ _ hl rfl
end Go.Proofs.Yteieacamokoejaa.headFinds
