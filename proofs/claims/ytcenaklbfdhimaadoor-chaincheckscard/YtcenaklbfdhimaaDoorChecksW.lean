/- ChainChecks: the walk. -/
import Derived.Test.YtcenaklbfdhimaaDoorLawT
import Derived.WalkKit
import Derived.WalkSpells
import Derived.WalkLawsBesides
namespace Go.Proofs.YtcenaklbfdhimaaDoor.chainChecks
open Go Go.RowKit
set_option linter.unusedVariables false
set_option linter.unusedSimpArgs false

/-- A value that is there just if g. -/
def pv (g : Bool) (v : Value) : Value := bif g then v else undef
set_option maxRecDepth 10000 in
set_option maxHeartbeats 4000000 in
theorem walk_t (k0 : Ky) (p : Int) (k : Ky) (i f a : Int) (w : World) (hT : Tabs w) (d e g : Int) (hd : Shut (IntKind.i64.wrap (i - p) = d)) (he : Shut (IntKind.i64.wrap (p - a) = e)) (hg : Shut (IntKind.i64.wrap (i - a) = g)) (A1 A2 A3 A4 A5 B2 B3 C1 C3 p1 p2 p3 p4 q0 q1 q2 q3 q4 r0 s1 s2 s3 : Bool) (hA1 : Shut (decide (0 ≤ p) = A1)) (hA2 : Shut (decide (p < i) = A2)) (hA3 : Shut (decide (40 < d) = A3)) (hA4 : Shut (decide (d ≤ f) = A4)) (hA5 : Shut (decide (d ≤ 1024) = A5)) (hB2 : Shut (decide (0 ≤ a) = B2)) (hB3 : Shut (decide (40 < e) = B3)) (hC1 : Shut (decide (0 ≤ i) = C1)) (hC3 : Shut (decide (40 < g) = C3)) (hp1 : Shut ((A1 && A2) = p1)) (hp2 : Shut ((p1 && A3) = p2)) (hp3 : Shut ((p2 && A4) = p3)) (hp4 : Shut ((p3 && A5) = p4)) (hq0 : Shut ((!p4 && A1) = q0)) (hq1 : Shut ((A1 && B2) = q1)) (hq2 : Shut ((!p4 && q1) = q2)) (hq3 : Shut ((q1 && B3) = q3)) (hr0 : Shut ((p4 || q3) = r0)) (hq4 : Shut ((!r0 && C1) = q4)) (hs1 : Shut ((C1 && B2) = s1)) (hs2 : Shut ((!r0 && s1) = s2)) (hs3 : Shut ((s1 && C3) = s3)) (hz : Shut ((r0 || s3) = true))  : Calls Tryd.prog 4 #[.agg (kc k0).toArray, .int .i64 p, .agg (kc k).toArray, .int .i64 i, .int .i64 f, .int .i64 a] w fun e w' => e = .returned (.bool true) ∧ Below w.heap.size w w' := by
  go_enter Tryd.func4, Tryd.ntmps4
  (try simp only [List.append_eq, List.cons_append, List.nil_append])
  go_wp2_with (first
    | ((with_reducible refine at_boxD 6 23 ?_); refine L_box 23 _ (kc (k0)) rfl ?_; intro w1 t_ b_a; have l_hB_a : w.heap.size ≤ w.heap.size := Nat.le_refl _; have hB : Below w.heap.size w w1 := t_.below (Below.refl _ _) (Nat.le_refl _); clear t_; (try simp only [Act.put, List.setIfInBounds_toArray, List.set_cons_zero, List.set_cons_succ]))
    | ((with_reducible refine at_boxD 8 23 ?_); refine L_box 23 _ (kc (k)) rfl ?_; intro w2 t_ b_b; have o_a_b := b_a.lt; have l_hB_b : _ ≤ w1.heap.size := hB.size; replace b_a := t_.blk b_a (Nat.ne_of_lt b_a.lt); replace hB := t_.below hB l_hB_b; clear t_; (try simp only [Act.put, List.setIfInBounds_toArray, List.set_cons_zero, List.set_cons_succ]))
    | ((with_reducible refine at_callD 21 ?_); refine L_give (by rfl) (g_call 9 _ _ [] (kf9 _ _) rfl ((awake_any w2 (hT.on hB)).mono ?_)); rintro e w3 ⟨rfl, t_⟩; refine ⟨_, rfl, ?_⟩; replace b_a := b_a.below t_ b_a.lt; replace b_b := b_b.below t_ b_b.lt; replace hB := hB.trans (t_.mono hB.size); clear t_; (try simp only [Act.put, List.setIfInBounds_toArray, List.set_cons_zero, List.set_cons_succ]))
    | ((with_reducible refine stop_list 25 ?_); intro X hX))
  refine hX.out ?_
  clear hX X
  refine L_give (by rfl) (g_isub 3 _ _ .i64 _ _ d rfl rfl hd.out ?_)
  (try simp only [Act.put, List.setIfInBounds_toArray, List.set_cons_zero, List.set_cons_succ])
  refine L_give (by rfl) (g_assign _ (.int .i64 d) rfl ?_)
  (try simp only [Act.put, List.setIfInBounds_toArray, List.set_cons_zero, List.set_cons_succ])
  refine wpList_nil ?_
  rename_i Q0 K1 h1 K2 h2
  refine h2 _ _ ?_
  clear h2 K2
  apply wp_seq_k
  intro K3 h3
  refine wp_region_lit ?_
  refine wp_list_text (by kernel_rfl) [.int .i64 p, .bool A1, .bool A1, pv (A1) (.int .i64 i), pv (A1) (.int .i64 p), pv (A1) (.bool A2), .bool p1, .bool p1, pv (p1) (.int .i64 d), pv (p1) (.bool A3), .bool p2, .bool p2, pv (p2) (.int .i64 d), pv (p2) (.int .i64 f), pv (p2) (.bool A4), .bool p3, .bool p3, pv (p3) (.int .i64 d), pv (p3) (.bool A5), .bool p4, .bool p4, pv (!p4) (.int .i64 p), pv (!p4) (.bool A1), pv (!p4) (.bool A1), pv (q0) (.int .i64 a), pv (q0) (.bool B2), pv (!p4) (.bool q1), pv (!p4) (.bool q1), pv (q2) (.int .i64 p), pv (q2) (.int .i64 a), pv (q2) (.int .i64 e), pv (q2) (.bool B3), pv (!p4) (.bool q3), .bool r0, .bool r0, pv (!r0) (.int .i64 i), pv (!r0) (.bool C1), pv (!r0) (.bool C1), pv (q4) (.int .i64 a), pv (q4) (.bool B2), pv (!r0) (.bool s1), pv (!r0) (.bool s1), pv (s2) (.int .i64 i), pv (s2) (.int .i64 a), pv (s2) (.int .i64 g), pv (s2) (.bool C3), pv (!r0) (.bool s3), .bool true] (by rfl) (fun w' => w' = w3) rfl ?_ ?_
  · simp only [fullL, Act.put, List.setIfInBounds_toArray, List.set_cons_succ, List.set_cons_zero]
    refine ⟨?_, ?_, ?_, ?_, ?_, ?_, ?_, ?_, ?_, ?_, ?_, ?_, ?_, ?_, ?_, ?_, ?_, ?_, ?_, ?_, ?_, ?_, ?_, ?_, ?_, ?_, ?_, ?_, ?_, ?_, ?_, ?_, ?_, ?_, ?_, ?_, ?_, ?_, ?_, ?_, ?_, ?_, ?_, ?_, ?_, ?_, ?_, ?_, trivial⟩
    · intro wx hw; clear b_a b_b hB; first | exact gn rfl ⟨rfl, hw⟩ | exact gw rfl (g_move _ _ rfl ⟨rfl, hw⟩)
    · intro wx hw; clear b_a b_b hB; first | exact gn rfl ⟨rfl, hw⟩ | exact gw rfl (g_igeq 3 _ _ .i64 _ _ A1 rfl rfl hA1.out ⟨rfl, hw⟩)
    · intro wx hw; clear b_a b_b hB; first | exact gn rfl ⟨rfl, hw⟩ | exact gw rfl (g_move _ _ rfl ⟨rfl, hw⟩)
    · intro wx hw; clear b_a b_b hB; cases A1 <;> first | exact gn rfl ⟨rfl, hw⟩ | exact gw rfl (g_move _ _ rfl ⟨rfl, hw⟩)
    · intro wx hw; clear b_a b_b hB; cases A1 <;> first | exact gn rfl ⟨rfl, hw⟩ | exact gw rfl (g_move _ _ rfl ⟨rfl, hw⟩)
    · intro wx hw; clear b_a b_b hB; cases A1 <;> first | exact gn rfl ⟨rfl, hw⟩ | exact gw rfl (g_igtr 3 _ _ .i64 _ _ A2 rfl rfl hA2.out ⟨rfl, hw⟩)
    · intro wx hw; clear b_a b_b hB; have e_ := hp1.out; subst e_; cases A1 <;> first | exact gn rfl ⟨rfl, hw⟩ | exact gw rfl (g_pickt _ _ _ _ rfl rfl ⟨rfl, hw⟩) | exact gw rfl (g_pickf _ _ _ _ rfl rfl ⟨rfl, hw⟩)
    · intro wx hw; clear b_a b_b hB; first | exact gn rfl ⟨rfl, hw⟩ | exact gw rfl (g_move _ _ rfl ⟨rfl, hw⟩)
    · intro wx hw; clear b_a b_b hB; cases p1 <;> first | exact gn rfl ⟨rfl, hw⟩ | exact gw rfl (g_move _ _ rfl ⟨rfl, hw⟩)
    · intro wx hw; clear b_a b_b hB; cases p1 <;> first | exact gn rfl ⟨rfl, hw⟩ | exact gw rfl (g_igtr 3 _ _ .i64 _ _ A3 rfl rfl hA3.out ⟨rfl, hw⟩)
    · intro wx hw; clear b_a b_b hB; have e_ := hp2.out; subst e_; cases p1 <;> first | exact gn rfl ⟨rfl, hw⟩ | exact gw rfl (g_pickt _ _ _ _ rfl rfl ⟨rfl, hw⟩) | exact gw rfl (g_pickf _ _ _ _ rfl rfl ⟨rfl, hw⟩)
    · intro wx hw; clear b_a b_b hB; first | exact gn rfl ⟨rfl, hw⟩ | exact gw rfl (g_move _ _ rfl ⟨rfl, hw⟩)
    · intro wx hw; clear b_a b_b hB; cases p2 <;> first | exact gn rfl ⟨rfl, hw⟩ | exact gw rfl (g_move _ _ rfl ⟨rfl, hw⟩)
    · intro wx hw; clear b_a b_b hB; cases p2 <;> first | exact gn rfl ⟨rfl, hw⟩ | exact gw rfl (g_move _ _ rfl ⟨rfl, hw⟩)
    · intro wx hw; clear b_a b_b hB; cases p2 <;> first | exact gn rfl ⟨rfl, hw⟩ | exact gw rfl (g_ileq 3 _ _ .i64 _ _ A4 rfl rfl hA4.out ⟨rfl, hw⟩)
    · intro wx hw; clear b_a b_b hB; have e_ := hp3.out; subst e_; cases p2 <;> first | exact gn rfl ⟨rfl, hw⟩ | exact gw rfl (g_pickt _ _ _ _ rfl rfl ⟨rfl, hw⟩) | exact gw rfl (g_pickf _ _ _ _ rfl rfl ⟨rfl, hw⟩)
    · intro wx hw; clear b_a b_b hB; first | exact gn rfl ⟨rfl, hw⟩ | exact gw rfl (g_move _ _ rfl ⟨rfl, hw⟩)
    · intro wx hw; clear b_a b_b hB; cases p3 <;> first | exact gn rfl ⟨rfl, hw⟩ | exact gw rfl (g_move _ _ rfl ⟨rfl, hw⟩)
    · intro wx hw; clear b_a b_b hB; cases p3 <;> first | exact gn rfl ⟨rfl, hw⟩ | exact gw rfl (g_ileq 3 _ _ .i64 _ _ A5 rfl rfl hA5.out ⟨rfl, hw⟩)
    · intro wx hw; clear b_a b_b hB; have e_ := hp4.out; subst e_; cases p3 <;> first | exact gn rfl ⟨rfl, hw⟩ | exact gw rfl (g_pickt _ _ _ _ rfl rfl ⟨rfl, hw⟩) | exact gw rfl (g_pickf _ _ _ _ rfl rfl ⟨rfl, hw⟩)
    · intro wx hw; clear b_a b_b hB; first | exact gn rfl ⟨rfl, hw⟩ | exact gw rfl (g_move _ _ rfl ⟨rfl, hw⟩)
    · intro wx hw; clear b_a b_b hB; cases p4 <;> first | exact gn rfl ⟨rfl, hw⟩ | exact gw rfl (g_move _ _ rfl ⟨rfl, hw⟩)
    · intro wx hw; clear b_a b_b hB; cases p4 <;> first | exact gn rfl ⟨rfl, hw⟩ | exact gw rfl (g_igeq 3 _ _ .i64 _ _ A1 rfl rfl hA1.out ⟨rfl, hw⟩)
    · intro wx hw; clear b_a b_b hB; cases p4 <;> first | exact gn rfl ⟨rfl, hw⟩ | exact gw rfl (g_move _ _ rfl ⟨rfl, hw⟩)
    · intro wx hw; clear b_a b_b hB; have e_ := hq0.out; subst e_; cases p4 <;> cases A1 <;> first | exact gn rfl ⟨rfl, hw⟩ | exact gw rfl (g_move _ _ rfl ⟨rfl, hw⟩)
    · intro wx hw; clear b_a b_b hB; have e_ := hq0.out; subst e_; cases p4 <;> cases A1 <;> first | exact gn rfl ⟨rfl, hw⟩ | exact gw rfl (g_igeq 3 _ _ .i64 _ _ B2 rfl rfl hB2.out ⟨rfl, hw⟩)
    · intro wx hw; clear b_a b_b hB; have e_ := hq0.out; subst e_; have e_ := hq1.out; subst e_; cases p4 <;> cases A1 <;> first | exact gn rfl ⟨rfl, hw⟩ | exact gw rfl (g_pickt _ _ _ _ rfl rfl ⟨rfl, hw⟩) | exact gw rfl (g_pickf _ _ _ _ rfl rfl ⟨rfl, hw⟩)
    · intro wx hw; clear b_a b_b hB; cases p4 <;> first | exact gn rfl ⟨rfl, hw⟩ | exact gw rfl (g_move _ _ rfl ⟨rfl, hw⟩)
    · intro wx hw; clear b_a b_b hB; have e_ := hq2.out; subst e_; cases p4 <;> cases q1 <;> first | exact gn rfl ⟨rfl, hw⟩ | exact gw rfl (g_move _ _ rfl ⟨rfl, hw⟩)
    · intro wx hw; clear b_a b_b hB; have e_ := hq2.out; subst e_; cases p4 <;> cases q1 <;> first | exact gn rfl ⟨rfl, hw⟩ | exact gw rfl (g_move _ _ rfl ⟨rfl, hw⟩)
    · intro wx hw; clear b_a b_b hB; have e_ := hq2.out; subst e_; cases p4 <;> cases q1 <;> first | exact gn rfl ⟨rfl, hw⟩ | exact gw rfl (g_isub 3 _ _ .i64 _ _ e rfl rfl he.out ⟨rfl, hw⟩)
    · intro wx hw; clear b_a b_b hB; have e_ := hq2.out; subst e_; cases p4 <;> cases q1 <;> first | exact gn rfl ⟨rfl, hw⟩ | exact gw rfl (g_igtr 3 _ _ .i64 _ _ B3 rfl rfl hB3.out ⟨rfl, hw⟩)
    · intro wx hw; clear b_a b_b hB; have e_ := hq2.out; subst e_; have e_ := hq3.out; subst e_; cases p4 <;> cases q1 <;> first | exact gn rfl ⟨rfl, hw⟩ | exact gw rfl (g_pickt _ _ _ _ rfl rfl ⟨rfl, hw⟩) | exact gw rfl (g_pickf _ _ _ _ rfl rfl ⟨rfl, hw⟩)
    · intro wx hw; clear b_a b_b hB; have e_ := hr0.out; subst e_; cases p4 <;> first | exact gn rfl ⟨rfl, hw⟩ | exact gw rfl (g_pickt _ _ _ _ rfl rfl ⟨rfl, hw⟩) | exact gw rfl (g_pickf _ _ _ _ rfl rfl ⟨rfl, hw⟩)
    · intro wx hw; clear b_a b_b hB; first | exact gn rfl ⟨rfl, hw⟩ | exact gw rfl (g_move _ _ rfl ⟨rfl, hw⟩)
    · intro wx hw; clear b_a b_b hB; cases r0 <;> first | exact gn rfl ⟨rfl, hw⟩ | exact gw rfl (g_move _ _ rfl ⟨rfl, hw⟩)
    · intro wx hw; clear b_a b_b hB; cases r0 <;> first | exact gn rfl ⟨rfl, hw⟩ | exact gw rfl (g_igeq 3 _ _ .i64 _ _ C1 rfl rfl hC1.out ⟨rfl, hw⟩)
    · intro wx hw; clear b_a b_b hB; cases r0 <;> first | exact gn rfl ⟨rfl, hw⟩ | exact gw rfl (g_move _ _ rfl ⟨rfl, hw⟩)
    · intro wx hw; clear b_a b_b hB; have e_ := hq4.out; subst e_; cases r0 <;> cases C1 <;> first | exact gn rfl ⟨rfl, hw⟩ | exact gw rfl (g_move _ _ rfl ⟨rfl, hw⟩)
    · intro wx hw; clear b_a b_b hB; have e_ := hq4.out; subst e_; cases r0 <;> cases C1 <;> first | exact gn rfl ⟨rfl, hw⟩ | exact gw rfl (g_igeq 3 _ _ .i64 _ _ B2 rfl rfl hB2.out ⟨rfl, hw⟩)
    · intro wx hw; clear b_a b_b hB; have e_ := hq4.out; subst e_; have e_ := hs1.out; subst e_; cases r0 <;> cases C1 <;> first | exact gn rfl ⟨rfl, hw⟩ | exact gw rfl (g_pickt _ _ _ _ rfl rfl ⟨rfl, hw⟩) | exact gw rfl (g_pickf _ _ _ _ rfl rfl ⟨rfl, hw⟩)
    · intro wx hw; clear b_a b_b hB; cases r0 <;> first | exact gn rfl ⟨rfl, hw⟩ | exact gw rfl (g_move _ _ rfl ⟨rfl, hw⟩)
    · intro wx hw; clear b_a b_b hB; have e_ := hs2.out; subst e_; cases r0 <;> cases s1 <;> first | exact gn rfl ⟨rfl, hw⟩ | exact gw rfl (g_move _ _ rfl ⟨rfl, hw⟩)
    · intro wx hw; clear b_a b_b hB; have e_ := hs2.out; subst e_; cases r0 <;> cases s1 <;> first | exact gn rfl ⟨rfl, hw⟩ | exact gw rfl (g_move _ _ rfl ⟨rfl, hw⟩)
    · intro wx hw; clear b_a b_b hB; have e_ := hs2.out; subst e_; cases r0 <;> cases s1 <;> first | exact gn rfl ⟨rfl, hw⟩ | exact gw rfl (g_isub 3 _ _ .i64 _ _ g rfl rfl hg.out ⟨rfl, hw⟩)
    · intro wx hw; clear b_a b_b hB; have e_ := hs2.out; subst e_; cases r0 <;> cases s1 <;> first | exact gn rfl ⟨rfl, hw⟩ | exact gw rfl (g_igtr 3 _ _ .i64 _ _ C3 rfl rfl hC3.out ⟨rfl, hw⟩)
    · intro wx hw; clear b_a b_b hB; have e_ := hs2.out; subst e_; have e_ := hs3.out; subst e_; cases r0 <;> cases s1 <;> first | exact gn rfl ⟨rfl, hw⟩ | exact gw rfl (g_pickt _ _ _ _ rfl rfl ⟨rfl, hw⟩) | exact gw rfl (g_pickf _ _ _ _ rfl rfl ⟨rfl, hw⟩)
    · intro wx hw; clear b_a b_b hB; have hz_ := hz.out; cases r0 <;> cases s3 <;> simp at hz_ <;> first | exact gn rfl ⟨rfl, hw⟩ | exact gw rfl (g_pickt _ _ _ _ rfl rfl ⟨rfl, hw⟩) | exact gw rfl (g_pickf _ _ _ _ rfl rfl ⟨rfl, hw⟩)
  · simp only [fullL, Act.put, List.setIfInBounds_toArray, List.set_cons_succ, List.set_cons_zero]
    intro w_ hw_; rw [hw_]; clear hw_ w_
    generalize pv (A1) (.int .i64 i) = u29
    generalize pv (A1) (.int .i64 p) = u30
    generalize pv (A1) (.bool A2) = u31
    generalize pv (p1) (.int .i64 d) = u34
    generalize pv (p1) (.bool A3) = u35
    generalize pv (p2) (.int .i64 d) = u38
    generalize pv (p2) (.int .i64 f) = u39
    generalize pv (p2) (.bool A4) = u40
    generalize pv (p3) (.int .i64 d) = u43
    generalize pv (p3) (.bool A5) = u44
    generalize pv (!p4) (.int .i64 p) = u47
    generalize pv (!p4) (.bool A1) = u48
    generalize pv (!p4) (.bool A1) = u49
    generalize pv (q0) (.int .i64 a) = u50
    generalize pv (q0) (.bool B2) = u51
    generalize pv (!p4) (.bool q1) = u52
    generalize pv (!p4) (.bool q1) = u53
    generalize pv (q2) (.int .i64 p) = u54
    generalize pv (q2) (.int .i64 a) = u55
    generalize pv (q2) (.int .i64 e) = u56
    generalize pv (q2) (.bool B3) = u57
    generalize pv (!p4) (.bool q3) = u58
    generalize pv (!r0) (.int .i64 i) = u61
    generalize pv (!r0) (.bool C1) = u62
    generalize pv (!r0) (.bool C1) = u63
    generalize pv (q4) (.int .i64 a) = u64
    generalize pv (q4) (.bool B2) = u65
    generalize pv (!r0) (.bool s1) = u66
    generalize pv (!r0) (.bool s1) = u67
    generalize pv (s2) (.int .i64 i) = u68
    generalize pv (s2) (.int .i64 a) = u69
    generalize pv (s2) (.int .i64 g) = u70
    generalize pv (s2) (.bool C3) = u71
    generalize pv (!r0) (.bool s3) = u72
    go_wp2_with fail
    go_ret
    exact ⟨rfl, hB⟩
set_option maxRecDepth 10000 in
set_option maxHeartbeats 4000000 in
theorem walk_0 (k0 : Ky) (p : Int) (k : Ky) (i f a : Int) (w : World) (hT : Tabs w) (d e g : Int) (hd : Shut (IntKind.i64.wrap (i - p) = d)) (he : Shut (IntKind.i64.wrap (p - a) = e)) (hg : Shut (IntKind.i64.wrap (i - a) = g)) (A1 A2 A3 A4 A5 B2 B3 C1 C3 p1 p2 p3 p4 q0 q1 q2 q3 q4 r0 s1 s2 s3 : Bool) (hA1 : Shut (decide (0 ≤ p) = A1)) (hA2 : Shut (decide (p < i) = A2)) (hA3 : Shut (decide (40 < d) = A3)) (hA4 : Shut (decide (d ≤ f) = A4)) (hA5 : Shut (decide (d ≤ 1024) = A5)) (hB2 : Shut (decide (0 ≤ a) = B2)) (hB3 : Shut (decide (40 < e) = B3)) (hC1 : Shut (decide (0 ≤ i) = C1)) (hC3 : Shut (decide (40 < g) = C3)) (hp1 : Shut ((A1 && A2) = p1)) (hp2 : Shut ((p1 && A3) = p2)) (hp3 : Shut ((p2 && A4) = p3)) (hp4 : Shut ((p3 && A5) = p4)) (hq0 : Shut ((!p4 && A1) = q0)) (hq1 : Shut ((A1 && B2) = q1)) (hq2 : Shut ((!p4 && q1) = q2)) (hq3 : Shut ((q1 && B3) = q3)) (hr0 : Shut ((p4 || q3) = r0)) (hq4 : Shut ((!r0 && C1) = q4)) (hs1 : Shut ((C1 && B2) = s1)) (hs2 : Shut ((!r0 && s1) = s2)) (hs3 : Shut ((s1 && C3) = s3)) (hz : Shut ((r0 || s3) = false)) (hi : i ≤ 9223372036854775807) (hp : p ≤ 9223372036854775807) (A : Ky) (Q : Int) (hA : Shut (tl k0 p a = (A, Q))) (hE : Shut (ck k0 p k i f = 0)) (hM : Shut (ln k0 p k i f = ((k, i), 0))) : Calls Tryd.prog 4 #[.agg (kc k0).toArray, .int .i64 p, .agg (kc k).toArray, .int .i64 i, .int .i64 f, .int .i64 a] w fun e w' => e = .returned (.bool true) ∧ Below w.heap.size w w' := by
  go_enter Tryd.func4, Tryd.ntmps4
  (try simp only [List.append_eq, List.cons_append, List.nil_append])
  go_wp2_with (first
    | ((with_reducible refine at_boxD 6 23 ?_); refine L_box 23 _ (kc (k0)) rfl ?_; intro w1 t_ b_a; have l_hB_a : w.heap.size ≤ w.heap.size := Nat.le_refl _; have hB : Below w.heap.size w w1 := t_.below (Below.refl _ _) (Nat.le_refl _); clear t_; (try simp only [Act.put, List.setIfInBounds_toArray, List.set_cons_zero, List.set_cons_succ]))
    | ((with_reducible refine at_boxD 8 23 ?_); refine L_box 23 _ (kc (k)) rfl ?_; intro w2 t_ b_b; have o_a_b := b_a.lt; have l_hB_b : _ ≤ w1.heap.size := hB.size; replace b_a := t_.blk b_a (Nat.ne_of_lt b_a.lt); replace hB := t_.below hB l_hB_b; clear t_; (try simp only [Act.put, List.setIfInBounds_toArray, List.set_cons_zero, List.set_cons_succ]))
    | ((with_reducible refine at_callD 21 ?_); refine L_give (by rfl) (g_call 9 _ _ [] (kf9 _ _) rfl ((awake_any w2 (hT.on hB)).mono ?_)); rintro e w3 ⟨rfl, t_⟩; refine ⟨_, rfl, ?_⟩; replace b_a := b_a.below t_ b_a.lt; replace b_b := b_b.below t_ b_b.lt; replace hB := hB.trans (t_.mono hB.size); clear t_; (try simp only [Act.put, List.setIfInBounds_toArray, List.set_cons_zero, List.set_cons_succ]))
    | ((with_reducible refine stop_list 25 ?_); intro X hX))
  refine hX.out ?_
  clear hX X
  refine L_give (by rfl) (g_isub 3 _ _ .i64 _ _ d rfl rfl hd.out ?_)
  (try simp only [Act.put, List.setIfInBounds_toArray, List.set_cons_zero, List.set_cons_succ])
  refine L_give (by rfl) (g_assign _ (.int .i64 d) rfl ?_)
  (try simp only [Act.put, List.setIfInBounds_toArray, List.set_cons_zero, List.set_cons_succ])
  refine wpList_nil ?_
  rename_i Q0 K1 h1 K2 h2
  refine h2 _ _ ?_
  clear h2 K2
  apply wp_seq_k
  intro K3 h3
  refine wp_region_lit ?_
  refine wp_list_text (by kernel_rfl) [.int .i64 p, .bool A1, .bool A1, pv (A1) (.int .i64 i), pv (A1) (.int .i64 p), pv (A1) (.bool A2), .bool p1, .bool p1, pv (p1) (.int .i64 d), pv (p1) (.bool A3), .bool p2, .bool p2, pv (p2) (.int .i64 d), pv (p2) (.int .i64 f), pv (p2) (.bool A4), .bool p3, .bool p3, pv (p3) (.int .i64 d), pv (p3) (.bool A5), .bool p4, .bool p4, pv (!p4) (.int .i64 p), pv (!p4) (.bool A1), pv (!p4) (.bool A1), pv (q0) (.int .i64 a), pv (q0) (.bool B2), pv (!p4) (.bool q1), pv (!p4) (.bool q1), pv (q2) (.int .i64 p), pv (q2) (.int .i64 a), pv (q2) (.int .i64 e), pv (q2) (.bool B3), pv (!p4) (.bool q3), .bool r0, .bool r0, pv (!r0) (.int .i64 i), pv (!r0) (.bool C1), pv (!r0) (.bool C1), pv (q4) (.int .i64 a), pv (q4) (.bool B2), pv (!r0) (.bool s1), pv (!r0) (.bool s1), pv (s2) (.int .i64 i), pv (s2) (.int .i64 a), pv (s2) (.int .i64 g), pv (s2) (.bool C3), pv (!r0) (.bool s3), .bool false] (by rfl) (fun w' => w' = w3) rfl ?_ ?_
  · simp only [fullL, Act.put, List.setIfInBounds_toArray, List.set_cons_succ, List.set_cons_zero]
    refine ⟨?_, ?_, ?_, ?_, ?_, ?_, ?_, ?_, ?_, ?_, ?_, ?_, ?_, ?_, ?_, ?_, ?_, ?_, ?_, ?_, ?_, ?_, ?_, ?_, ?_, ?_, ?_, ?_, ?_, ?_, ?_, ?_, ?_, ?_, ?_, ?_, ?_, ?_, ?_, ?_, ?_, ?_, ?_, ?_, ?_, ?_, ?_, ?_, trivial⟩
    · intro wx hw; clear b_a b_b hB; first | exact gn rfl ⟨rfl, hw⟩ | exact gw rfl (g_move _ _ rfl ⟨rfl, hw⟩)
    · intro wx hw; clear b_a b_b hB; first | exact gn rfl ⟨rfl, hw⟩ | exact gw rfl (g_igeq 3 _ _ .i64 _ _ A1 rfl rfl hA1.out ⟨rfl, hw⟩)
    · intro wx hw; clear b_a b_b hB; first | exact gn rfl ⟨rfl, hw⟩ | exact gw rfl (g_move _ _ rfl ⟨rfl, hw⟩)
    · intro wx hw; clear b_a b_b hB; cases A1 <;> first | exact gn rfl ⟨rfl, hw⟩ | exact gw rfl (g_move _ _ rfl ⟨rfl, hw⟩)
    · intro wx hw; clear b_a b_b hB; cases A1 <;> first | exact gn rfl ⟨rfl, hw⟩ | exact gw rfl (g_move _ _ rfl ⟨rfl, hw⟩)
    · intro wx hw; clear b_a b_b hB; cases A1 <;> first | exact gn rfl ⟨rfl, hw⟩ | exact gw rfl (g_igtr 3 _ _ .i64 _ _ A2 rfl rfl hA2.out ⟨rfl, hw⟩)
    · intro wx hw; clear b_a b_b hB; have e_ := hp1.out; subst e_; cases A1 <;> first | exact gn rfl ⟨rfl, hw⟩ | exact gw rfl (g_pickt _ _ _ _ rfl rfl ⟨rfl, hw⟩) | exact gw rfl (g_pickf _ _ _ _ rfl rfl ⟨rfl, hw⟩)
    · intro wx hw; clear b_a b_b hB; first | exact gn rfl ⟨rfl, hw⟩ | exact gw rfl (g_move _ _ rfl ⟨rfl, hw⟩)
    · intro wx hw; clear b_a b_b hB; cases p1 <;> first | exact gn rfl ⟨rfl, hw⟩ | exact gw rfl (g_move _ _ rfl ⟨rfl, hw⟩)
    · intro wx hw; clear b_a b_b hB; cases p1 <;> first | exact gn rfl ⟨rfl, hw⟩ | exact gw rfl (g_igtr 3 _ _ .i64 _ _ A3 rfl rfl hA3.out ⟨rfl, hw⟩)
    · intro wx hw; clear b_a b_b hB; have e_ := hp2.out; subst e_; cases p1 <;> first | exact gn rfl ⟨rfl, hw⟩ | exact gw rfl (g_pickt _ _ _ _ rfl rfl ⟨rfl, hw⟩) | exact gw rfl (g_pickf _ _ _ _ rfl rfl ⟨rfl, hw⟩)
    · intro wx hw; clear b_a b_b hB; first | exact gn rfl ⟨rfl, hw⟩ | exact gw rfl (g_move _ _ rfl ⟨rfl, hw⟩)
    · intro wx hw; clear b_a b_b hB; cases p2 <;> first | exact gn rfl ⟨rfl, hw⟩ | exact gw rfl (g_move _ _ rfl ⟨rfl, hw⟩)
    · intro wx hw; clear b_a b_b hB; cases p2 <;> first | exact gn rfl ⟨rfl, hw⟩ | exact gw rfl (g_move _ _ rfl ⟨rfl, hw⟩)
    · intro wx hw; clear b_a b_b hB; cases p2 <;> first | exact gn rfl ⟨rfl, hw⟩ | exact gw rfl (g_ileq 3 _ _ .i64 _ _ A4 rfl rfl hA4.out ⟨rfl, hw⟩)
    · intro wx hw; clear b_a b_b hB; have e_ := hp3.out; subst e_; cases p2 <;> first | exact gn rfl ⟨rfl, hw⟩ | exact gw rfl (g_pickt _ _ _ _ rfl rfl ⟨rfl, hw⟩) | exact gw rfl (g_pickf _ _ _ _ rfl rfl ⟨rfl, hw⟩)
    · intro wx hw; clear b_a b_b hB; first | exact gn rfl ⟨rfl, hw⟩ | exact gw rfl (g_move _ _ rfl ⟨rfl, hw⟩)
    · intro wx hw; clear b_a b_b hB; cases p3 <;> first | exact gn rfl ⟨rfl, hw⟩ | exact gw rfl (g_move _ _ rfl ⟨rfl, hw⟩)
    · intro wx hw; clear b_a b_b hB; cases p3 <;> first | exact gn rfl ⟨rfl, hw⟩ | exact gw rfl (g_ileq 3 _ _ .i64 _ _ A5 rfl rfl hA5.out ⟨rfl, hw⟩)
    · intro wx hw; clear b_a b_b hB; have e_ := hp4.out; subst e_; cases p3 <;> first | exact gn rfl ⟨rfl, hw⟩ | exact gw rfl (g_pickt _ _ _ _ rfl rfl ⟨rfl, hw⟩) | exact gw rfl (g_pickf _ _ _ _ rfl rfl ⟨rfl, hw⟩)
    · intro wx hw; clear b_a b_b hB; first | exact gn rfl ⟨rfl, hw⟩ | exact gw rfl (g_move _ _ rfl ⟨rfl, hw⟩)
    · intro wx hw; clear b_a b_b hB; cases p4 <;> first | exact gn rfl ⟨rfl, hw⟩ | exact gw rfl (g_move _ _ rfl ⟨rfl, hw⟩)
    · intro wx hw; clear b_a b_b hB; cases p4 <;> first | exact gn rfl ⟨rfl, hw⟩ | exact gw rfl (g_igeq 3 _ _ .i64 _ _ A1 rfl rfl hA1.out ⟨rfl, hw⟩)
    · intro wx hw; clear b_a b_b hB; cases p4 <;> first | exact gn rfl ⟨rfl, hw⟩ | exact gw rfl (g_move _ _ rfl ⟨rfl, hw⟩)
    · intro wx hw; clear b_a b_b hB; have e_ := hq0.out; subst e_; cases p4 <;> cases A1 <;> first | exact gn rfl ⟨rfl, hw⟩ | exact gw rfl (g_move _ _ rfl ⟨rfl, hw⟩)
    · intro wx hw; clear b_a b_b hB; have e_ := hq0.out; subst e_; cases p4 <;> cases A1 <;> first | exact gn rfl ⟨rfl, hw⟩ | exact gw rfl (g_igeq 3 _ _ .i64 _ _ B2 rfl rfl hB2.out ⟨rfl, hw⟩)
    · intro wx hw; clear b_a b_b hB; have e_ := hq0.out; subst e_; have e_ := hq1.out; subst e_; cases p4 <;> cases A1 <;> first | exact gn rfl ⟨rfl, hw⟩ | exact gw rfl (g_pickt _ _ _ _ rfl rfl ⟨rfl, hw⟩) | exact gw rfl (g_pickf _ _ _ _ rfl rfl ⟨rfl, hw⟩)
    · intro wx hw; clear b_a b_b hB; cases p4 <;> first | exact gn rfl ⟨rfl, hw⟩ | exact gw rfl (g_move _ _ rfl ⟨rfl, hw⟩)
    · intro wx hw; clear b_a b_b hB; have e_ := hq2.out; subst e_; cases p4 <;> cases q1 <;> first | exact gn rfl ⟨rfl, hw⟩ | exact gw rfl (g_move _ _ rfl ⟨rfl, hw⟩)
    · intro wx hw; clear b_a b_b hB; have e_ := hq2.out; subst e_; cases p4 <;> cases q1 <;> first | exact gn rfl ⟨rfl, hw⟩ | exact gw rfl (g_move _ _ rfl ⟨rfl, hw⟩)
    · intro wx hw; clear b_a b_b hB; have e_ := hq2.out; subst e_; cases p4 <;> cases q1 <;> first | exact gn rfl ⟨rfl, hw⟩ | exact gw rfl (g_isub 3 _ _ .i64 _ _ e rfl rfl he.out ⟨rfl, hw⟩)
    · intro wx hw; clear b_a b_b hB; have e_ := hq2.out; subst e_; cases p4 <;> cases q1 <;> first | exact gn rfl ⟨rfl, hw⟩ | exact gw rfl (g_igtr 3 _ _ .i64 _ _ B3 rfl rfl hB3.out ⟨rfl, hw⟩)
    · intro wx hw; clear b_a b_b hB; have e_ := hq2.out; subst e_; have e_ := hq3.out; subst e_; cases p4 <;> cases q1 <;> first | exact gn rfl ⟨rfl, hw⟩ | exact gw rfl (g_pickt _ _ _ _ rfl rfl ⟨rfl, hw⟩) | exact gw rfl (g_pickf _ _ _ _ rfl rfl ⟨rfl, hw⟩)
    · intro wx hw; clear b_a b_b hB; have e_ := hr0.out; subst e_; cases p4 <;> first | exact gn rfl ⟨rfl, hw⟩ | exact gw rfl (g_pickt _ _ _ _ rfl rfl ⟨rfl, hw⟩) | exact gw rfl (g_pickf _ _ _ _ rfl rfl ⟨rfl, hw⟩)
    · intro wx hw; clear b_a b_b hB; first | exact gn rfl ⟨rfl, hw⟩ | exact gw rfl (g_move _ _ rfl ⟨rfl, hw⟩)
    · intro wx hw; clear b_a b_b hB; cases r0 <;> first | exact gn rfl ⟨rfl, hw⟩ | exact gw rfl (g_move _ _ rfl ⟨rfl, hw⟩)
    · intro wx hw; clear b_a b_b hB; cases r0 <;> first | exact gn rfl ⟨rfl, hw⟩ | exact gw rfl (g_igeq 3 _ _ .i64 _ _ C1 rfl rfl hC1.out ⟨rfl, hw⟩)
    · intro wx hw; clear b_a b_b hB; cases r0 <;> first | exact gn rfl ⟨rfl, hw⟩ | exact gw rfl (g_move _ _ rfl ⟨rfl, hw⟩)
    · intro wx hw; clear b_a b_b hB; have e_ := hq4.out; subst e_; cases r0 <;> cases C1 <;> first | exact gn rfl ⟨rfl, hw⟩ | exact gw rfl (g_move _ _ rfl ⟨rfl, hw⟩)
    · intro wx hw; clear b_a b_b hB; have e_ := hq4.out; subst e_; cases r0 <;> cases C1 <;> first | exact gn rfl ⟨rfl, hw⟩ | exact gw rfl (g_igeq 3 _ _ .i64 _ _ B2 rfl rfl hB2.out ⟨rfl, hw⟩)
    · intro wx hw; clear b_a b_b hB; have e_ := hq4.out; subst e_; have e_ := hs1.out; subst e_; cases r0 <;> cases C1 <;> first | exact gn rfl ⟨rfl, hw⟩ | exact gw rfl (g_pickt _ _ _ _ rfl rfl ⟨rfl, hw⟩) | exact gw rfl (g_pickf _ _ _ _ rfl rfl ⟨rfl, hw⟩)
    · intro wx hw; clear b_a b_b hB; cases r0 <;> first | exact gn rfl ⟨rfl, hw⟩ | exact gw rfl (g_move _ _ rfl ⟨rfl, hw⟩)
    · intro wx hw; clear b_a b_b hB; have e_ := hs2.out; subst e_; cases r0 <;> cases s1 <;> first | exact gn rfl ⟨rfl, hw⟩ | exact gw rfl (g_move _ _ rfl ⟨rfl, hw⟩)
    · intro wx hw; clear b_a b_b hB; have e_ := hs2.out; subst e_; cases r0 <;> cases s1 <;> first | exact gn rfl ⟨rfl, hw⟩ | exact gw rfl (g_move _ _ rfl ⟨rfl, hw⟩)
    · intro wx hw; clear b_a b_b hB; have e_ := hs2.out; subst e_; cases r0 <;> cases s1 <;> first | exact gn rfl ⟨rfl, hw⟩ | exact gw rfl (g_isub 3 _ _ .i64 _ _ g rfl rfl hg.out ⟨rfl, hw⟩)
    · intro wx hw; clear b_a b_b hB; have e_ := hs2.out; subst e_; cases r0 <;> cases s1 <;> first | exact gn rfl ⟨rfl, hw⟩ | exact gw rfl (g_igtr 3 _ _ .i64 _ _ C3 rfl rfl hC3.out ⟨rfl, hw⟩)
    · intro wx hw; clear b_a b_b hB; have e_ := hs2.out; subst e_; have e_ := hs3.out; subst e_; cases r0 <;> cases s1 <;> first | exact gn rfl ⟨rfl, hw⟩ | exact gw rfl (g_pickt _ _ _ _ rfl rfl ⟨rfl, hw⟩) | exact gw rfl (g_pickf _ _ _ _ rfl rfl ⟨rfl, hw⟩)
    · intro wx hw; clear b_a b_b hB; have hz_ := hz.out; cases r0 <;> cases s3 <;> simp at hz_ <;> first | exact gn rfl ⟨rfl, hw⟩ | exact gw rfl (g_pickt _ _ _ _ rfl rfl ⟨rfl, hw⟩) | exact gw rfl (g_pickf _ _ _ _ rfl rfl ⟨rfl, hw⟩)
  · simp only [fullL, Act.put, List.setIfInBounds_toArray, List.set_cons_succ, List.set_cons_zero]
    intro w_ hw_; rw [hw_]; clear hw_ w_
    generalize pv (A1) (.int .i64 i) = u29
    generalize pv (A1) (.int .i64 p) = u30
    generalize pv (A1) (.bool A2) = u31
    generalize pv (p1) (.int .i64 d) = u34
    generalize pv (p1) (.bool A3) = u35
    generalize pv (p2) (.int .i64 d) = u38
    generalize pv (p2) (.int .i64 f) = u39
    generalize pv (p2) (.bool A4) = u40
    generalize pv (p3) (.int .i64 d) = u43
    generalize pv (p3) (.bool A5) = u44
    generalize pv (!p4) (.int .i64 p) = u47
    generalize pv (!p4) (.bool A1) = u48
    generalize pv (!p4) (.bool A1) = u49
    generalize pv (q0) (.int .i64 a) = u50
    generalize pv (q0) (.bool B2) = u51
    generalize pv (!p4) (.bool q1) = u52
    generalize pv (!p4) (.bool q1) = u53
    generalize pv (q2) (.int .i64 p) = u54
    generalize pv (q2) (.int .i64 a) = u55
    generalize pv (q2) (.int .i64 e) = u56
    generalize pv (q2) (.bool B3) = u57
    generalize pv (!p4) (.bool q3) = u58
    generalize pv (!r0) (.int .i64 i) = u61
    generalize pv (!r0) (.bool C1) = u62
    generalize pv (!r0) (.bool C1) = u63
    generalize pv (q4) (.int .i64 a) = u64
    generalize pv (q4) (.bool B2) = u65
    generalize pv (!r0) (.bool s1) = u66
    generalize pv (!r0) (.bool s1) = u67
    generalize pv (s2) (.int .i64 i) = u68
    generalize pv (s2) (.int .i64 a) = u69
    generalize pv (s2) (.int .i64 g) = u70
    generalize pv (s2) (.bool C3) = u71
    generalize pv (!r0) (.bool s3) = u72
    go_wp2_with (first
      | ((with_reducible refine at_loadD 74 23 ?_); refine L_give (by rfl) (g_load_all 23 _ (w.heap.size) (kc (k0)) 23 _ rfl (b_a) Tryd.underlying23 rfl (szK _) ?_); (try simp only [Act.put, List.setIfInBounds_toArray, List.set_cons_zero, List.set_cons_succ]))
      | ((with_reducible refine at_loadD 76 23 ?_); refine L_give (by rfl) (g_load_all 23 _ (w1.heap.size) (kc (k)) 23 _ rfl (b_b) Tryd.underlying23 rfl (szK _) ?_); (try simp only [Act.put, List.setIfInBounds_toArray, List.set_cons_zero, List.set_cons_succ]))
      | ((with_reducible refine at_callD 79 ?_); refine L_give (by rfl) (g_call 16 _ _ [.agg (kc (k0)).toArray, .int .i64 (p), .agg (kc (k)).toArray, .int .i64 (i), .int .i64 (f)] (kf16 _ _) rfl ((check_any k0 p k i f w3 (hT.on hB) 0 hi hE).mono ?_)); rintro e w4 ⟨rfl, t_⟩; refine ⟨_, rfl, ?_⟩; replace b_a := b_a.below t_ b_a.lt; replace b_b := b_b.below t_ b_b.lt; replace hB := hB.trans (t_.mono hB.size); clear t_; (try simp only [Act.put, List.setIfInBounds_toArray, List.set_cons_zero, List.set_cons_succ]))
      | ((with_reducible refine at_loadD 81 23 ?_); refine L_give (by rfl) (g_load_all 23 _ (w.heap.size) (kc (k0)) 23 _ rfl (b_a) Tryd.underlying23 rfl (szK _) ?_); (try simp only [Act.put, List.setIfInBounds_toArray, List.set_cons_zero, List.set_cons_succ]))
      | ((with_reducible refine at_bld 83 ?_); refine L_give (by rfl) (g_bldM _ _ (k0) (p) rfl rfl ?_); (try simp only [Act.put, List.setIfInBounds_toArray, List.set_cons_zero, List.set_cons_succ]))
      | ((with_reducible refine at_loadD 84 23 ?_); refine L_give (by rfl) (g_load_all 23 _ (w1.heap.size) (kc (k)) 23 _ rfl (b_b) Tryd.underlying23 rfl (szK _) ?_); (try simp only [Act.put, List.setIfInBounds_toArray, List.set_cons_zero, List.set_cons_succ]))
      | ((with_reducible refine at_callD 87 ?_); refine L_give (by rfl) (g_call 17 _ _ [.agg (mc (k0) (p)).toArray, .agg (kc (k)).toArray, .int .i64 (i), .int .i64 (f)] (kf17 _ _) rfl ((learn_any k0 p k i f w4 (hT.on hB) k i 0 hi hM).mono ?_)); rintro e w5 ⟨rfl, t_⟩; refine ⟨_, rfl, ?_⟩; replace b_a := b_a.below t_ b_a.lt; replace b_b := b_b.below t_ b_b.lt; replace hB := hB.trans (t_.mono hB.size); clear t_; (try simp only [Act.put, List.setIfInBounds_toArray, List.set_cons_zero, List.set_cons_succ]))
      | ((with_reducible refine at_allocD 15 34 ?_); refine L_alloc 34 (mc (zk) (0)) zeroM ?_; intro w6 t_ b_m; have o_a_m := b_a.lt; have o_b_m := b_b.lt; have l_hB_m : _ ≤ w5.heap.size := hB.size; replace b_a := t_.blk b_a (Nat.ne_of_lt b_a.lt); replace b_b := t_.blk b_b (Nat.ne_of_lt b_b.lt); replace hB := t_.below hB l_hB_m; clear t_; (try simp only [Act.put, List.setIfInBounds_toArray, List.set_cons_zero, List.set_cons_succ]))
      | ((with_reducible refine at_storeX 15 34 ?_); refine L_store_all 34 _ _ (w5.heap.size) (mc (k) (i)) _ 34 rfl rfl b_m (szM _ _) (mm_len _ _ _ _) (one_mc _ _) ?_; clear b_m; intro w7 t_ b_m; replace b_a := t_.blk b_a (Nat.ne_of_lt o_a_m); replace b_b := t_.blk b_b (Nat.ne_of_lt o_b_m); replace hB := t_.below hB l_hB_m; clear t_)
      | ((with_reducible refine at_loadD 91 23 ?_); refine L_give (by rfl) (g_load_all 23 _ (w.heap.size) (kc (k0)) 23 _ rfl (b_a) Tryd.underlying23 rfl (szK _) ?_); (try simp only [Act.put, List.setIfInBounds_toArray, List.set_cons_zero, List.set_cons_succ]))
      | ((with_reducible refine at_bld 93 ?_); refine L_give (by rfl) (g_bldM _ _ (k0) (p) rfl rfl ?_); (try simp only [Act.put, List.setIfInBounds_toArray, List.set_cons_zero, List.set_cons_succ]))
      | ((with_reducible refine at_callD 95 ?_); refine L_give (by rfl) (g_call 18 _ _ [.agg (mc (k0) (p)).toArray, .int .i64 (a)] (kf18 _ _) rfl ((tell_any k0 p a w7 (hT.on hB) A Q hp hA).mono ?_)); rintro e w8 ⟨rfl, t_⟩; refine ⟨_, rfl, ?_⟩; replace b_a := b_a.below t_ b_a.lt; replace b_b := b_b.below t_ b_b.lt; replace b_m := b_m.below t_ b_m.lt; replace hB := hB.trans (t_.mono hB.size); clear t_; (try simp only [Act.put, List.setIfInBounds_toArray, List.set_cons_zero, List.set_cons_succ]))
      | ((with_reducible refine at_allocD 17 23 ?_); refine L_alloc 23 (kc (zk)) zeroK ?_; intro w9 t_ b_t; have o_a_t := b_a.lt; have o_b_t := b_b.lt; have o_m_t := b_m.lt; have l_hB_t : _ ≤ w8.heap.size := hB.size; replace b_a := t_.blk b_a (Nat.ne_of_lt b_a.lt); replace b_b := t_.blk b_b (Nat.ne_of_lt b_b.lt); replace b_m := t_.blk b_m (Nat.ne_of_lt b_m.lt); replace hB := t_.below hB l_hB_t; clear t_; (try simp only [Act.put, List.setIfInBounds_toArray, List.set_cons_zero, List.set_cons_succ]))
      | ((with_reducible refine at_storeX 17 23 ?_); refine L_store_all 23 _ _ (w8.heap.size) (kc (A)) _ 23 rfl rfl b_t (szK _) (kk_len _ _) (one_kc _) ?_; clear b_t; intro w10 t_ b_t; replace b_a := t_.blk b_a (Nat.ne_of_lt o_a_t); replace b_b := t_.blk b_b (Nat.ne_of_lt o_b_t); replace b_m := t_.blk b_m (Nat.ne_of_lt o_m_t); replace hB := t_.below hB l_hB_t; clear t_)
      | ((with_reducible refine at_loadD 99 23 ?_); refine L_give (by rfl) (g_load_all 23 _ (w.heap.size) (kc (k0)) 23 _ rfl (b_a) Tryd.underlying23 rfl (szK _) ?_); (try simp only [Act.put, List.setIfInBounds_toArray, List.set_cons_zero, List.set_cons_succ]))
      | ((with_reducible refine at_callD 102 ?_); refine L_give (by rfl) (g_call 19 _ _ [.agg (kc (k0)).toArray, .int .i64 (p), .int .i64 (a)] (kf19 _ _) rfl ((rtell_any k0 p a w10 A Q hp hA).mono ?_)); rintro e w11 ⟨rfl, t_⟩; refine ⟨_, rfl, ?_⟩; replace b_a := b_a.below t_ b_a.lt; replace b_b := b_b.below t_ b_b.lt; replace b_m := b_m.below t_ b_m.lt; replace b_t := b_t.below t_ b_t.lt; replace hB := hB.trans (t_.mono hB.size); clear t_; (try simp only [Act.put, List.setIfInBounds_toArray, List.set_cons_zero, List.set_cons_succ]))
      | ((with_reducible refine at_allocD 19 23 ?_); refine L_alloc 23 (kc (zk)) zeroK ?_; intro w12 t_ b_u; have o_a_u := b_a.lt; have o_b_u := b_b.lt; have o_m_u := b_m.lt; have o_t_u := b_t.lt; have l_hB_u : _ ≤ w11.heap.size := hB.size; replace b_a := t_.blk b_a (Nat.ne_of_lt b_a.lt); replace b_b := t_.blk b_b (Nat.ne_of_lt b_b.lt); replace b_m := t_.blk b_m (Nat.ne_of_lt b_m.lt); replace b_t := t_.blk b_t (Nat.ne_of_lt b_t.lt); replace hB := t_.below hB l_hB_u; clear t_; (try simp only [Act.put, List.setIfInBounds_toArray, List.set_cons_zero, List.set_cons_succ]))
      | ((with_reducible refine at_storeX 19 23 ?_); refine L_store_all 23 _ _ (w11.heap.size) (kc (A)) _ 23 rfl rfl b_u (szK _) (kk_len _ _) (one_kc _) ?_; clear b_u; intro w13 t_ b_u; replace b_a := t_.blk b_a (Nat.ne_of_lt o_a_u); replace b_b := t_.blk b_b (Nat.ne_of_lt o_b_u); replace b_m := t_.blk b_m (Nat.ne_of_lt o_m_u); replace b_t := t_.blk b_t (Nat.ne_of_lt o_t_u); replace hB := t_.below hB l_hB_u; clear t_)
      | ((with_reducible refine at_loadD 106 23 ?_); refine L_give (by rfl) (g_load_all 23 _ (w.heap.size) (kc (k0)) 23 _ rfl (b_a) Tryd.underlying23 rfl (szK _) ?_); (try simp only [Act.put, List.setIfInBounds_toArray, List.set_cons_zero, List.set_cons_succ]))
      | ((with_reducible refine at_loadD 108 23 ?_); refine L_give (by rfl) (g_load_all 23 _ (w1.heap.size) (kc (k)) 23 _ rfl (b_b) Tryd.underlying23 rfl (szK _) ?_); (try simp only [Act.put, List.setIfInBounds_toArray, List.set_cons_zero, List.set_cons_succ]))
      | ((with_reducible refine at_callD 111 ?_); refine L_give (by rfl) (g_call 20 _ _ [.agg (kc (k0)).toArray, .int .i64 (p), .agg (kc (k)).toArray, .int .i64 (i), .int .i64 (f)] (kf20 _ _) rfl ((rcheck_any k0 p k i f w13 0 hi hE).mono ?_)); rintro e w14 ⟨rfl, t_⟩; refine ⟨_, rfl, ?_⟩; replace b_a := b_a.below t_ b_a.lt; replace b_b := b_b.below t_ b_b.lt; replace b_m := b_m.below t_ b_m.lt; replace b_t := b_t.below t_ b_t.lt; replace b_u := b_u.below t_ b_u.lt; replace hB := hB.trans (t_.mono hB.size); clear t_; (try simp only [Act.put, List.setIfInBounds_toArray, List.set_cons_zero, List.set_cons_succ]))
      | ((with_reducible refine at_binD 112 ?_); refine L_give (by rfl) (g_ine 25 _ _ .i64 _ _ false rfl rfl (by decide) ?_); (try simp only [Act.put, List.setIfInBounds_toArray, List.set_cons_zero, List.set_cons_succ]))
      | ((with_reducible refine at_binD 116 ?_); refine L_give (by rfl) (g_ine 25 _ _ .i64 _ _ false rfl rfl (by decide) ?_); (try simp only [Act.put, List.setIfInBounds_toArray, List.set_cons_zero, List.set_cons_succ]))
      | ((with_reducible refine at_loadD 119 23 ?_); refine L_give (by rfl) (g_load_all 23 _ (w8.heap.size) (kc (A)) 23 _ rfl (b_t) Tryd.underlying23 rfl (szK _) ?_); (try simp only [Act.put, List.setIfInBounds_toArray, List.set_cons_zero, List.set_cons_succ]))
      | ((with_reducible refine at_loadD 120 23 ?_); refine L_give (by rfl) (g_load_all 23 _ (w11.heap.size) (kc (A)) 23 _ rfl (b_u) Tryd.underlying23 rfl (szK _) ?_); (try simp only [Act.put, List.setIfInBounds_toArray, List.set_cons_zero, List.set_cons_succ]))
      | ((with_reducible refine at_binD 121 ?_); refine L_give (by rfl) (g_nK _ _ (A) (A) true false rfl rfl (decide_eq_true rfl) rfl ?_); (try simp only [Act.put, List.setIfInBounds_toArray, List.set_cons_zero, List.set_cons_succ]))
      | ((with_reducible refine at_binD 126 ?_); refine L_give (by rfl) (g_ine 25 _ _ .i64 _ _ false rfl rfl (decide_eq_false (fun h => h rfl)) ?_); (try simp only [Act.put, List.setIfInBounds_toArray, List.set_cons_zero, List.set_cons_succ]))
      | ((with_reducible refine at_binD 129 ?_); refine L_give (by rfl) (g_ieq 25 _ _ .i64 _ _ true rfl rfl (by decide) ?_); (try simp only [Act.put, List.setIfInBounds_toArray, List.set_cons_zero, List.set_cons_succ]))
      | ((with_reducible refine at_loadD 131 34 ?_); refine L_give (by rfl) (g_load_all 34 _ (w5.heap.size) (mc (k) (i)) 34 _ rfl (b_m) Tryd.underlying34 rfl (szM _ _) ?_); (try simp only [Act.put, List.setIfInBounds_toArray, List.set_cons_zero, List.set_cons_succ]))
      | ((with_reducible refine at_loadD 132 23 ?_); refine L_give (by rfl) (g_load_all 23 _ (w1.heap.size) (kc (k)) 23 _ rfl (b_b) Tryd.underlying23 rfl (szK _) ?_); (try simp only [Act.put, List.setIfInBounds_toArray, List.set_cons_zero, List.set_cons_succ]))
      | ((with_reducible refine at_bld 134 ?_); refine L_give (by rfl) (g_bldM _ _ (k) (i) rfl rfl ?_); (try simp only [Act.put, List.setIfInBounds_toArray, List.set_cons_zero, List.set_cons_succ]))
      | ((with_reducible refine at_binD 135 ?_); refine L_give (by rfl) (g_eqlM _ _ (k) (k) (i) (i) true rfl rfl (decide_eq_true ⟨rfl, rfl⟩) ?_); (try simp only [Act.put, List.setIfInBounds_toArray, List.set_cons_zero, List.set_cons_succ])))
    go_ret
    exact ⟨rfl, hB⟩
set_option maxRecDepth 10000 in
set_option maxHeartbeats 4000000 in
theorem walk_1 (k0 : Ky) (p : Int) (k : Ky) (i f a : Int) (w : World) (hT : Tabs w) (d e g : Int) (hd : Shut (IntKind.i64.wrap (i - p) = d)) (he : Shut (IntKind.i64.wrap (p - a) = e)) (hg : Shut (IntKind.i64.wrap (i - a) = g)) (A1 A2 A3 A4 A5 B2 B3 C1 C3 p1 p2 p3 p4 q0 q1 q2 q3 q4 r0 s1 s2 s3 : Bool) (hA1 : Shut (decide (0 ≤ p) = A1)) (hA2 : Shut (decide (p < i) = A2)) (hA3 : Shut (decide (40 < d) = A3)) (hA4 : Shut (decide (d ≤ f) = A4)) (hA5 : Shut (decide (d ≤ 1024) = A5)) (hB2 : Shut (decide (0 ≤ a) = B2)) (hB3 : Shut (decide (40 < e) = B3)) (hC1 : Shut (decide (0 ≤ i) = C1)) (hC3 : Shut (decide (40 < g) = C3)) (hp1 : Shut ((A1 && A2) = p1)) (hp2 : Shut ((p1 && A3) = p2)) (hp3 : Shut ((p2 && A4) = p3)) (hp4 : Shut ((p3 && A5) = p4)) (hq0 : Shut ((!p4 && A1) = q0)) (hq1 : Shut ((A1 && B2) = q1)) (hq2 : Shut ((!p4 && q1) = q2)) (hq3 : Shut ((q1 && B3) = q3)) (hr0 : Shut ((p4 || q3) = r0)) (hq4 : Shut ((!r0 && C1) = q4)) (hs1 : Shut ((C1 && B2) = s1)) (hs2 : Shut ((!r0 && s1) = s2)) (hs3 : Shut ((s1 && C3) = s3)) (hz : Shut ((r0 || s3) = false)) (hi : i ≤ 9223372036854775807) (hp : p ≤ 9223372036854775807) (A : Ky) (Q : Int) (hA : Shut (tl k0 p a = (A, Q))) (E : Int) (hE0 : E ≠ 0) (hE : Shut (ck k0 p k i f = E)) (hM : Shut (ln k0 p k i f = ((zk, 0), E))) : Calls Tryd.prog 4 #[.agg (kc k0).toArray, .int .i64 p, .agg (kc k).toArray, .int .i64 i, .int .i64 f, .int .i64 a] w fun e w' => e = .returned (.bool true) ∧ Below w.heap.size w w' := by
  go_enter Tryd.func4, Tryd.ntmps4
  (try simp only [List.append_eq, List.cons_append, List.nil_append])
  go_wp2_with (first
    | ((with_reducible refine at_boxD 6 23 ?_); refine L_box 23 _ (kc (k0)) rfl ?_; intro w1 t_ b_a; have l_hB_a : w.heap.size ≤ w.heap.size := Nat.le_refl _; have hB : Below w.heap.size w w1 := t_.below (Below.refl _ _) (Nat.le_refl _); clear t_; (try simp only [Act.put, List.setIfInBounds_toArray, List.set_cons_zero, List.set_cons_succ]))
    | ((with_reducible refine at_boxD 8 23 ?_); refine L_box 23 _ (kc (k)) rfl ?_; intro w2 t_ b_b; have o_a_b := b_a.lt; have l_hB_b : _ ≤ w1.heap.size := hB.size; replace b_a := t_.blk b_a (Nat.ne_of_lt b_a.lt); replace hB := t_.below hB l_hB_b; clear t_; (try simp only [Act.put, List.setIfInBounds_toArray, List.set_cons_zero, List.set_cons_succ]))
    | ((with_reducible refine at_callD 21 ?_); refine L_give (by rfl) (g_call 9 _ _ [] (kf9 _ _) rfl ((awake_any w2 (hT.on hB)).mono ?_)); rintro e w3 ⟨rfl, t_⟩; refine ⟨_, rfl, ?_⟩; replace b_a := b_a.below t_ b_a.lt; replace b_b := b_b.below t_ b_b.lt; replace hB := hB.trans (t_.mono hB.size); clear t_; (try simp only [Act.put, List.setIfInBounds_toArray, List.set_cons_zero, List.set_cons_succ]))
    | ((with_reducible refine stop_list 25 ?_); intro X hX))
  refine hX.out ?_
  clear hX X
  refine L_give (by rfl) (g_isub 3 _ _ .i64 _ _ d rfl rfl hd.out ?_)
  (try simp only [Act.put, List.setIfInBounds_toArray, List.set_cons_zero, List.set_cons_succ])
  refine L_give (by rfl) (g_assign _ (.int .i64 d) rfl ?_)
  (try simp only [Act.put, List.setIfInBounds_toArray, List.set_cons_zero, List.set_cons_succ])
  refine wpList_nil ?_
  rename_i Q0 K1 h1 K2 h2
  refine h2 _ _ ?_
  clear h2 K2
  apply wp_seq_k
  intro K3 h3
  refine wp_region_lit ?_
  refine wp_list_text (by kernel_rfl) [.int .i64 p, .bool A1, .bool A1, pv (A1) (.int .i64 i), pv (A1) (.int .i64 p), pv (A1) (.bool A2), .bool p1, .bool p1, pv (p1) (.int .i64 d), pv (p1) (.bool A3), .bool p2, .bool p2, pv (p2) (.int .i64 d), pv (p2) (.int .i64 f), pv (p2) (.bool A4), .bool p3, .bool p3, pv (p3) (.int .i64 d), pv (p3) (.bool A5), .bool p4, .bool p4, pv (!p4) (.int .i64 p), pv (!p4) (.bool A1), pv (!p4) (.bool A1), pv (q0) (.int .i64 a), pv (q0) (.bool B2), pv (!p4) (.bool q1), pv (!p4) (.bool q1), pv (q2) (.int .i64 p), pv (q2) (.int .i64 a), pv (q2) (.int .i64 e), pv (q2) (.bool B3), pv (!p4) (.bool q3), .bool r0, .bool r0, pv (!r0) (.int .i64 i), pv (!r0) (.bool C1), pv (!r0) (.bool C1), pv (q4) (.int .i64 a), pv (q4) (.bool B2), pv (!r0) (.bool s1), pv (!r0) (.bool s1), pv (s2) (.int .i64 i), pv (s2) (.int .i64 a), pv (s2) (.int .i64 g), pv (s2) (.bool C3), pv (!r0) (.bool s3), .bool false] (by rfl) (fun w' => w' = w3) rfl ?_ ?_
  · simp only [fullL, Act.put, List.setIfInBounds_toArray, List.set_cons_succ, List.set_cons_zero]
    refine ⟨?_, ?_, ?_, ?_, ?_, ?_, ?_, ?_, ?_, ?_, ?_, ?_, ?_, ?_, ?_, ?_, ?_, ?_, ?_, ?_, ?_, ?_, ?_, ?_, ?_, ?_, ?_, ?_, ?_, ?_, ?_, ?_, ?_, ?_, ?_, ?_, ?_, ?_, ?_, ?_, ?_, ?_, ?_, ?_, ?_, ?_, ?_, ?_, trivial⟩
    · intro wx hw; clear b_a b_b hB; first | exact gn rfl ⟨rfl, hw⟩ | exact gw rfl (g_move _ _ rfl ⟨rfl, hw⟩)
    · intro wx hw; clear b_a b_b hB; first | exact gn rfl ⟨rfl, hw⟩ | exact gw rfl (g_igeq 3 _ _ .i64 _ _ A1 rfl rfl hA1.out ⟨rfl, hw⟩)
    · intro wx hw; clear b_a b_b hB; first | exact gn rfl ⟨rfl, hw⟩ | exact gw rfl (g_move _ _ rfl ⟨rfl, hw⟩)
    · intro wx hw; clear b_a b_b hB; cases A1 <;> first | exact gn rfl ⟨rfl, hw⟩ | exact gw rfl (g_move _ _ rfl ⟨rfl, hw⟩)
    · intro wx hw; clear b_a b_b hB; cases A1 <;> first | exact gn rfl ⟨rfl, hw⟩ | exact gw rfl (g_move _ _ rfl ⟨rfl, hw⟩)
    · intro wx hw; clear b_a b_b hB; cases A1 <;> first | exact gn rfl ⟨rfl, hw⟩ | exact gw rfl (g_igtr 3 _ _ .i64 _ _ A2 rfl rfl hA2.out ⟨rfl, hw⟩)
    · intro wx hw; clear b_a b_b hB; have e_ := hp1.out; subst e_; cases A1 <;> first | exact gn rfl ⟨rfl, hw⟩ | exact gw rfl (g_pickt _ _ _ _ rfl rfl ⟨rfl, hw⟩) | exact gw rfl (g_pickf _ _ _ _ rfl rfl ⟨rfl, hw⟩)
    · intro wx hw; clear b_a b_b hB; first | exact gn rfl ⟨rfl, hw⟩ | exact gw rfl (g_move _ _ rfl ⟨rfl, hw⟩)
    · intro wx hw; clear b_a b_b hB; cases p1 <;> first | exact gn rfl ⟨rfl, hw⟩ | exact gw rfl (g_move _ _ rfl ⟨rfl, hw⟩)
    · intro wx hw; clear b_a b_b hB; cases p1 <;> first | exact gn rfl ⟨rfl, hw⟩ | exact gw rfl (g_igtr 3 _ _ .i64 _ _ A3 rfl rfl hA3.out ⟨rfl, hw⟩)
    · intro wx hw; clear b_a b_b hB; have e_ := hp2.out; subst e_; cases p1 <;> first | exact gn rfl ⟨rfl, hw⟩ | exact gw rfl (g_pickt _ _ _ _ rfl rfl ⟨rfl, hw⟩) | exact gw rfl (g_pickf _ _ _ _ rfl rfl ⟨rfl, hw⟩)
    · intro wx hw; clear b_a b_b hB; first | exact gn rfl ⟨rfl, hw⟩ | exact gw rfl (g_move _ _ rfl ⟨rfl, hw⟩)
    · intro wx hw; clear b_a b_b hB; cases p2 <;> first | exact gn rfl ⟨rfl, hw⟩ | exact gw rfl (g_move _ _ rfl ⟨rfl, hw⟩)
    · intro wx hw; clear b_a b_b hB; cases p2 <;> first | exact gn rfl ⟨rfl, hw⟩ | exact gw rfl (g_move _ _ rfl ⟨rfl, hw⟩)
    · intro wx hw; clear b_a b_b hB; cases p2 <;> first | exact gn rfl ⟨rfl, hw⟩ | exact gw rfl (g_ileq 3 _ _ .i64 _ _ A4 rfl rfl hA4.out ⟨rfl, hw⟩)
    · intro wx hw; clear b_a b_b hB; have e_ := hp3.out; subst e_; cases p2 <;> first | exact gn rfl ⟨rfl, hw⟩ | exact gw rfl (g_pickt _ _ _ _ rfl rfl ⟨rfl, hw⟩) | exact gw rfl (g_pickf _ _ _ _ rfl rfl ⟨rfl, hw⟩)
    · intro wx hw; clear b_a b_b hB; first | exact gn rfl ⟨rfl, hw⟩ | exact gw rfl (g_move _ _ rfl ⟨rfl, hw⟩)
    · intro wx hw; clear b_a b_b hB; cases p3 <;> first | exact gn rfl ⟨rfl, hw⟩ | exact gw rfl (g_move _ _ rfl ⟨rfl, hw⟩)
    · intro wx hw; clear b_a b_b hB; cases p3 <;> first | exact gn rfl ⟨rfl, hw⟩ | exact gw rfl (g_ileq 3 _ _ .i64 _ _ A5 rfl rfl hA5.out ⟨rfl, hw⟩)
    · intro wx hw; clear b_a b_b hB; have e_ := hp4.out; subst e_; cases p3 <;> first | exact gn rfl ⟨rfl, hw⟩ | exact gw rfl (g_pickt _ _ _ _ rfl rfl ⟨rfl, hw⟩) | exact gw rfl (g_pickf _ _ _ _ rfl rfl ⟨rfl, hw⟩)
    · intro wx hw; clear b_a b_b hB; first | exact gn rfl ⟨rfl, hw⟩ | exact gw rfl (g_move _ _ rfl ⟨rfl, hw⟩)
    · intro wx hw; clear b_a b_b hB; cases p4 <;> first | exact gn rfl ⟨rfl, hw⟩ | exact gw rfl (g_move _ _ rfl ⟨rfl, hw⟩)
    · intro wx hw; clear b_a b_b hB; cases p4 <;> first | exact gn rfl ⟨rfl, hw⟩ | exact gw rfl (g_igeq 3 _ _ .i64 _ _ A1 rfl rfl hA1.out ⟨rfl, hw⟩)
    · intro wx hw; clear b_a b_b hB; cases p4 <;> first | exact gn rfl ⟨rfl, hw⟩ | exact gw rfl (g_move _ _ rfl ⟨rfl, hw⟩)
    · intro wx hw; clear b_a b_b hB; have e_ := hq0.out; subst e_; cases p4 <;> cases A1 <;> first | exact gn rfl ⟨rfl, hw⟩ | exact gw rfl (g_move _ _ rfl ⟨rfl, hw⟩)
    · intro wx hw; clear b_a b_b hB; have e_ := hq0.out; subst e_; cases p4 <;> cases A1 <;> first | exact gn rfl ⟨rfl, hw⟩ | exact gw rfl (g_igeq 3 _ _ .i64 _ _ B2 rfl rfl hB2.out ⟨rfl, hw⟩)
    · intro wx hw; clear b_a b_b hB; have e_ := hq0.out; subst e_; have e_ := hq1.out; subst e_; cases p4 <;> cases A1 <;> first | exact gn rfl ⟨rfl, hw⟩ | exact gw rfl (g_pickt _ _ _ _ rfl rfl ⟨rfl, hw⟩) | exact gw rfl (g_pickf _ _ _ _ rfl rfl ⟨rfl, hw⟩)
    · intro wx hw; clear b_a b_b hB; cases p4 <;> first | exact gn rfl ⟨rfl, hw⟩ | exact gw rfl (g_move _ _ rfl ⟨rfl, hw⟩)
    · intro wx hw; clear b_a b_b hB; have e_ := hq2.out; subst e_; cases p4 <;> cases q1 <;> first | exact gn rfl ⟨rfl, hw⟩ | exact gw rfl (g_move _ _ rfl ⟨rfl, hw⟩)
    · intro wx hw; clear b_a b_b hB; have e_ := hq2.out; subst e_; cases p4 <;> cases q1 <;> first | exact gn rfl ⟨rfl, hw⟩ | exact gw rfl (g_move _ _ rfl ⟨rfl, hw⟩)
    · intro wx hw; clear b_a b_b hB; have e_ := hq2.out; subst e_; cases p4 <;> cases q1 <;> first | exact gn rfl ⟨rfl, hw⟩ | exact gw rfl (g_isub 3 _ _ .i64 _ _ e rfl rfl he.out ⟨rfl, hw⟩)
    · intro wx hw; clear b_a b_b hB; have e_ := hq2.out; subst e_; cases p4 <;> cases q1 <;> first | exact gn rfl ⟨rfl, hw⟩ | exact gw rfl (g_igtr 3 _ _ .i64 _ _ B3 rfl rfl hB3.out ⟨rfl, hw⟩)
    · intro wx hw; clear b_a b_b hB; have e_ := hq2.out; subst e_; have e_ := hq3.out; subst e_; cases p4 <;> cases q1 <;> first | exact gn rfl ⟨rfl, hw⟩ | exact gw rfl (g_pickt _ _ _ _ rfl rfl ⟨rfl, hw⟩) | exact gw rfl (g_pickf _ _ _ _ rfl rfl ⟨rfl, hw⟩)
    · intro wx hw; clear b_a b_b hB; have e_ := hr0.out; subst e_; cases p4 <;> first | exact gn rfl ⟨rfl, hw⟩ | exact gw rfl (g_pickt _ _ _ _ rfl rfl ⟨rfl, hw⟩) | exact gw rfl (g_pickf _ _ _ _ rfl rfl ⟨rfl, hw⟩)
    · intro wx hw; clear b_a b_b hB; first | exact gn rfl ⟨rfl, hw⟩ | exact gw rfl (g_move _ _ rfl ⟨rfl, hw⟩)
    · intro wx hw; clear b_a b_b hB; cases r0 <;> first | exact gn rfl ⟨rfl, hw⟩ | exact gw rfl (g_move _ _ rfl ⟨rfl, hw⟩)
    · intro wx hw; clear b_a b_b hB; cases r0 <;> first | exact gn rfl ⟨rfl, hw⟩ | exact gw rfl (g_igeq 3 _ _ .i64 _ _ C1 rfl rfl hC1.out ⟨rfl, hw⟩)
    · intro wx hw; clear b_a b_b hB; cases r0 <;> first | exact gn rfl ⟨rfl, hw⟩ | exact gw rfl (g_move _ _ rfl ⟨rfl, hw⟩)
    · intro wx hw; clear b_a b_b hB; have e_ := hq4.out; subst e_; cases r0 <;> cases C1 <;> first | exact gn rfl ⟨rfl, hw⟩ | exact gw rfl (g_move _ _ rfl ⟨rfl, hw⟩)
    · intro wx hw; clear b_a b_b hB; have e_ := hq4.out; subst e_; cases r0 <;> cases C1 <;> first | exact gn rfl ⟨rfl, hw⟩ | exact gw rfl (g_igeq 3 _ _ .i64 _ _ B2 rfl rfl hB2.out ⟨rfl, hw⟩)
    · intro wx hw; clear b_a b_b hB; have e_ := hq4.out; subst e_; have e_ := hs1.out; subst e_; cases r0 <;> cases C1 <;> first | exact gn rfl ⟨rfl, hw⟩ | exact gw rfl (g_pickt _ _ _ _ rfl rfl ⟨rfl, hw⟩) | exact gw rfl (g_pickf _ _ _ _ rfl rfl ⟨rfl, hw⟩)
    · intro wx hw; clear b_a b_b hB; cases r0 <;> first | exact gn rfl ⟨rfl, hw⟩ | exact gw rfl (g_move _ _ rfl ⟨rfl, hw⟩)
    · intro wx hw; clear b_a b_b hB; have e_ := hs2.out; subst e_; cases r0 <;> cases s1 <;> first | exact gn rfl ⟨rfl, hw⟩ | exact gw rfl (g_move _ _ rfl ⟨rfl, hw⟩)
    · intro wx hw; clear b_a b_b hB; have e_ := hs2.out; subst e_; cases r0 <;> cases s1 <;> first | exact gn rfl ⟨rfl, hw⟩ | exact gw rfl (g_move _ _ rfl ⟨rfl, hw⟩)
    · intro wx hw; clear b_a b_b hB; have e_ := hs2.out; subst e_; cases r0 <;> cases s1 <;> first | exact gn rfl ⟨rfl, hw⟩ | exact gw rfl (g_isub 3 _ _ .i64 _ _ g rfl rfl hg.out ⟨rfl, hw⟩)
    · intro wx hw; clear b_a b_b hB; have e_ := hs2.out; subst e_; cases r0 <;> cases s1 <;> first | exact gn rfl ⟨rfl, hw⟩ | exact gw rfl (g_igtr 3 _ _ .i64 _ _ C3 rfl rfl hC3.out ⟨rfl, hw⟩)
    · intro wx hw; clear b_a b_b hB; have e_ := hs2.out; subst e_; have e_ := hs3.out; subst e_; cases r0 <;> cases s1 <;> first | exact gn rfl ⟨rfl, hw⟩ | exact gw rfl (g_pickt _ _ _ _ rfl rfl ⟨rfl, hw⟩) | exact gw rfl (g_pickf _ _ _ _ rfl rfl ⟨rfl, hw⟩)
    · intro wx hw; clear b_a b_b hB; have hz_ := hz.out; cases r0 <;> cases s3 <;> simp at hz_ <;> first | exact gn rfl ⟨rfl, hw⟩ | exact gw rfl (g_pickt _ _ _ _ rfl rfl ⟨rfl, hw⟩) | exact gw rfl (g_pickf _ _ _ _ rfl rfl ⟨rfl, hw⟩)
  · simp only [fullL, Act.put, List.setIfInBounds_toArray, List.set_cons_succ, List.set_cons_zero]
    intro w_ hw_; rw [hw_]; clear hw_ w_
    generalize pv (A1) (.int .i64 i) = u29
    generalize pv (A1) (.int .i64 p) = u30
    generalize pv (A1) (.bool A2) = u31
    generalize pv (p1) (.int .i64 d) = u34
    generalize pv (p1) (.bool A3) = u35
    generalize pv (p2) (.int .i64 d) = u38
    generalize pv (p2) (.int .i64 f) = u39
    generalize pv (p2) (.bool A4) = u40
    generalize pv (p3) (.int .i64 d) = u43
    generalize pv (p3) (.bool A5) = u44
    generalize pv (!p4) (.int .i64 p) = u47
    generalize pv (!p4) (.bool A1) = u48
    generalize pv (!p4) (.bool A1) = u49
    generalize pv (q0) (.int .i64 a) = u50
    generalize pv (q0) (.bool B2) = u51
    generalize pv (!p4) (.bool q1) = u52
    generalize pv (!p4) (.bool q1) = u53
    generalize pv (q2) (.int .i64 p) = u54
    generalize pv (q2) (.int .i64 a) = u55
    generalize pv (q2) (.int .i64 e) = u56
    generalize pv (q2) (.bool B3) = u57
    generalize pv (!p4) (.bool q3) = u58
    generalize pv (!r0) (.int .i64 i) = u61
    generalize pv (!r0) (.bool C1) = u62
    generalize pv (!r0) (.bool C1) = u63
    generalize pv (q4) (.int .i64 a) = u64
    generalize pv (q4) (.bool B2) = u65
    generalize pv (!r0) (.bool s1) = u66
    generalize pv (!r0) (.bool s1) = u67
    generalize pv (s2) (.int .i64 i) = u68
    generalize pv (s2) (.int .i64 a) = u69
    generalize pv (s2) (.int .i64 g) = u70
    generalize pv (s2) (.bool C3) = u71
    generalize pv (!r0) (.bool s3) = u72
    go_wp2_with (first
      | ((with_reducible refine at_loadD 74 23 ?_); refine L_give (by rfl) (g_load_all 23 _ (w.heap.size) (kc (k0)) 23 _ rfl (b_a) Tryd.underlying23 rfl (szK _) ?_); (try simp only [Act.put, List.setIfInBounds_toArray, List.set_cons_zero, List.set_cons_succ]))
      | ((with_reducible refine at_loadD 76 23 ?_); refine L_give (by rfl) (g_load_all 23 _ (w1.heap.size) (kc (k)) 23 _ rfl (b_b) Tryd.underlying23 rfl (szK _) ?_); (try simp only [Act.put, List.setIfInBounds_toArray, List.set_cons_zero, List.set_cons_succ]))
      | ((with_reducible refine at_callD 79 ?_); refine L_give (by rfl) (g_call 16 _ _ [.agg (kc (k0)).toArray, .int .i64 (p), .agg (kc (k)).toArray, .int .i64 (i), .int .i64 (f)] (kf16 _ _) rfl ((check_any k0 p k i f w3 (hT.on hB) E hi hE).mono ?_)); rintro e w4 ⟨rfl, t_⟩; refine ⟨_, rfl, ?_⟩; replace b_a := b_a.below t_ b_a.lt; replace b_b := b_b.below t_ b_b.lt; replace hB := hB.trans (t_.mono hB.size); clear t_; (try simp only [Act.put, List.setIfInBounds_toArray, List.set_cons_zero, List.set_cons_succ]))
      | ((with_reducible refine at_loadD 81 23 ?_); refine L_give (by rfl) (g_load_all 23 _ (w.heap.size) (kc (k0)) 23 _ rfl (b_a) Tryd.underlying23 rfl (szK _) ?_); (try simp only [Act.put, List.setIfInBounds_toArray, List.set_cons_zero, List.set_cons_succ]))
      | ((with_reducible refine at_bld 83 ?_); refine L_give (by rfl) (g_bldM _ _ (k0) (p) rfl rfl ?_); (try simp only [Act.put, List.setIfInBounds_toArray, List.set_cons_zero, List.set_cons_succ]))
      | ((with_reducible refine at_loadD 84 23 ?_); refine L_give (by rfl) (g_load_all 23 _ (w1.heap.size) (kc (k)) 23 _ rfl (b_b) Tryd.underlying23 rfl (szK _) ?_); (try simp only [Act.put, List.setIfInBounds_toArray, List.set_cons_zero, List.set_cons_succ]))
      | ((with_reducible refine at_callD 87 ?_); refine L_give (by rfl) (g_call 17 _ _ [.agg (mc (k0) (p)).toArray, .agg (kc (k)).toArray, .int .i64 (i), .int .i64 (f)] (kf17 _ _) rfl ((learn_any k0 p k i f w4 (hT.on hB) zk 0 E hi hM).mono ?_)); rintro e w5 ⟨rfl, t_⟩; refine ⟨_, rfl, ?_⟩; replace b_a := b_a.below t_ b_a.lt; replace b_b := b_b.below t_ b_b.lt; replace hB := hB.trans (t_.mono hB.size); clear t_; (try simp only [Act.put, List.setIfInBounds_toArray, List.set_cons_zero, List.set_cons_succ]))
      | ((with_reducible refine at_allocD 15 34 ?_); refine L_alloc 34 (mc (zk) (0)) zeroM ?_; intro w6 t_ b_m; have o_a_m := b_a.lt; have o_b_m := b_b.lt; have l_hB_m : _ ≤ w5.heap.size := hB.size; replace b_a := t_.blk b_a (Nat.ne_of_lt b_a.lt); replace b_b := t_.blk b_b (Nat.ne_of_lt b_b.lt); replace hB := t_.below hB l_hB_m; clear t_; (try simp only [Act.put, List.setIfInBounds_toArray, List.set_cons_zero, List.set_cons_succ]))
      | ((with_reducible refine at_storeX 15 34 ?_); refine L_store_all 34 _ _ (w5.heap.size) (mc (zk) (0)) _ 34 rfl rfl b_m (szM _ _) (mm_len _ _ _ _) (one_mc _ _) ?_; clear b_m; intro w7 t_ b_m; replace b_a := t_.blk b_a (Nat.ne_of_lt o_a_m); replace b_b := t_.blk b_b (Nat.ne_of_lt o_b_m); replace hB := t_.below hB l_hB_m; clear t_)
      | ((with_reducible refine at_loadD 91 23 ?_); refine L_give (by rfl) (g_load_all 23 _ (w.heap.size) (kc (k0)) 23 _ rfl (b_a) Tryd.underlying23 rfl (szK _) ?_); (try simp only [Act.put, List.setIfInBounds_toArray, List.set_cons_zero, List.set_cons_succ]))
      | ((with_reducible refine at_bld 93 ?_); refine L_give (by rfl) (g_bldM _ _ (k0) (p) rfl rfl ?_); (try simp only [Act.put, List.setIfInBounds_toArray, List.set_cons_zero, List.set_cons_succ]))
      | ((with_reducible refine at_callD 95 ?_); refine L_give (by rfl) (g_call 18 _ _ [.agg (mc (k0) (p)).toArray, .int .i64 (a)] (kf18 _ _) rfl ((tell_any k0 p a w7 (hT.on hB) A Q hp hA).mono ?_)); rintro e w8 ⟨rfl, t_⟩; refine ⟨_, rfl, ?_⟩; replace b_a := b_a.below t_ b_a.lt; replace b_b := b_b.below t_ b_b.lt; replace b_m := b_m.below t_ b_m.lt; replace hB := hB.trans (t_.mono hB.size); clear t_; (try simp only [Act.put, List.setIfInBounds_toArray, List.set_cons_zero, List.set_cons_succ]))
      | ((with_reducible refine at_allocD 17 23 ?_); refine L_alloc 23 (kc (zk)) zeroK ?_; intro w9 t_ b_t; have o_a_t := b_a.lt; have o_b_t := b_b.lt; have o_m_t := b_m.lt; have l_hB_t : _ ≤ w8.heap.size := hB.size; replace b_a := t_.blk b_a (Nat.ne_of_lt b_a.lt); replace b_b := t_.blk b_b (Nat.ne_of_lt b_b.lt); replace b_m := t_.blk b_m (Nat.ne_of_lt b_m.lt); replace hB := t_.below hB l_hB_t; clear t_; (try simp only [Act.put, List.setIfInBounds_toArray, List.set_cons_zero, List.set_cons_succ]))
      | ((with_reducible refine at_storeX 17 23 ?_); refine L_store_all 23 _ _ (w8.heap.size) (kc (A)) _ 23 rfl rfl b_t (szK _) (kk_len _ _) (one_kc _) ?_; clear b_t; intro w10 t_ b_t; replace b_a := t_.blk b_a (Nat.ne_of_lt o_a_t); replace b_b := t_.blk b_b (Nat.ne_of_lt o_b_t); replace b_m := t_.blk b_m (Nat.ne_of_lt o_m_t); replace hB := t_.below hB l_hB_t; clear t_)
      | ((with_reducible refine at_loadD 99 23 ?_); refine L_give (by rfl) (g_load_all 23 _ (w.heap.size) (kc (k0)) 23 _ rfl (b_a) Tryd.underlying23 rfl (szK _) ?_); (try simp only [Act.put, List.setIfInBounds_toArray, List.set_cons_zero, List.set_cons_succ]))
      | ((with_reducible refine at_callD 102 ?_); refine L_give (by rfl) (g_call 19 _ _ [.agg (kc (k0)).toArray, .int .i64 (p), .int .i64 (a)] (kf19 _ _) rfl ((rtell_any k0 p a w10 A Q hp hA).mono ?_)); rintro e w11 ⟨rfl, t_⟩; refine ⟨_, rfl, ?_⟩; replace b_a := b_a.below t_ b_a.lt; replace b_b := b_b.below t_ b_b.lt; replace b_m := b_m.below t_ b_m.lt; replace b_t := b_t.below t_ b_t.lt; replace hB := hB.trans (t_.mono hB.size); clear t_; (try simp only [Act.put, List.setIfInBounds_toArray, List.set_cons_zero, List.set_cons_succ]))
      | ((with_reducible refine at_allocD 19 23 ?_); refine L_alloc 23 (kc (zk)) zeroK ?_; intro w12 t_ b_u; have o_a_u := b_a.lt; have o_b_u := b_b.lt; have o_m_u := b_m.lt; have o_t_u := b_t.lt; have l_hB_u : _ ≤ w11.heap.size := hB.size; replace b_a := t_.blk b_a (Nat.ne_of_lt b_a.lt); replace b_b := t_.blk b_b (Nat.ne_of_lt b_b.lt); replace b_m := t_.blk b_m (Nat.ne_of_lt b_m.lt); replace b_t := t_.blk b_t (Nat.ne_of_lt b_t.lt); replace hB := t_.below hB l_hB_u; clear t_; (try simp only [Act.put, List.setIfInBounds_toArray, List.set_cons_zero, List.set_cons_succ]))
      | ((with_reducible refine at_storeX 19 23 ?_); refine L_store_all 23 _ _ (w11.heap.size) (kc (A)) _ 23 rfl rfl b_u (szK _) (kk_len _ _) (one_kc _) ?_; clear b_u; intro w13 t_ b_u; replace b_a := t_.blk b_a (Nat.ne_of_lt o_a_u); replace b_b := t_.blk b_b (Nat.ne_of_lt o_b_u); replace b_m := t_.blk b_m (Nat.ne_of_lt o_m_u); replace b_t := t_.blk b_t (Nat.ne_of_lt o_t_u); replace hB := t_.below hB l_hB_u; clear t_)
      | ((with_reducible refine at_loadD 106 23 ?_); refine L_give (by rfl) (g_load_all 23 _ (w.heap.size) (kc (k0)) 23 _ rfl (b_a) Tryd.underlying23 rfl (szK _) ?_); (try simp only [Act.put, List.setIfInBounds_toArray, List.set_cons_zero, List.set_cons_succ]))
      | ((with_reducible refine at_loadD 108 23 ?_); refine L_give (by rfl) (g_load_all 23 _ (w1.heap.size) (kc (k)) 23 _ rfl (b_b) Tryd.underlying23 rfl (szK _) ?_); (try simp only [Act.put, List.setIfInBounds_toArray, List.set_cons_zero, List.set_cons_succ]))
      | ((with_reducible refine at_callD 111 ?_); refine L_give (by rfl) (g_call 20 _ _ [.agg (kc (k0)).toArray, .int .i64 (p), .agg (kc (k)).toArray, .int .i64 (i), .int .i64 (f)] (kf20 _ _) rfl ((rcheck_any k0 p k i f w13 E hi hE).mono ?_)); rintro e w14 ⟨rfl, t_⟩; refine ⟨_, rfl, ?_⟩; replace b_a := b_a.below t_ b_a.lt; replace b_b := b_b.below t_ b_b.lt; replace b_m := b_m.below t_ b_m.lt; replace b_t := b_t.below t_ b_t.lt; replace b_u := b_u.below t_ b_u.lt; replace hB := hB.trans (t_.mono hB.size); clear t_; (try simp only [Act.put, List.setIfInBounds_toArray, List.set_cons_zero, List.set_cons_succ]))
      | ((with_reducible refine at_binD 112 ?_); refine L_give (by rfl) (g_ine 25 _ _ .i64 _ _ false rfl rfl (decide_eq_false (fun h => h rfl)) ?_); (try simp only [Act.put, List.setIfInBounds_toArray, List.set_cons_zero, List.set_cons_succ]))
      | ((with_reducible refine at_binD 116 ?_); refine L_give (by rfl) (g_ine 25 _ _ .i64 _ _ false rfl rfl (decide_eq_false (fun h => h rfl)) ?_); (try simp only [Act.put, List.setIfInBounds_toArray, List.set_cons_zero, List.set_cons_succ]))
      | ((with_reducible refine at_loadD 119 23 ?_); refine L_give (by rfl) (g_load_all 23 _ (w8.heap.size) (kc (A)) 23 _ rfl (b_t) Tryd.underlying23 rfl (szK _) ?_); (try simp only [Act.put, List.setIfInBounds_toArray, List.set_cons_zero, List.set_cons_succ]))
      | ((with_reducible refine at_loadD 120 23 ?_); refine L_give (by rfl) (g_load_all 23 _ (w11.heap.size) (kc (A)) 23 _ rfl (b_u) Tryd.underlying23 rfl (szK _) ?_); (try simp only [Act.put, List.setIfInBounds_toArray, List.set_cons_zero, List.set_cons_succ]))
      | ((with_reducible refine at_binD 121 ?_); refine L_give (by rfl) (g_nK _ _ (A) (A) true false rfl rfl (decide_eq_true rfl) rfl ?_); (try simp only [Act.put, List.setIfInBounds_toArray, List.set_cons_zero, List.set_cons_succ]))
      | ((with_reducible refine at_binD 126 ?_); refine L_give (by rfl) (g_ine 25 _ _ .i64 _ _ false rfl rfl (decide_eq_false (fun h => h rfl)) ?_); (try simp only [Act.put, List.setIfInBounds_toArray, List.set_cons_zero, List.set_cons_succ]))
      | ((with_reducible refine at_binD 129 ?_); refine L_give (by rfl) (g_ieq 25 _ _ .i64 _ _ false rfl rfl (decide_eq_false hE0) ?_); (try simp only [Act.put, List.setIfInBounds_toArray, List.set_cons_zero, List.set_cons_succ]))
      | ((with_reducible refine at_binD 139 ?_); refine L_give (by rfl) (g_ine 25 _ _ .i64 _ _ true rfl rfl (decide_eq_true hE0) ?_); (try simp only [Act.put, List.setIfInBounds_toArray, List.set_cons_zero, List.set_cons_succ]))
      | ((with_reducible refine at_loadD 141 34 ?_); refine L_give (by rfl) (g_load_all 34 _ (w5.heap.size) (mc (zk) (0)) 34 _ rfl (b_m) Tryd.underlying34 rfl (szM _ _) ?_); (try simp only [Act.put, List.setIfInBounds_toArray, List.set_cons_zero, List.set_cons_succ]))
      | ((with_reducible refine at_bld 142 ?_); refine L_give (by rfl) (g_bldM0 ?_); (try simp only [Act.put, List.setIfInBounds_toArray, List.set_cons_zero, List.set_cons_succ]))
      | ((with_reducible refine at_binD 143 ?_); refine L_give (by rfl) (g_eqlM _ _ (zk) (zk) (0) (0) true rfl rfl (decide_eq_true ⟨rfl, rfl⟩) ?_); (try simp only [Act.put, List.setIfInBounds_toArray, List.set_cons_zero, List.set_cons_succ])))
    go_ret
    exact ⟨rfl, hB⟩
theorem walk (l0 : List UInt8) (h0 : l0.length = 32) (p : Int) (hp : (Lit.int .i64 p).wf = true) (l1 : List UInt8) (h1 : l1.length = 32) (i : Int) (hi : (Lit.int .i64 i).wf = true) (f : Int) (hf : (Lit.int .i64 f).wf = true) (a : Int) (ha : (Lit.int .i64 a).wf = true) (w : World) (hT : Tabs w) :
    Calls Tryd.prog 4 #[.agg (bc l0).toArray, .int .i64 p, .agg (bc l1).toArray, .int .i64 i, .int .i64 f, .int .i64 a] w fun e w' => e = .returned (.bool true) ∧ Below w.heap.size w w' := by
  have bi := (in_i64 hi).2
  have bp := (in_i64 hp).2
  obtain ⟨K0, hK0⟩ : ∃ K : Ky, K.l = l0 := ⟨⟨l0, h0⟩, rfl⟩
  obtain ⟨K, hK⟩ : ∃ K : Ky, K.l = l1 := ⟨⟨l1, h1⟩, rfl⟩
  subst hK0 hK
  obtain ⟨d, hd⟩ : ∃ d, IntKind.i64.wrap (i - p) = d := ⟨_, rfl⟩
  obtain ⟨e, he⟩ : ∃ d, IntKind.i64.wrap (p - a) = d := ⟨_, rfl⟩
  obtain ⟨g, hg⟩ : ∃ d, IntKind.i64.wrap (i - a) = d := ⟨_, rfl⟩
  obtain ⟨A1, hA1⟩ : ∃ b, (decide (0 ≤ p)) = b := ⟨_, rfl⟩
  obtain ⟨A2, hA2⟩ : ∃ b, (decide (p < i)) = b := ⟨_, rfl⟩
  obtain ⟨A3, hA3⟩ : ∃ b, (decide (40 < d)) = b := ⟨_, rfl⟩
  obtain ⟨A4, hA4⟩ : ∃ b, (decide (d ≤ f)) = b := ⟨_, rfl⟩
  obtain ⟨A5, hA5⟩ : ∃ b, (decide (d ≤ 1024)) = b := ⟨_, rfl⟩
  obtain ⟨B2, hB2⟩ : ∃ b, (decide (0 ≤ a)) = b := ⟨_, rfl⟩
  obtain ⟨B3, hB3⟩ : ∃ b, (decide (40 < e)) = b := ⟨_, rfl⟩
  obtain ⟨C1, hC1⟩ : ∃ b, (decide (0 ≤ i)) = b := ⟨_, rfl⟩
  obtain ⟨C3, hC3⟩ : ∃ b, (decide (40 < g)) = b := ⟨_, rfl⟩
  obtain ⟨p1, hp1⟩ : ∃ b, ((A1 && A2)) = b := ⟨_, rfl⟩
  obtain ⟨p2, hp2⟩ : ∃ b, ((p1 && A3)) = b := ⟨_, rfl⟩
  obtain ⟨p3, hp3⟩ : ∃ b, ((p2 && A4)) = b := ⟨_, rfl⟩
  obtain ⟨p4, hp4⟩ : ∃ b, ((p3 && A5)) = b := ⟨_, rfl⟩
  obtain ⟨q0, hq0⟩ : ∃ b, ((!p4 && A1)) = b := ⟨_, rfl⟩
  obtain ⟨q1, hq1⟩ : ∃ b, ((A1 && B2)) = b := ⟨_, rfl⟩
  obtain ⟨q2, hq2⟩ : ∃ b, ((!p4 && q1)) = b := ⟨_, rfl⟩
  obtain ⟨q3, hq3⟩ : ∃ b, ((q1 && B3)) = b := ⟨_, rfl⟩
  obtain ⟨r0, hr0⟩ : ∃ b, ((p4 || q3)) = b := ⟨_, rfl⟩
  obtain ⟨q4, hq4⟩ : ∃ b, ((!r0 && C1)) = b := ⟨_, rfl⟩
  obtain ⟨s1, hs1⟩ : ∃ b, ((C1 && B2)) = b := ⟨_, rfl⟩
  obtain ⟨s2, hs2⟩ : ∃ b, ((!r0 && s1)) = b := ⟨_, rfl⟩
  obtain ⟨s3, hs3⟩ : ∃ b, ((s1 && C3)) = b := ⟨_, rfl⟩
  cases hz : (r0 || s3) with
  | true => exact walk_t K0 p K i f a w hT d e g ⟨hd⟩ ⟨he⟩ ⟨hg⟩ A1 A2 A3 A4 A5 B2 B3 C1 C3 p1 p2 p3 p4 q0 q1 q2 q3 q4 r0 s1 s2 s3 ⟨hA1⟩ ⟨hA2⟩ ⟨hA3⟩ ⟨hA4⟩ ⟨hA5⟩ ⟨hB2⟩ ⟨hB3⟩ ⟨hC1⟩ ⟨hC3⟩ ⟨hp1⟩ ⟨hp2⟩ ⟨hp3⟩ ⟨hp4⟩ ⟨hq0⟩ ⟨hq1⟩ ⟨hq2⟩ ⟨hq3⟩ ⟨hr0⟩ ⟨hq4⟩ ⟨hs1⟩ ⟨hs2⟩ ⟨hs3⟩ ⟨hz⟩
  | false =>
    obtain ⟨A, Q, hA⟩ : ∃ A Q, tl K0 p a = (A, Q) := ⟨_, _, rfl⟩
    obtain ⟨E, hE⟩ : ∃ E, ck K0 p K i f = E := ⟨_, rfl⟩
    by_cases hE0 : E = 0
    · subst hE0
      exact walk_0 K0 p K i f a w hT d e g ⟨hd⟩ ⟨he⟩ ⟨hg⟩ A1 A2 A3 A4 A5 B2 B3 C1 C3 p1 p2 p3 p4 q0 q1 q2 q3 q4 r0 s1 s2 s3 ⟨hA1⟩ ⟨hA2⟩ ⟨hA3⟩ ⟨hA4⟩ ⟨hA5⟩ ⟨hB2⟩ ⟨hB3⟩ ⟨hC1⟩ ⟨hC3⟩ ⟨hp1⟩ ⟨hp2⟩ ⟨hp3⟩ ⟨hp4⟩ ⟨hq0⟩ ⟨hq1⟩ ⟨hq2⟩ ⟨hq3⟩ ⟨hr0⟩ ⟨hq4⟩ ⟨hs1⟩ ⟨hs2⟩ ⟨hs3⟩ ⟨hz⟩ bi bp A Q ⟨hA⟩ ⟨hE⟩ ⟨by unfold ln; rw [if_pos hE]⟩
    · exact walk_1 K0 p K i f a w hT d e g ⟨hd⟩ ⟨he⟩ ⟨hg⟩ A1 A2 A3 A4 A5 B2 B3 C1 C3 p1 p2 p3 p4 q0 q1 q2 q3 q4 r0 s1 s2 s3 ⟨hA1⟩ ⟨hA2⟩ ⟨hA3⟩ ⟨hA4⟩ ⟨hA5⟩ ⟨hB2⟩ ⟨hB3⟩ ⟨hC1⟩ ⟨hC3⟩ ⟨hp1⟩ ⟨hp2⟩ ⟨hp3⟩ ⟨hp4⟩ ⟨hq0⟩ ⟨hq1⟩ ⟨hq2⟩ ⟨hq3⟩ ⟨hr0⟩ ⟨hq4⟩ ⟨hs1⟩ ⟨hs2⟩ ⟨hs3⟩ ⟨hz⟩ bi bp A Q ⟨hA⟩ E hE0 ⟨hE⟩ ⟨by unfold ln; rw [if_neg (by rw [hE]; exact hE0), hE]⟩
end Go.Proofs.YtcenaklbfdhimaaDoor.chainChecks
