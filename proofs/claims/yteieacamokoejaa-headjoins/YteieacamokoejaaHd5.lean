/- What the program's cutField answers: the extension with which bytes begin, and those behind it. -/
import Derived.Test.YteieacamokoejaaHd4
namespace Go.Proofs.Yteieacamokoejaa
open Go Go.RowKit
set_option linter.unusedVariables false

theorem results_blk_tmp {P : Program} {fn : Func} {p u : Tmp} {t : TypeId} (hf : fn.results = #[.cell p t, .tmp u]) {a : Act} {w : World} (b : Nat) (cs : List Value) (v : Value) (d : TypeDesc) (hp : a.tmps.getD p undef = .pointer (some ⟨b, 0, none⟩)) (hv : a.tmps.getD u undef = v) (hb : Blk w b cs t)
    (hu : P.underlying t = some d) (hd : d.isRow = true) (hi : (P.info? t).map (·.size) = some cs.length) : (results fn a.tmps).run P w = .ok (.tuple #[.agg cs.toArray, v]) w := by
  have h := run_loadVar_mid (P := P) w b 0 t cs d (by simpa using hb.range 0 cs.length) hu hd hi
  have hp' : a.tmps[p]?.getD undef = .pointer (some ⟨b, 0, none⟩) := by simpa using hp
  have hv' : a.tmps[u]?.getD undef = v := by simpa using hv
  simp [results, hf, asAddr, hp', h, hv']
theorem results_blk_tmp2 {P : Program} {fn : Func} {p u x : Tmp} {t : TypeId} (hf : fn.results = #[.cell p t, .tmp u, .tmp x]) {a : Act} {w : World} (b : Nat) (cs : List Value) (v y : Value) (d : TypeDesc) (hp : a.tmps.getD p undef = .pointer (some ⟨b, 0, none⟩)) (hv : a.tmps.getD u undef = v) (hx : a.tmps.getD x undef = y) (hb : Blk w b cs t)
    (hu : P.underlying t = some d) (hd : d.isRow = true) (hi : (P.info? t).map (·.size) = some cs.length) : (results fn a.tmps).run P w = .ok (.tuple #[.agg cs.toArray, v, y]) w := by
  have h := run_loadVar_mid (P := P) w b 0 t cs d (by simpa using hb.range 0 cs.length) hu hd hi
  have hp' : a.tmps[p]?.getD undef = .pointer (some ⟨b, 0, none⟩) := by simpa using hp
  have hv' : a.tmps[u]?.getD undef = v := by simpa using hv
  have hx' : a.tmps[x]?.getD undef = y := by simpa using hx
  simp [results, hf, asAddr, hp', h, hv', hx']
set_option maxRecDepth 10000 in
set_option maxHeartbeats 4000000 in
theorem cut_0 (s : ByteArray) (w : World) (hs2 : s.size ≤ 140737488355328) (c0 : (s.size : Int) < 4) : Calls Try.prog 41 #[.string s] w fun e w' => e = .returned (.tuple #[.agg (fc fz).toArray, .string ⟨#[]⟩, .bool false]) ∧ Below w.heap.size w w' := by
  go_enter Try.func41, Try.ntmps41
  go_wp2_with (first
    | ((with_reducible refine at_allocD 2 48 ?_); refine L_alloc 48 (fc (fz)) zeroF ?_; intro w1 t_ b_r; have l_hB_r : w.heap.size ≤ w.heap.size := Nat.le_refl _; have hB : Below w.heap.size w w1 := t_.below (Below.refl _ _) (Nat.le_refl _); clear t_)
    | ((with_reducible refine at_callD 10 ?_); refine L_give (by rfl) (g_slen _ _ _ rfl rfl ?_))
    | ((with_reducible refine at_binD 11 ?_); refine L_give (by rfl) (g_ilss 3 _ _ .i64 _ _ true rfl rfl (decide_eq_true c0) ?_))
    | ((with_reducible refine at_bld 12 ?_); refine L_give (by rfl) (g_bldF0 ?_))
    | ((with_reducible refine at_storeX 2 48 ?_); refine L_store_all 48 _ _ (w.heap.size) (fc (fz)) _ 48 rfl rfl b_r (szF fz) rfl (one_fc _) ?_; clear b_r; intro w2 t_ b_r; replace hB := t_.below hB l_hB_r; clear t_))
  exact bodyPost_ret (results_blk_tmp2 rfl _ (fc fz) (.string ⟨#[]⟩) (.bool false) _ rfl rfl rfl b_r Try.underlying48 rfl (szF fz)) rfl ⟨rfl, hB⟩
set_option maxRecDepth 10000 in
set_option maxHeartbeats 4000000 in
theorem cut_1 (s : ByteArray) (w : World) (hs2 : s.size ≤ 140737488355328) (n k : Nat) (d : ByteArray) (hs4 : 4 ≤ s.size) (c0 : ¬ (s.size : Int) < 4) (e1 : Hid (IntKind.i64.wrap (n : Int) = (n : Int))) (e2 : Hid (IntKind.i64.wrap (k : Int) = (k : Int))) (e4 : Hid (((nm s.data.toList 2 2 : Nat) : Int) = (n : Int))) (e5 : Hid (((nm s.data.toList 0 2 : Nat) : Int) = (k : Int))) (e6 : Hid (decide (4 ≤ (n : Int) ∧ (n : Int) ≤ (s.size : Int)) = false)) : Calls Try.prog 41 #[.string s] w fun e w' => e = .returned (.tuple #[.agg (fc fz).toArray, .string ⟨#[]⟩, .bool false]) ∧ Below w.heap.size w w' := by
  go_enter Try.func41, Try.ntmps41
  go_wp2_with (first
    | ((with_reducible refine at_allocD 2 48 ?_); refine L_alloc 48 (fc (fz)) zeroF ?_; intro w1 t_ b_r; have l_hB_r : w.heap.size ≤ w.heap.size := Nat.le_refl _; have hB : Below w.heap.size w w1 := t_.below (Below.refl _ _) (Nat.le_refl _); clear t_)
    | ((with_reducible refine at_callD 10 ?_); refine L_give (by rfl) (g_slen _ _ _ rfl rfl ?_))
    | ((with_reducible refine at_binD 11 ?_); refine L_give (by rfl) (g_ilss 3 _ _ .i64 _ _ false rfl rfl (decide_eq_false c0) ?_))
    | ((with_reducible refine at_callD 14 ?_); refine L_give (by rfl) (g_call 31 _ _ [.string (s), .int .i64 (2), .int .i64 (2)] (kf31 _ _) rfl ((number_any s 2 2 n w1 (by omega) hs2 (by omega) e4).mono ?_)); rintro e w_ ⟨rfl, hW⟩; rw [hW]; clear hW w_; refine ⟨_, rfl, ?_⟩)
    | ((with_reducible refine at_cnv 15 ?_); refine L_give (by rfl) (g_cv_23_3 _ _ (n : Int) rfl e1.out ?_))
    | ((with_reducible refine at_callD 18 ?_); refine L_give (by rfl) (g_slen _ _ _ rfl rfl ?_))
    | ((with_reducible refine at_callD 19 ?_); refine L_give (by rfl) (g_call 34 _ _ [.int .i64 (n), .int .i64 (4), .int .i64 (s.size)] (kf34 _ _) rfl ((within_any _ _ _ false w1 e6).mono ?_)); rintro e w_ ⟨rfl, hW⟩; rw [hW]; clear hW w_; refine ⟨_, rfl, ?_⟩)
    | ((with_reducible refine at_bld 21 ?_); refine L_give (by rfl) (g_bldF0 ?_))
    | ((with_reducible refine at_storeX 2 48 ?_); refine L_store_all 48 _ _ (w.heap.size) (fc (fz)) _ 48 rfl rfl b_r (szF fz) rfl (one_fc _) ?_; clear b_r; intro w2 t_ b_r; replace hB := t_.below hB l_hB_r; clear t_))
  exact bodyPost_ret (results_blk_tmp2 rfl _ (fc fz) (.string ⟨#[]⟩) (.bool false) _ rfl rfl rfl b_r Try.underlying48 rfl (szF fz)) rfl ⟨rfl, hB⟩
set_option maxRecDepth 10000 in
set_option maxHeartbeats 4000000 in
theorem cut_2 (s : ByteArray) (w : World) (hs2 : s.size ≤ 140737488355328) (n k : Nat) (d : ByteArray) (hs4 : 4 ≤ s.size) (c0 : ¬ (s.size : Int) < 4) (e1 : Hid (IntKind.i64.wrap (n : Int) = (n : Int))) (e2 : Hid (IntKind.i64.wrap (k : Int) = (k : Int))) (e4 : Hid (((nm s.data.toList 2 2 : Nat) : Int) = (n : Int))) (e5 : Hid (((nm s.data.toList 0 2 : Nat) : Int) = (k : Int))) (c1 : 4 ≤ n ∧ n ≤ s.size) (e3 : Hid (s.extract 4 n = d)) (e6 : Hid (decide (4 ≤ (n : Int) ∧ (n : Int) ≤ (s.size : Int)) = true)) (e7 : Hid (fmay ((k : Int), d) = false)) : Calls Try.prog 41 #[.string s] w fun e w' => e = .returned (.tuple #[.agg (fc fz).toArray, .string ⟨#[]⟩, .bool false]) ∧ Below w.heap.size w w' := by
  go_enter Try.func41, Try.ntmps41
  go_wp2_with (first
    | ((with_reducible refine at_allocD 2 48 ?_); refine L_alloc 48 (fc (fz)) zeroF ?_; intro w1 t_ b_r; have l_hB_r : w.heap.size ≤ w.heap.size := Nat.le_refl _; have hB : Below w.heap.size w w1 := t_.below (Below.refl _ _) (Nat.le_refl _); clear t_)
    | ((with_reducible refine at_callD 10 ?_); refine L_give (by rfl) (g_slen _ _ _ rfl rfl ?_))
    | ((with_reducible refine at_binD 11 ?_); refine L_give (by rfl) (g_ilss 3 _ _ .i64 _ _ false rfl rfl (decide_eq_false c0) ?_))
    | ((with_reducible refine at_callD 14 ?_); refine L_give (by rfl) (g_call 31 _ _ [.string (s), .int .i64 (2), .int .i64 (2)] (kf31 _ _) rfl ((number_any s 2 2 n w1 (by omega) hs2 (by omega) e4).mono ?_)); rintro e w_ ⟨rfl, hW⟩; rw [hW]; clear hW w_; refine ⟨_, rfl, ?_⟩)
    | ((with_reducible refine at_cnv 15 ?_); refine L_give (by rfl) (g_cv_23_3 _ _ (n : Int) rfl e1.out ?_))
    | ((with_reducible refine at_callD 18 ?_); refine L_give (by rfl) (g_slen _ _ _ rfl rfl ?_))
    | ((with_reducible refine at_callD 19 ?_); refine L_give (by rfl) (g_call 34 _ _ [.int .i64 (n), .int .i64 (4), .int .i64 (s.size)] (kf34 _ _) rfl ((within_any _ _ _ true w1 e6).mono ?_)); rintro e w_ ⟨rfl, hW⟩; rw [hW]; clear hW w_; refine ⟨_, rfl, ?_⟩)
    | (refine stop_region 6 ?_; intro X hX))
  refine hX.out ?_
  clear hX X
  refine wp_region_new (by kernel_rfl) (by kernel_rfl) 7 8 48 (fc (fz)) (fc (((k : Int), d))) (fun p_ => [.string (s), .int .u64 (k), .int .i64 (k), .string (s), .int .i64 (n), .string (d), .agg (fc (((k : Int), d))).toArray, p_, undef]) (fun _ => by rfl) (by decide) (by decide) (by decide) ?_ (fun _ => by rfl) ?_ ?_ ?_ ?_ ?_
  · intro o ho; obtain rfl := Option.some.inj ho; exact ⟨⟨7, .data⟩, by simp, rfl, rfl⟩
  · intro p q i hi; rcases i with _ | _ | _ | _ | _ | _ | _ | _ | _ | i <;> first | rfl | exact absurd rfl hi
  · intro o ho a w'; obtain rfl := Option.some.inj ho; exact gw rfl (g_alloc 48 _ zeroF (fun w' h1 h2 => ⟨rfl, h1, h2⟩))
  · intro o ho p w' hb; obtain rfl := Option.some.inj ho; simp only [fullL, Act.put, List.setIfInBounds_toArray, List.set_cons_succ, List.set_cons_zero]; exact gw rfl (g_store_all 48 _ _ p (fc (((k : Int), d))) _ 48 rfl rfl hb (szF fz) rfl (one_fc _) (fun w' h1 h2 => ⟨rfl, h1, h2⟩))
  · simp only [fullL, Act.put, List.setIfInBounds_toArray, List.set_cons_succ, List.set_cons_zero]
    intro i o ho hA hS p_ wx hw
    rcases i with _ | _ | _ | _ | _ | _ | _ | _ | _ | i
    · obtain rfl := Option.some.inj ho; exact gw rfl (g_move _ _ rfl ⟨rfl, Below.refl _ _⟩)
    · obtain rfl := Option.some.inj ho; exact gw rfl (g_call 31 _ _ [.string (s), .int .i64 (0), .int .i64 (2)] (kf31 _ _) rfl ((number_any s 0 2 k wx (by omega) hs2 (by omega) e5).mono fun _ _ ⟨h1, h2⟩ => ⟨_, h1, rfl, h2 ▸ Below.refl _ _⟩))
    · obtain rfl := Option.some.inj ho; exact gw rfl (g_cv_23_3 _ _ (k : Int) rfl e2.out ⟨rfl, Below.refl _ _⟩)
    · obtain rfl := Option.some.inj ho; exact gw rfl (g_move _ _ rfl ⟨rfl, Below.refl _ _⟩)
    · obtain rfl := Option.some.inj ho; exact gw rfl (g_move _ _ rfl ⟨rfl, Below.refl _ _⟩)
    · obtain rfl := Option.some.inj ho; exact gw rfl (g_slh _ _ _ s d 4 n rfl rfl rfl c1.1 c1.2 e3.out ⟨rfl, Below.refl _ _⟩)
    · obtain rfl := Option.some.inj ho; exact gw rfl (g_bldF _ _ (((k : Int), d)) rfl rfl ⟨rfl, Below.refl _ _⟩)
    · exact absurd rfl hA
    · exact absurd rfl hS
    · simp at ho
  · simp only [fullL, Act.put, List.setIfInBounds_toArray, List.set_cons_succ, List.set_cons_zero]
    intro p_f w2 t_ lp_f b_f
    have o_r_f : w.heap.size < p_f := Nat.lt_of_lt_of_le b_r.lt lp_f
    have l_hB_f : _ ≤ p_f := Nat.le_trans hB.size lp_f
    replace b_r := b_r.below t_ b_r.lt
    replace hB := hB.trans (t_.mono hB.size)
    clear t_
    go_wp2_with (first
      | ((with_reducible refine at_loadD 29 48 ?_); refine L_give (by rfl) (g_load_all 48 _ (p_f) (fc (((k : Int), d))) 48 _ rfl (b_f) Try.underlying48 rfl (szF fz) ?_))
      | ((with_reducible refine at_callD 30 ?_); refine L_give (by rfl) (g_call 36 _ _ [.agg (fc (((k : Int), d))).toArray] (kf36 _ _) rfl ((fmay_any ((k : Int), d) false w2 e7).mono ?_)); rintro e w3 ⟨rfl, t_⟩; refine ⟨_, rfl, ?_⟩; replace b_r := b_r.below t_ b_r.lt; replace b_f := b_f.below t_ b_f.lt; replace hB := hB.trans (t_.mono hB.size); clear t_)
      | ((with_reducible refine at_bld 32 ?_); refine L_give (by rfl) (g_bldF0 ?_))
      | ((with_reducible refine at_storeX 2 48 ?_); refine L_store_all 48 _ _ (w.heap.size) (fc (fz)) _ 48 rfl rfl b_r (szF fz) rfl (one_fc _) ?_; clear b_r; intro w4 t_ b_r; replace b_f := t_.blk b_f (Nat.ne_of_gt o_r_f); replace hB := t_.below hB l_hB_r; clear t_))
    exact bodyPost_ret (results_blk_tmp2 rfl _ (fc fz) (.string ⟨#[]⟩) (.bool false) _ rfl rfl rfl b_r Try.underlying48 rfl (szF fz)) rfl ⟨rfl, hB⟩
set_option maxRecDepth 10000 in
set_option maxHeartbeats 4000000 in
theorem cut_3 (s : ByteArray) (w : World) (hs2 : s.size ≤ 140737488355328) (n k : Nat) (d : ByteArray) (hs4 : 4 ≤ s.size) (c0 : ¬ (s.size : Int) < 4) (e1 : Hid (IntKind.i64.wrap (n : Int) = (n : Int))) (e2 : Hid (IntKind.i64.wrap (k : Int) = (k : Int))) (e4 : Hid (((nm s.data.toList 2 2 : Nat) : Int) = (n : Int))) (e5 : Hid (((nm s.data.toList 0 2 : Nat) : Int) = (k : Int))) (c1 : 4 ≤ n ∧ n ≤ s.size) (e3 : Hid (s.extract 4 n = d)) (e6 : Hid (decide (4 ≤ (n : Int) ∧ (n : Int) ≤ (s.size : Int)) = true)) (e7 : Hid (fmay ((k : Int), d) = true)) (hf : Hid (FMays ((k : Int), d))) (R : ByteArray) (hR : Hid ((⟨(fb ((k : Int), d)).toArray⟩ : ByteArray) = R)) (hp : Hid (¬ R.data.toList <+: s.data.toList)) : Calls Try.prog 41 #[.string s] w fun e w' => e = .returned (.tuple #[.agg (fc fz).toArray, .string ⟨#[]⟩, .bool false]) ∧ Below w.heap.size w w' := by
  go_enter Try.func41, Try.ntmps41
  go_wp2_with (first
    | ((with_reducible refine at_allocD 2 48 ?_); refine L_alloc 48 (fc (fz)) zeroF ?_; intro w1 t_ b_r; have l_hB_r : w.heap.size ≤ w.heap.size := Nat.le_refl _; have hB : Below w.heap.size w w1 := t_.below (Below.refl _ _) (Nat.le_refl _); clear t_)
    | ((with_reducible refine at_callD 10 ?_); refine L_give (by rfl) (g_slen _ _ _ rfl rfl ?_))
    | ((with_reducible refine at_binD 11 ?_); refine L_give (by rfl) (g_ilss 3 _ _ .i64 _ _ false rfl rfl (decide_eq_false c0) ?_))
    | ((with_reducible refine at_callD 14 ?_); refine L_give (by rfl) (g_call 31 _ _ [.string (s), .int .i64 (2), .int .i64 (2)] (kf31 _ _) rfl ((number_any s 2 2 n w1 (by omega) hs2 (by omega) e4).mono ?_)); rintro e w_ ⟨rfl, hW⟩; rw [hW]; clear hW w_; refine ⟨_, rfl, ?_⟩)
    | ((with_reducible refine at_cnv 15 ?_); refine L_give (by rfl) (g_cv_23_3 _ _ (n : Int) rfl e1.out ?_))
    | ((with_reducible refine at_callD 18 ?_); refine L_give (by rfl) (g_slen _ _ _ rfl rfl ?_))
    | ((with_reducible refine at_callD 19 ?_); refine L_give (by rfl) (g_call 34 _ _ [.int .i64 (n), .int .i64 (4), .int .i64 (s.size)] (kf34 _ _) rfl ((within_any _ _ _ true w1 e6).mono ?_)); rintro e w_ ⟨rfl, hW⟩; rw [hW]; clear hW w_; refine ⟨_, rfl, ?_⟩)
    | (refine stop_region 6 ?_; intro X hX))
  refine hX.out ?_
  clear hX X
  refine wp_region_new (by kernel_rfl) (by kernel_rfl) 7 8 48 (fc (fz)) (fc (((k : Int), d))) (fun p_ => [.string (s), .int .u64 (k), .int .i64 (k), .string (s), .int .i64 (n), .string (d), .agg (fc (((k : Int), d))).toArray, p_, undef]) (fun _ => by rfl) (by decide) (by decide) (by decide) ?_ (fun _ => by rfl) ?_ ?_ ?_ ?_ ?_
  · intro o ho; obtain rfl := Option.some.inj ho; exact ⟨⟨7, .data⟩, by simp, rfl, rfl⟩
  · intro p q i hi; rcases i with _ | _ | _ | _ | _ | _ | _ | _ | _ | i <;> first | rfl | exact absurd rfl hi
  · intro o ho a w'; obtain rfl := Option.some.inj ho; exact gw rfl (g_alloc 48 _ zeroF (fun w' h1 h2 => ⟨rfl, h1, h2⟩))
  · intro o ho p w' hb; obtain rfl := Option.some.inj ho; simp only [fullL, Act.put, List.setIfInBounds_toArray, List.set_cons_succ, List.set_cons_zero]; exact gw rfl (g_store_all 48 _ _ p (fc (((k : Int), d))) _ 48 rfl rfl hb (szF fz) rfl (one_fc _) (fun w' h1 h2 => ⟨rfl, h1, h2⟩))
  · simp only [fullL, Act.put, List.setIfInBounds_toArray, List.set_cons_succ, List.set_cons_zero]
    intro i o ho hA hS p_ wx hw
    rcases i with _ | _ | _ | _ | _ | _ | _ | _ | _ | i
    · obtain rfl := Option.some.inj ho; exact gw rfl (g_move _ _ rfl ⟨rfl, Below.refl _ _⟩)
    · obtain rfl := Option.some.inj ho; exact gw rfl (g_call 31 _ _ [.string (s), .int .i64 (0), .int .i64 (2)] (kf31 _ _) rfl ((number_any s 0 2 k wx (by omega) hs2 (by omega) e5).mono fun _ _ ⟨h1, h2⟩ => ⟨_, h1, rfl, h2 ▸ Below.refl _ _⟩))
    · obtain rfl := Option.some.inj ho; exact gw rfl (g_cv_23_3 _ _ (k : Int) rfl e2.out ⟨rfl, Below.refl _ _⟩)
    · obtain rfl := Option.some.inj ho; exact gw rfl (g_move _ _ rfl ⟨rfl, Below.refl _ _⟩)
    · obtain rfl := Option.some.inj ho; exact gw rfl (g_move _ _ rfl ⟨rfl, Below.refl _ _⟩)
    · obtain rfl := Option.some.inj ho; exact gw rfl (g_slh _ _ _ s d 4 n rfl rfl rfl c1.1 c1.2 e3.out ⟨rfl, Below.refl _ _⟩)
    · obtain rfl := Option.some.inj ho; exact gw rfl (g_bldF _ _ (((k : Int), d)) rfl rfl ⟨rfl, Below.refl _ _⟩)
    · exact absurd rfl hA
    · exact absurd rfl hS
    · simp at ho
  · simp only [fullL, Act.put, List.setIfInBounds_toArray, List.set_cons_succ, List.set_cons_zero]
    intro p_f w2 t_ lp_f b_f
    have o_r_f : w.heap.size < p_f := Nat.lt_of_lt_of_le b_r.lt lp_f
    have l_hB_f : _ ≤ p_f := Nat.le_trans hB.size lp_f
    replace b_r := b_r.below t_ b_r.lt
    replace hB := hB.trans (t_.mono hB.size)
    clear t_
    go_wp2_with (first
      | ((with_reducible refine at_loadD 29 48 ?_); refine L_give (by rfl) (g_load_all 48 _ (p_f) (fc (((k : Int), d))) 48 _ rfl (b_f) Try.underlying48 rfl (szF fz) ?_))
      | ((with_reducible refine at_callD 30 ?_); refine L_give (by rfl) (g_call 36 _ _ [.agg (fc (((k : Int), d))).toArray] (kf36 _ _) rfl ((fmay_any ((k : Int), d) true w2 e7).mono ?_)); rintro e w3 ⟨rfl, t_⟩; refine ⟨_, rfl, ?_⟩; replace b_r := b_r.below t_ b_r.lt; replace b_f := b_f.below t_ b_f.lt; replace hB := hB.trans (t_.mono hB.size); clear t_)
      | ((with_reducible refine at_loadD 35 48 ?_); refine L_give (by rfl) (g_load_all 48 _ (p_f) (fc (((k : Int), d))) 48 _ rfl (b_f) Try.underlying48 rfl (szF fz) ?_))
      | ((with_reducible refine at_callD 36 ?_); refine L_give (by rfl) (g_call 37 _ _ [.agg (fc (((k : Int), d))).toArray] (kf37 _ _) rfl ((fbytes_any ((k : Int), d) R w3 hf.out hR).mono ?_)); rintro e w4 ⟨rfl, t_⟩; refine ⟨_, rfl, ?_⟩; replace b_r := b_r.below t_ b_r.lt; replace b_f := b_f.below t_ b_f.lt; replace hB := hB.trans (t_.mono hB.size); clear t_)
      | ((with_reducible refine at_callD 37 ?_); refine L_give (by rfl) (g_call 44 _ _ [.string (s), .string (R)] (kf44 _ _) rfl ((cutp_f s R w4 hp.out).mono ?_)); rintro e w_ ⟨rfl, hW⟩; rw [hW]; clear hW w_; refine ⟨_, rfl, ?_⟩)
      | ((with_reducible refine at_bld 42 ?_); refine L_give (by rfl) (g_bldF0 ?_))
      | ((with_reducible refine at_storeX 2 48 ?_); refine L_store_all 48 _ _ (w.heap.size) (fc (fz)) _ 48 rfl rfl b_r (szF fz) rfl (one_fc _) ?_; clear b_r; intro w5 t_ b_r; replace b_f := t_.blk b_f (Nat.ne_of_gt o_r_f); replace hB := t_.below hB l_hB_r; clear t_))
    exact bodyPost_ret (results_blk_tmp2 rfl _ (fc fz) (.string ⟨#[]⟩) (.bool false) _ rfl rfl rfl b_r Try.underlying48 rfl (szF fz)) rfl ⟨rfl, hB⟩
set_option maxRecDepth 10000 in
set_option maxHeartbeats 4000000 in
theorem cut_4 (s : ByteArray) (w : World) (hs2 : s.size ≤ 140737488355328) (n k : Nat) (d : ByteArray) (hs4 : 4 ≤ s.size) (c0 : ¬ (s.size : Int) < 4) (e1 : Hid (IntKind.i64.wrap (n : Int) = (n : Int))) (e2 : Hid (IntKind.i64.wrap (k : Int) = (k : Int))) (e4 : Hid (((nm s.data.toList 2 2 : Nat) : Int) = (n : Int))) (e5 : Hid (((nm s.data.toList 0 2 : Nat) : Int) = (k : Int))) (c1 : 4 ≤ n ∧ n ≤ s.size) (e3 : Hid (s.extract 4 n = d)) (e6 : Hid (decide (4 ≤ (n : Int) ∧ (n : Int) ≤ (s.size : Int)) = true)) (e7 : Hid (fmay ((k : Int), d) = true)) (hf : Hid (FMays ((k : Int), d))) (R : ByteArray) (hR : Hid ((⟨(fb ((k : Int), d)).toArray⟩ : ByteArray) = R)) (X : ByteArray) (hp : Hid (R.data.toList <+: s.data.toList)) (hX : Hid (s.extract R.size s.size = X)) : Calls Try.prog 41 #[.string s] w fun e w' => e = .returned (.tuple #[.agg (fc ((k : Int), d)).toArray, .string X, .bool true]) ∧ Below w.heap.size w w' := by
  go_enter Try.func41, Try.ntmps41
  go_wp2_with (first
    | ((with_reducible refine at_allocD 2 48 ?_); refine L_alloc 48 (fc (fz)) zeroF ?_; intro w1 t_ b_r; have l_hB_r : w.heap.size ≤ w.heap.size := Nat.le_refl _; have hB : Below w.heap.size w w1 := t_.below (Below.refl _ _) (Nat.le_refl _); clear t_)
    | ((with_reducible refine at_callD 10 ?_); refine L_give (by rfl) (g_slen _ _ _ rfl rfl ?_))
    | ((with_reducible refine at_binD 11 ?_); refine L_give (by rfl) (g_ilss 3 _ _ .i64 _ _ false rfl rfl (decide_eq_false c0) ?_))
    | ((with_reducible refine at_callD 14 ?_); refine L_give (by rfl) (g_call 31 _ _ [.string (s), .int .i64 (2), .int .i64 (2)] (kf31 _ _) rfl ((number_any s 2 2 n w1 (by omega) hs2 (by omega) e4).mono ?_)); rintro e w_ ⟨rfl, hW⟩; rw [hW]; clear hW w_; refine ⟨_, rfl, ?_⟩)
    | ((with_reducible refine at_cnv 15 ?_); refine L_give (by rfl) (g_cv_23_3 _ _ (n : Int) rfl e1.out ?_))
    | ((with_reducible refine at_callD 18 ?_); refine L_give (by rfl) (g_slen _ _ _ rfl rfl ?_))
    | ((with_reducible refine at_callD 19 ?_); refine L_give (by rfl) (g_call 34 _ _ [.int .i64 (n), .int .i64 (4), .int .i64 (s.size)] (kf34 _ _) rfl ((within_any _ _ _ true w1 e6).mono ?_)); rintro e w_ ⟨rfl, hW⟩; rw [hW]; clear hW w_; refine ⟨_, rfl, ?_⟩)
    | (refine stop_region 6 ?_; intro X hX))
  refine hX.out ?_
  clear hX X
  refine wp_region_new (by kernel_rfl) (by kernel_rfl) 7 8 48 (fc (fz)) (fc (((k : Int), d))) (fun p_ => [.string (s), .int .u64 (k), .int .i64 (k), .string (s), .int .i64 (n), .string (d), .agg (fc (((k : Int), d))).toArray, p_, undef]) (fun _ => by rfl) (by decide) (by decide) (by decide) ?_ (fun _ => by rfl) ?_ ?_ ?_ ?_ ?_
  · intro o ho; obtain rfl := Option.some.inj ho; exact ⟨⟨7, .data⟩, by simp, rfl, rfl⟩
  · intro p q i hi; rcases i with _ | _ | _ | _ | _ | _ | _ | _ | _ | i <;> first | rfl | exact absurd rfl hi
  · intro o ho a w'; obtain rfl := Option.some.inj ho; exact gw rfl (g_alloc 48 _ zeroF (fun w' h1 h2 => ⟨rfl, h1, h2⟩))
  · intro o ho p w' hb; obtain rfl := Option.some.inj ho; simp only [fullL, Act.put, List.setIfInBounds_toArray, List.set_cons_succ, List.set_cons_zero]; exact gw rfl (g_store_all 48 _ _ p (fc (((k : Int), d))) _ 48 rfl rfl hb (szF fz) rfl (one_fc _) (fun w' h1 h2 => ⟨rfl, h1, h2⟩))
  · simp only [fullL, Act.put, List.setIfInBounds_toArray, List.set_cons_succ, List.set_cons_zero]
    intro i o ho hA hS p_ wx hw
    rcases i with _ | _ | _ | _ | _ | _ | _ | _ | _ | i
    · obtain rfl := Option.some.inj ho; exact gw rfl (g_move _ _ rfl ⟨rfl, Below.refl _ _⟩)
    · obtain rfl := Option.some.inj ho; exact gw rfl (g_call 31 _ _ [.string (s), .int .i64 (0), .int .i64 (2)] (kf31 _ _) rfl ((number_any s 0 2 k wx (by omega) hs2 (by omega) e5).mono fun _ _ ⟨h1, h2⟩ => ⟨_, h1, rfl, h2 ▸ Below.refl _ _⟩))
    · obtain rfl := Option.some.inj ho; exact gw rfl (g_cv_23_3 _ _ (k : Int) rfl e2.out ⟨rfl, Below.refl _ _⟩)
    · obtain rfl := Option.some.inj ho; exact gw rfl (g_move _ _ rfl ⟨rfl, Below.refl _ _⟩)
    · obtain rfl := Option.some.inj ho; exact gw rfl (g_move _ _ rfl ⟨rfl, Below.refl _ _⟩)
    · obtain rfl := Option.some.inj ho; exact gw rfl (g_slh _ _ _ s d 4 n rfl rfl rfl c1.1 c1.2 e3.out ⟨rfl, Below.refl _ _⟩)
    · obtain rfl := Option.some.inj ho; exact gw rfl (g_bldF _ _ (((k : Int), d)) rfl rfl ⟨rfl, Below.refl _ _⟩)
    · exact absurd rfl hA
    · exact absurd rfl hS
    · simp at ho
  · simp only [fullL, Act.put, List.setIfInBounds_toArray, List.set_cons_succ, List.set_cons_zero]
    intro p_f w2 t_ lp_f b_f
    have o_r_f : w.heap.size < p_f := Nat.lt_of_lt_of_le b_r.lt lp_f
    have l_hB_f : _ ≤ p_f := Nat.le_trans hB.size lp_f
    replace b_r := b_r.below t_ b_r.lt
    replace hB := hB.trans (t_.mono hB.size)
    clear t_
    go_wp2_with (first
      | ((with_reducible refine at_loadD 29 48 ?_); refine L_give (by rfl) (g_load_all 48 _ (p_f) (fc (((k : Int), d))) 48 _ rfl (b_f) Try.underlying48 rfl (szF fz) ?_))
      | ((with_reducible refine at_callD 30 ?_); refine L_give (by rfl) (g_call 36 _ _ [.agg (fc (((k : Int), d))).toArray] (kf36 _ _) rfl ((fmay_any ((k : Int), d) true w2 e7).mono ?_)); rintro e w3 ⟨rfl, t_⟩; refine ⟨_, rfl, ?_⟩; replace b_r := b_r.below t_ b_r.lt; replace b_f := b_f.below t_ b_f.lt; replace hB := hB.trans (t_.mono hB.size); clear t_)
      | ((with_reducible refine at_loadD 35 48 ?_); refine L_give (by rfl) (g_load_all 48 _ (p_f) (fc (((k : Int), d))) 48 _ rfl (b_f) Try.underlying48 rfl (szF fz) ?_))
      | ((with_reducible refine at_callD 36 ?_); refine L_give (by rfl) (g_call 37 _ _ [.agg (fc (((k : Int), d))).toArray] (kf37 _ _) rfl ((fbytes_any ((k : Int), d) R w3 hf.out hR).mono ?_)); rintro e w4 ⟨rfl, t_⟩; refine ⟨_, rfl, ?_⟩; replace b_r := b_r.below t_ b_r.lt; replace b_f := b_f.below t_ b_f.lt; replace hB := hB.trans (t_.mono hB.size); clear t_)
      | ((with_reducible refine at_callD 37 ?_); refine L_give (by rfl) (g_call 44 _ _ [.string (s), .string (R)] (kf44 _ _) rfl ((cutp_t s R X w4 hp.out hX.out).mono ?_)); rintro e w_ ⟨rfl, hW⟩; rw [hW]; clear hW w_; refine ⟨_, rfl, ?_⟩)
      | ((with_reducible refine at_loadD 43 48 ?_); refine L_give (by rfl) (g_load_all 48 _ (p_f) (fc (((k : Int), d))) 48 _ rfl (b_f) Try.underlying48 rfl (szF fz) ?_))
      | ((with_reducible refine at_storeX 2 48 ?_); refine L_store_all 48 _ _ (w.heap.size) (fc (((k : Int), d))) _ 48 rfl rfl b_r (szF fz) rfl (one_fc _) ?_; clear b_r; intro w5 t_ b_r; replace b_f := t_.blk b_f (Nat.ne_of_gt o_r_f); replace hB := t_.below hB l_hB_r; clear t_))
    exact bodyPost_ret (results_blk_tmp2 rfl _ (fc ((k : Int), d)) (.string X) (.bool true) _ rfl rfl rfl b_r Try.underlying48 rfl (szF fz)) rfl ⟨rfl, hB⟩
theorem cut_parts (s : ByteArray) : (((nm s.data.toList 0 2 : Nat) : Int), s.extract 4 (nm s.data.toList 2 2)) = seem s.data.toList := by
  unfold seem
  congr 1
  apply ByteArray.ext; apply Array.toList_inj.1
  rw [ext_list]
theorem cut_no (s : ByteArray) (w : World) (hs2 : s.size ≤ 140737488355328) (h : ¬ Cuts s.data.toList) : Calls Try.prog 41 #[.string s] w fun e w' => e = .returned (.tuple #[.agg (fc fz).toArray, .string ⟨#[]⟩, .bool false]) ∧ Below w.heap.size w w' := by
  have hl := Lib.size_eq s
  have a := nm_lt s.data.toList 2 2
  have b := nm_lt s.data.toList 0 2
  by_cases c0 : (s.size : Int) < 4
  · exact cut_0 s w hs2 c0
  · have e1 : Hid (IntKind.i64.wrap ((nm s.data.toList 2 2 : Nat) : Int) = ((nm s.data.toList 2 2 : Nat) : Int)) := wrap_i64 _ (by omega) (by omega)
    have e2 : Hid (IntKind.i64.wrap ((nm s.data.toList 0 2 : Nat) : Int) = ((nm s.data.toList 0 2 : Nat) : Int)) := wrap_i64 _ (by omega) (by omega)
    by_cases c1 : 4 ≤ nm s.data.toList 2 2 ∧ nm s.data.toList 2 2 ≤ s.size
    · have e6 : Hid (decide (4 ≤ ((nm s.data.toList 2 2 : Nat) : Int) ∧ ((nm s.data.toList 2 2 : Nat) : Int) ≤ (s.size : Int)) = true) := decide_eq_true (by omega)
      by_cases c2 : FMays (seem s.data.toList)
      · have c3 : ¬ fb (seem s.data.toList) <+: s.data.toList := fun c3 => h ⟨by omega, ⟨c1.1, by omega⟩, c2, c3⟩
        have hp := cut_parts s
        refine cut_3 s w hs2 (nm s.data.toList 2 2) (nm s.data.toList 0 2) (s.extract 4 (nm s.data.toList 2 2)) (by omega) c0 e1 e2 rfl rfl c1 rfl e6 ?_ ?_ _ rfl ?_ <;> rw [hp]
        · exact decide_eq_true c2
        · exact c2
        · exact c3
      · refine cut_2 s w hs2 (nm s.data.toList 2 2) (nm s.data.toList 0 2) (s.extract 4 (nm s.data.toList 2 2)) (by omega) c0 e1 e2 rfl rfl c1 rfl e6 ?_
        rw [cut_parts s]
        exact decide_eq_false c2
    · have e6 : Hid (decide (4 ≤ ((nm s.data.toList 2 2 : Nat) : Int) ∧ ((nm s.data.toList 2 2 : Nat) : Int) ≤ (s.size : Int)) = false) := decide_eq_false (by omega)
      exact cut_1 s w hs2 (nm s.data.toList 2 2) (nm s.data.toList 0 2) ByteArray.empty (by omega) c0 e1 e2 rfl rfl e6
theorem cut_yes (s : ByteArray) (f : Int × ByteArray) (X : ByteArray) (w : World) (hs2 : s.size ≤ 140737488355328) (h : Hid (Cuts s.data.toList)) (hf : Hid (seem s.data.toList = f)) (hX : Hid (s.extract (fb f).length s.size = X)) : Calls Try.prog 41 #[.string s] w fun e w' => e = .returned (.tuple #[.agg (fc f).toArray, .string X, .bool true]) ∧ Below w.heap.size w w' := by
  obtain ⟨h1, h2, h3, h4⟩ := h.out
  have hl := Lib.size_eq s
  have a := nm_lt s.data.toList 2 2
  have b := nm_lt s.data.toList 0 2
  have e1 : Hid (IntKind.i64.wrap ((nm s.data.toList 2 2 : Nat) : Int) = ((nm s.data.toList 2 2 : Nat) : Int)) := wrap_i64 _ (by omega) (by omega)
  have e2 : Hid (IntKind.i64.wrap ((nm s.data.toList 0 2 : Nat) : Int) = ((nm s.data.toList 0 2 : Nat) : Int)) := wrap_i64 _ (by omega) (by omega)
  have e6 : Hid (decide (4 ≤ ((nm s.data.toList 2 2 : Nat) : Int) ∧ ((nm s.data.toList 2 2 : Nat) : Int) ≤ (s.size : Int)) = true) := decide_eq_true (by omega)
  have hp := cut_parts s
  have hfe := hf.out
  subst hfe
  have k := cut_4 s w hs2 (nm s.data.toList 2 2) (nm s.data.toList 0 2) (s.extract 4 (nm s.data.toList 2 2)) (by omega) (by omega) e1 e2 rfl rfl (by omega) rfl e6 (by rw [hp]; exact decide_eq_true h3) (by rw [hp]; exact h3) _ rfl X (by rw [hp]; exact h4) (by show _ = _; rw [hp, size_toArray]; exact hX.out)
  rw [hp] at k
  exact k
end Go.Proofs.Yteieacamokoejaa
