/- HeadCuts: the walk. -/
import Derived.Test.YteieacamokoejaaLawB
namespace Go.Proofs.Yteieacamokoejaa.headCuts
open Go Go.RowKit
set_option linter.unusedVariables false
set_option linter.unusedSimpArgs false

/-- What is cut off where an extension ends. -/
theorem cut_ends (h : Hd) (l : List (Int × ByteArray)) (W : ByteArray) (k j : Nat) (hi : InH h) (hw : wr h l = (W, 0)) (hj : (wb h (l.take j)).length = k) : rdp (W.extract 0 k) = (h, l.take j, 0) := by
  obtain ⟨a, b, c, d⟩ := wr_ok h l W hw
  refine rd_wb h (l.take j) _ a hi (fun f hf => b f (List.mem_of_mem_take hf)) (by rw [List.length_take]; omega) ?_
  rw [ext_list, List.drop_zero, Nat.sub_zero, d]
  have e : hb h ++ l.flatMap fb = wb h (l.take j) ++ (l.drop j).flatMap fb := by
    conv => lhs; rw [← List.take_append_drop j l]
    rw [List.flatMap_append, wb, List.append_assoc]
  rw [e, List.take_left' hj]; rfl
/-- What is cut off elsewhere. -/
theorem cut_else (h : Hd) (l : List (Int × ByteArray)) (W : ByteArray) (k : Nat) (hi : InH h) (hw : wr h l = (W, 0)) (hk : k ≤ W.size) (hj : ∀ j, j < l.length + 1 → (wb h (l.take j)).length ≠ k) (G : Hd) (m : List (Int × ByteArray)) (F : Int) (hr : rdp (W.extract 0 k) = (G, m, F)) : F ≠ 0 := by
  intro hF
  subst hF
  obtain ⟨a, b, c, d⟩ := wr_ok h l W hw
  obtain ⟨e1, e2, e3, e4, e5⟩ := rd_ok _ G m hr
  obtain ⟨f1, f2, f3, f4⟩ := wr_ok G m _ e1
  have hl := Lib.size_eq W
  have es : (W.extract 0 k).size = k := by rw [ByteArray.size_extract]; omega
  rw [es] at e4
  rw [ext_list, List.drop_zero, Nat.sub_zero, d] at f4
  have lb := hb_length h
  have lg := hb_length G
  have p : m.flatMap fb = ((hb h ++ l.flatMap fb).take k).drop 48 := by rw [f4, List.drop_left' lg]
  rw [List.take_append, List.take_of_length_le (by omega), List.drop_left' lb] at p
  have q : m.flatMap fb ++ (l.flatMap fb).drop (k - (hb h).length) = l.flatMap fb := by rw [p]; exact List.take_append_drop _ _
  obtain ⟨r1, r2⟩ := fb_prefix m l _ f2 b q
  refine hj m.length (by omega) ?_
  rw [← r1, wb, List.length_append, lb, p, List.length_take]
  rw [d, List.length_append] at hl
  omega
set_option maxRecDepth 10000 in
set_option maxHeartbeats 4000000 in
theorem walk1 (h : Hd) (l : List (Int × ByteArray)) (ao : Option Addr) (cap : Nat) (x : Int) (w : World) (hi : InH h) (hn : l.length ≤ 140737488355328) (hf : Fis w (.slice ao l.length cap) l) (hcap : l.length ≤ cap) (hx : 0 ≤ x ∧ x < 65536) (T : ByteArray) (E : Int) (hE : E ≠ 0) (hW : Hid (wr h l = (T, E))) : Calls Try.prog 7 #[.agg (hc h).toArray, .slice ao l.length cap, .int .u16 x] w fun e w' => e = .returned (.bool true) ∧ Below w.heap.size w w' := by
  go_enter Try.func7, Try.ntmps7
  go_wp2_with (first
    | ((with_reducible refine at_boxD 3 26 ?_); refine L_box 26 _ (hc (h)) rfl ?_; intro w1 t_ b_h; have l_hB_h : w.heap.size ≤ w.heap.size := Nat.le_refl _; have hB : Below w.heap.size w w1 := t_.below (Below.refl _ _) (Nat.le_refl _); clear t_; (try simp only [Act.put, List.setIfInBounds_toArray, List.set_cons_zero, List.set_cons_succ]))
    | ((with_reducible refine at_callD 17 ?_); refine L_give (by rfl) (g_call 11 _ _ [] (kf11 _ _) rfl ((awake_any w1).mono ?_)); rintro e w2 ⟨rfl, t_⟩; refine ⟨_, rfl, ?_⟩; replace b_h := b_h.below t_ b_h.lt; replace hB := hB.trans (t_.mono hB.size); clear t_; (try simp only [Act.put, List.setIfInBounds_toArray, List.set_cons_zero, List.set_cons_succ]))
    | (refine stop_list 20 ?_; intro X hX))
  refine hX.out ?_
  clear hX X
  refine L_give (by rfl) (g_call 18 _ _ [.slice ao l.length cap] (kf18 _ _) rfl ((large_any l ao cap w2 hn (hf.below hB)).mono ?_))
  rintro e w3 ⟨rfl | rfl, t_⟩
  · refine ⟨_, rfl, ?_⟩
    replace b_h := b_h.below t_ b_h.lt
    replace hB := hB.trans (t_.mono hB.size)
    clear t_
    (try simp only [Act.put, List.setIfInBounds_toArray, List.set_cons_zero, List.set_cons_succ])
    go_wp2
    go_ret
    exact ⟨rfl, hB⟩
  · refine ⟨_, rfl, ?_⟩
    replace b_h := b_h.below t_ b_h.lt
    replace hB := hB.trans (t_.mono hB.size)
    clear t_
    (try simp only [Act.put, List.setIfInBounds_toArray, List.set_cons_zero, List.set_cons_succ])
    go_wp2_with (first
      | ((with_reducible refine at_loadD 22 26 ?_); refine L_give (by rfl) (g_load_all 26 _ (w.heap.size) (hc (h)) 26 _ rfl (b_h) Try.underlying26 rfl (szH hz) ?_); (try simp only [Act.put, List.setIfInBounds_toArray, List.set_cons_zero, List.set_cons_succ]))
      | ((with_reducible refine at_callD 24 ?_); refine L_give (by rfl) (g_call 21 _ _ [.agg (hc (h)).toArray, .slice ao l.length cap] (kf21 _ _) rfl ((hwrite_any h l ao cap w3 hi hn (hf.below hB) T E hW).mono ?_)); rintro e w4 ⟨rfl, t_⟩; refine ⟨_, rfl, ?_⟩; replace b_h := b_h.below t_ b_h.lt; replace hB := hB.trans (t_.mono hB.size); clear t_; (try simp only [Act.put, List.setIfInBounds_toArray, List.set_cons_zero, List.set_cons_succ]))
      | ((with_reducible refine at_binD 28 ?_); refine L_give (by rfl) (g_ine 28 _ _ .i64 _ _ true rfl rfl (decide_eq_true hE) ?_); (try simp only [Act.put, List.setIfInBounds_toArray, List.set_cons_zero, List.set_cons_succ])))
    go_ret
    exact ⟨rfl, hB⟩
set_option maxRecDepth 10000 in
set_option maxHeartbeats 4000000 in
theorem walk2 (h : Hd) (l : List (Int × ByteArray)) (ao : Option Addr) (cap : Nat) (x : Int) (w : World) (hi : InH h) (hn : l.length ≤ 140737488355328) (hf : Fis w (.slice ao l.length cap) l) (hcap : l.length ≤ cap) (hx : 0 ≤ x ∧ x < 65536) (T : ByteArray) (kk : Nat) (z : Int) (hW : Hid (wr h l = (T, 0))) (ex : Hid (IntKind.i64.wrap x = x)) (ez : Hid (IntKind.i64.wrap (((T.size : Nat) : Int) + 1) = z)) (hz0 : z ≠ 0) (ek : Hid (x.tmod z = (kk : Int))) (hkT : kk ≤ T.size) (hTs : T.size ≤ 100000) (hl16 : l.length ≤ 16) : Calls Try.prog 7 #[.agg (hc h).toArray, .slice ao l.length cap, .int .u16 x] w fun e w' => e = .returned (.bool true) ∧ Below w.heap.size w w' := by
  go_enter Try.func7, Try.ntmps7
  go_wp2_with (first
    | ((with_reducible refine at_boxD 3 26 ?_); refine L_box 26 _ (hc (h)) rfl ?_; intro w1 t_ b_h; have l_hB_h : w.heap.size ≤ w.heap.size := Nat.le_refl _; have hB : Below w.heap.size w w1 := t_.below (Below.refl _ _) (Nat.le_refl _); clear t_; (try simp only [Act.put, List.setIfInBounds_toArray, List.set_cons_zero, List.set_cons_succ]))
    | ((with_reducible refine at_callD 17 ?_); refine L_give (by rfl) (g_call 11 _ _ [] (kf11 _ _) rfl ((awake_any w1).mono ?_)); rintro e w2 ⟨rfl, t_⟩; refine ⟨_, rfl, ?_⟩; replace b_h := b_h.below t_ b_h.lt; replace hB := hB.trans (t_.mono hB.size); clear t_; (try simp only [Act.put, List.setIfInBounds_toArray, List.set_cons_zero, List.set_cons_succ]))
    | (refine stop_list 20 ?_; intro X hX))
  refine hX.out ?_
  clear hX X
  refine L_give (by rfl) (g_call 18 _ _ [.slice ao l.length cap] (kf18 _ _) rfl ((large_any l ao cap w2 hn (hf.below hB)).mono ?_))
  rintro e w3 ⟨rfl | rfl, t_⟩
  · refine ⟨_, rfl, ?_⟩
    replace b_h := b_h.below t_ b_h.lt
    replace hB := hB.trans (t_.mono hB.size)
    clear t_
    (try simp only [Act.put, List.setIfInBounds_toArray, List.set_cons_zero, List.set_cons_succ])
    go_wp2
    go_ret
    exact ⟨rfl, hB⟩
  · refine ⟨_, rfl, ?_⟩
    replace b_h := b_h.below t_ b_h.lt
    replace hB := hB.trans (t_.mono hB.size)
    clear t_
    (try simp only [Act.put, List.setIfInBounds_toArray, List.set_cons_zero, List.set_cons_succ])
    go_wp2_with (first
      | ((with_reducible refine at_loadD 22 26 ?_); refine L_give (by rfl) (g_load_all 26 _ (w.heap.size) (hc (h)) 26 _ rfl (b_h) Try.underlying26 rfl (szH hz) ?_); (try simp only [Act.put, List.setIfInBounds_toArray, List.set_cons_zero, List.set_cons_succ]))
      | ((with_reducible refine at_callD 24 ?_); refine L_give (by rfl) (g_call 21 _ _ [.agg (hc (h)).toArray, .slice ao l.length cap] (kf21 _ _) rfl ((hwrite_any h l ao cap w3 hi hn (hf.below hB) T 0 hW).mono ?_)); rintro e w4 ⟨rfl, t_⟩; refine ⟨_, rfl, ?_⟩; replace b_h := b_h.below t_ b_h.lt; replace hB := hB.trans (t_.mono hB.size); clear t_; (try simp only [Act.put, List.setIfInBounds_toArray, List.set_cons_zero, List.set_cons_succ]))
      | ((with_reducible refine at_binD 28 ?_); refine L_give (by rfl) (g_ine 28 _ _ .i64 _ _ false rfl rfl (by decide) ?_); (try simp only [Act.put, List.setIfInBounds_toArray, List.set_cons_zero, List.set_cons_succ]))
      | ((with_reducible refine at_cnv 30 ?_); refine L_give (by rfl) (g_cv_43_3 _ _ _ rfl ex.out ?_); (try simp only [Act.put, List.setIfInBounds_toArray, List.set_cons_zero, List.set_cons_succ]))
      | ((with_reducible refine at_callD 32 ?_); refine L_give (by rfl) (g_slen _ _ _ rfl rfl ?_); (try simp only [Act.put, List.setIfInBounds_toArray, List.set_cons_zero, List.set_cons_succ]))
      | ((with_reducible refine at_binD 33 ?_); refine L_give (by rfl) (g_iadd 3 _ _ .i64 _ _ z rfl rfl ez.out ?_); (try simp only [Act.put, List.setIfInBounds_toArray, List.set_cons_zero, List.set_cons_succ]))
      | ((with_reducible refine at_binD 34 ?_); refine L_give (by rfl) (g_irem 3 _ _ .i64 _ _ (kk : Int) rfl rfl hz0 ek.out ?_); (try simp only [Act.put, List.setIfInBounds_toArray, List.set_cons_zero, List.set_cons_succ])))
    go_loopw [10, 11] (fun e10 i11 wr => ∃ (i : Nat) (e : Int), e10 = .int .i64 e ∧ i11 = .int .i64 i ∧ i ≤ l.length + 1 ∧ Hid ((e = -1 ∧ ∀ j, j < i → (wb h (l.take j)).length ≠ kk) ∨ (∃ j, j < i ∧ j ≤ l.length ∧ e = (j : Int) ∧ (wb h (l.take j)).length = kk)) ∧ Blk wr w.heap.size (hc h) 26 ∧ Below w.heap.size w wr) (fun _ i11 _ => l.length + 1 - (intOf i11).toNat)
    case atStart => exact ⟨0, -1, rfl, rfl, Nat.zero_le _, .inl ⟨rfl, fun j hj => by omega⟩, b_h, hB⟩
    case round =>
      clear b_h hB
      obtain ⟨i, e, rfl, rfl, hil, hce, b_h, hB⟩ := hrel
      by_cases hle : i ≤ l.length
      · obtain ⟨li, hli⟩ : ∃ li, l.take i = li := ⟨_, rfl⟩
        obtain rfl : i = li.length := by rw [← hli, List.length_take]; omega
        replace hli : Hid (l.take li.length = li) := hli
        have hleI : ((li.length : Nat) : Int) ≤ ((l.length : Nat) : Int) := by omega
        have hfi : Fis wr (.slice ao li.length cap) li := by have q := Fis.take (hf.below hB) li.length hle cap; rw [hli.out] at q; exact q
        obtain ⟨U, hU⟩ : ∃ U : ByteArray, Hid (Go.Proofs.Yteieacamokoejaa.wr h li = (U, 0)) := by
          obtain ⟨a, b, c, d⟩ := wr_ok h l T hW.out
          refine ⟨_, wr_mk h li a (fun g hg => b g ?_) (by omega)⟩
          rw [← hli.out] at hg; exact List.mem_of_mem_take hg
        have hUs : Hid (U.size = (wb h li).length) := by show _ = _; rw [Lib.size_eq, (wr_ok h li U hU.out).2.2.2]; rfl
        by_cases heq : ((U.size : Nat) : Int) = (kk : Int)
        · have hnx : Hid ((((li.length : Nat) : Int) = -1 ∧ ∀ j, j < li.length + 1 → (wb h (l.take j)).length ≠ kk) ∨ (∃ j, j < li.length + 1 ∧ j ≤ l.length ∧ ((li.length : Nat) : Int) = (j : Int) ∧ (wb h (l.take j)).length = kk)) := by
            exact .inr ⟨li.length, by omega, hle, rfl, by rw [hli.out, ← hUs.out]; omega⟩
          go_wp2_with (first
            | ((with_reducible refine at_binD 38 ?_); refine L_give (by rfl) (g_ileq 3 _ _ .i64 _ _ true rfl rfl (decide_eq_true hleI) ?_); (try simp only [Act.put, List.setIfInBounds_toArray, List.set_cons_zero, List.set_cons_succ]))
            | (refine stop_region 13 ?_; intro X hX))
          refine hX.out ?_
          clear hX X
          refine wp_region_fixed (by kernel_rfl) (by kernel_rfl) [.agg (hc (h)).toArray, .slice ao l.length cap, .int .i64 (((li.length : Nat) : Int)), .slice ao li.length cap, .tuple #[.string (U), .int .i64 (0)], .tuple #[.string (U), .int .i64 (0)], .string (U), .int .i64 (0), .string (U), .int .i64 (0)] (by rfl) (fun w' => Below wr.heap.size wr w') (Below.refl _ _).drew ?_ ?_
          · simp only [fullL, Act.put, List.setIfInBounds_toArray, List.set_cons_succ, List.set_cons_zero]
            refine ⟨?_, ?_, ?_, ?_, ?_, ?_, ?_, ?_, ?_, ?_, trivial⟩
            · exact fun wx hw => gw rfl (g_load_all 26 _ (w.heap.size) (hc h) 26 _ rfl ((b_h.below hw b_h.lt)) Try.underlying26 rfl (szH hz) ⟨rfl, hw⟩)
            · exact fun wx hw => gw rfl (g_move _ _ rfl ⟨rfl, hw⟩)
            · exact fun wx hw => gw rfl (g_move _ _ rfl ⟨rfl, hw⟩)
            · exact fun wx hw => gw rfl (g_slF _ _ ao _ cap li.length rfl rfl (by omega) ⟨rfl, hw⟩)
            · exact fun wx hw => gw rfl (g_call 21 _ _ [.agg (hc (h)).toArray, .slice ao li.length cap] (kf21 _ _) rfl (mono_val hw (hwrite_any h li ao cap wx hi (by omega) (hfi.below hw) U 0 hU)))
            · exact fun wx hw => gw rfl (g_move _ _ rfl ⟨rfl, hw⟩)
            · exact fun wx hw => gw rfl (g_extract _ _ 0 _ rfl rfl ⟨rfl, hw⟩)
            · exact fun wx hw => gw rfl (g_extract _ _ 1 _ rfl rfl ⟨rfl, hw⟩)
            · exact fun wx hw => gw rfl (g_assign _ _ rfl ⟨rfl, hw⟩)
            · exact fun wx hw => gw rfl (g_assign _ _ rfl ⟨rfl, hw⟩)
          · simp only [fullL, Act.put, List.setIfInBounds_toArray, List.set_cons_succ, List.set_cons_zero]
            intro wr1 t_
            replace b_h := b_h.below t_ b_h.lt
            replace hB := hB.trans (t_.mono hB.size)
            clear t_
            go_wp2_with (first
              | ((with_reducible refine at_binD 50 ?_); refine L_give (by rfl) (g_ieq 28 _ _ .i64 _ _ true rfl rfl (by decide) ?_); (try simp only [Act.put, List.setIfInBounds_toArray, List.set_cons_zero, List.set_cons_succ]))
              | ((with_reducible refine at_callD 53 ?_); refine L_give (by rfl) (g_slen _ _ _ rfl rfl ?_); (try simp only [Act.put, List.setIfInBounds_toArray, List.set_cons_zero, List.set_cons_succ]))
              | ((with_reducible refine at_binD 55 ?_); refine L_give (by rfl) (g_ieq 3 _ _ .i64 _ _ true rfl rfl (decide_eq_true heq) ?_); (try simp only [Act.put, List.setIfInBounds_toArray, List.set_cons_zero, List.set_cons_succ])))
            go_roundw
            case rel => exact ⟨li.length + 1, ((li.length : Nat) : Int), rfl, by go_num, by omega, hnx.out, b_h, hB⟩
            case measure => simp [intOf]; omega
        · have hnx : Hid ((e = -1 ∧ ∀ j, j < li.length + 1 → (wb h (l.take j)).length ≠ kk) ∨ (∃ j, j < li.length + 1 ∧ j ≤ l.length ∧ e = (j : Int) ∧ (wb h (l.take j)).length = kk)) := by
            rcases hce.out with ⟨h1, h2⟩ | ⟨j, h1, h2, h3, h4⟩
            · refine .inl ⟨h1, fun j hj => ?_⟩
              by_cases hjl : j < li.length
              · exact h2 j hjl
              · obtain rfl : j = li.length := by omega
                rw [hli.out, ← hUs.out]; omega
            · exact .inr ⟨j, by omega, h2, h3, h4⟩
          go_wp2_with (first
            | ((with_reducible refine at_binD 38 ?_); refine L_give (by rfl) (g_ileq 3 _ _ .i64 _ _ true rfl rfl (decide_eq_true hleI) ?_); (try simp only [Act.put, List.setIfInBounds_toArray, List.set_cons_zero, List.set_cons_succ]))
            | (refine stop_region 13 ?_; intro X hX))
          refine hX.out ?_
          clear hX X
          refine wp_region_fixed (by kernel_rfl) (by kernel_rfl) [.agg (hc (h)).toArray, .slice ao l.length cap, .int .i64 (((li.length : Nat) : Int)), .slice ao li.length cap, .tuple #[.string (U), .int .i64 (0)], .tuple #[.string (U), .int .i64 (0)], .string (U), .int .i64 (0), .string (U), .int .i64 (0)] (by rfl) (fun w' => Below wr.heap.size wr w') (Below.refl _ _).drew ?_ ?_
          · simp only [fullL, Act.put, List.setIfInBounds_toArray, List.set_cons_succ, List.set_cons_zero]
            refine ⟨?_, ?_, ?_, ?_, ?_, ?_, ?_, ?_, ?_, ?_, trivial⟩
            · exact fun wx hw => gw rfl (g_load_all 26 _ (w.heap.size) (hc h) 26 _ rfl ((b_h.below hw b_h.lt)) Try.underlying26 rfl (szH hz) ⟨rfl, hw⟩)
            · exact fun wx hw => gw rfl (g_move _ _ rfl ⟨rfl, hw⟩)
            · exact fun wx hw => gw rfl (g_move _ _ rfl ⟨rfl, hw⟩)
            · exact fun wx hw => gw rfl (g_slF _ _ ao _ cap li.length rfl rfl (by omega) ⟨rfl, hw⟩)
            · exact fun wx hw => gw rfl (g_call 21 _ _ [.agg (hc (h)).toArray, .slice ao li.length cap] (kf21 _ _) rfl (mono_val hw (hwrite_any h li ao cap wx hi (by omega) (hfi.below hw) U 0 hU)))
            · exact fun wx hw => gw rfl (g_move _ _ rfl ⟨rfl, hw⟩)
            · exact fun wx hw => gw rfl (g_extract _ _ 0 _ rfl rfl ⟨rfl, hw⟩)
            · exact fun wx hw => gw rfl (g_extract _ _ 1 _ rfl rfl ⟨rfl, hw⟩)
            · exact fun wx hw => gw rfl (g_assign _ _ rfl ⟨rfl, hw⟩)
            · exact fun wx hw => gw rfl (g_assign _ _ rfl ⟨rfl, hw⟩)
          · simp only [fullL, Act.put, List.setIfInBounds_toArray, List.set_cons_succ, List.set_cons_zero]
            intro wr1 t_
            replace b_h := b_h.below t_ b_h.lt
            replace hB := hB.trans (t_.mono hB.size)
            clear t_
            go_wp2_with (first
              | ((with_reducible refine at_binD 50 ?_); refine L_give (by rfl) (g_ieq 28 _ _ .i64 _ _ true rfl rfl (by decide) ?_); (try simp only [Act.put, List.setIfInBounds_toArray, List.set_cons_zero, List.set_cons_succ]))
              | ((with_reducible refine at_callD 53 ?_); refine L_give (by rfl) (g_slen _ _ _ rfl rfl ?_); (try simp only [Act.put, List.setIfInBounds_toArray, List.set_cons_zero, List.set_cons_succ]))
              | ((with_reducible refine at_binD 55 ?_); refine L_give (by rfl) (g_ieq 3 _ _ .i64 _ _ false rfl rfl (decide_eq_false heq) ?_); (try simp only [Act.put, List.setIfInBounds_toArray, List.set_cons_zero, List.set_cons_succ])))
            go_roundw
            case rel => exact ⟨li.length + 1, e, rfl, by go_num, by omega, hnx.out, b_h, hB⟩
            case measure => simp [intOf]; omega
      · have hleI : ¬ (i : Int) ≤ ((l.length : Nat) : Int) := by omega
        obtain ⟨V, hV⟩ : ∃ V, Hid (T.extract 0 kk = V) := ⟨_, rfl⟩
        have hVs : V.size ≤ 140737488355328 := by rw [← hV.out, ByteArray.size_extract]; omega
        rcases hce.out with ⟨rfl, h2⟩ | ⟨j, h1, h2, rfl, h4⟩
        · obtain ⟨G, m, F, hR⟩ : ∃ G m F, rdp V = (G, m, F) := ⟨_, _, _, rfl⟩
          have hF0 : F ≠ 0 := cut_else h l T kk hi hW.out hkT (fun j hj => h2 j (by omega)) G m F (by rw [hV.out]; exact hR)
          obtain ⟨rfl, rfl⟩ := rd_bad V G m F hR hF0
          have h48i := rd_size V _ _ F hR
          have hVk : V.size = kk := by rw [← hV.out, ByteArray.size_extract]; omega
          rw [hVk] at h48i
          replace hR : Hid (rdp V = (hz, [], F)) := hR
          replace hVk : Hid (V.size = kk) := hVk
          by_cases h5 : F = 5
          · have h48 : (kk : Int) < 48 := by have := h48i.1 h5; omega
            clear h48i h2 hce
            go_wp2_with (first
              | ((with_reducible refine at_binD 38 ?_); refine L_give (by rfl) (g_ileq 3 _ _ .i64 _ _ false rfl rfl (decide_eq_false hleI) ?_); (try simp only [Act.put, List.setIfInBounds_toArray, List.set_cons_zero, List.set_cons_succ]))
              | ((with_reducible refine at_sliceD 61 ?_); refine L_give (by rfl) (g_sl_h _ _ T V kk rfl rfl hkT hV.out ?_); (try simp only [Act.put, List.setIfInBounds_toArray, List.set_cons_zero, List.set_cons_succ]))
              | ((with_reducible refine at_callD 62 ?_); refine L_give (by rfl) (g_call 19 _ _ [.string (V)] (kf19 _ _) rfl ((hread_s V hz [] F wr hVs hR).mono ?_)); rintro e wr1 ⟨ao1, cap1, rfl, p_m, t_⟩; refine ⟨_, rfl, ?_⟩; replace b_h := b_h.below t_ b_h.lt; replace hB := hB.trans (t_.mono hB.size); clear t_; have hA1 : Below wr1.heap.size wr1 wr1 := Below.refl _ _; (try simp only [Act.put, List.setIfInBounds_toArray, List.set_cons_zero, List.set_cons_succ]))
              | ((with_reducible refine at_allocD 14 26 ?_); refine L_alloc 26 (hc (hz)) zeroH ?_; intro wr2 t_ b_g; have o_h_g := b_h.lt; have l_hB_g : _ ≤ wr1.heap.size := hB.size; have l_hA1_g : _ ≤ wr1.heap.size := hA1.size; replace b_h := t_.blk b_h (Nat.ne_of_lt b_h.lt); replace hB := t_.below hB l_hB_g; replace hA1 := t_.below hA1 l_hA1_g; clear t_; (try simp only [Act.put, List.setIfInBounds_toArray, List.set_cons_zero, List.set_cons_succ]))
              | ((with_reducible refine at_storeX 14 26 ?_); refine L_store_all 26 _ _ (wr1.heap.size) (hc (hz)) _ 26 rfl rfl b_g (szH hz) rfl (one_hc _) ?_; clear b_g; intro wr3 t_ b_g; replace b_h := t_.blk b_h (Nat.ne_of_lt o_h_g); replace hB := t_.below hB l_hB_g; replace hA1 := t_.below hA1 l_hA1_g; clear t_)
              | ((with_reducible refine at_binD 67 ?_); refine L_give (by rfl) (g_igeq 3 _ _ .i64 _ _ false rfl rfl (by decide) ?_); (try simp only [Act.put, List.setIfInBounds_toArray, List.set_cons_zero, List.set_cons_succ]))
              | ((with_reducible refine at_binD 83 ?_); refine L_give (by rfl) (g_ieq 28 _ _ .i64 _ _ true rfl rfl (decide_eq_true h5) ?_); (try simp only [Act.put, List.setIfInBounds_toArray, List.set_cons_zero, List.set_cons_succ]))
              | ((with_reducible refine at_binD 85 ?_); refine L_give (by rfl) (g_ilss 3 _ _ .i64 _ _ true rfl rfl (decide_eq_true h48) ?_); (try simp only [Act.put, List.setIfInBounds_toArray, List.set_cons_zero, List.set_cons_succ]))
              | ((with_reducible refine at_binD 86 ?_); refine L_give (by rfl) (g_beql _ _ _ _ rfl rfl ?_); (try simp only [Act.put, List.setIfInBounds_toArray, List.set_cons_zero, List.set_cons_succ]))
              | ((with_reducible refine at_binD 89 ?_); refine L_give (by rfl) (g_ine 28 _ _ .i64 _ _ true rfl rfl (decide_eq_true hF0) ?_); (try simp only [Act.put, List.setIfInBounds_toArray, List.set_cons_zero, List.set_cons_succ]))
              | ((with_reducible refine at_callD 93 ?_); refine L_give (by rfl) (g_fllen _ _ _ _ rfl ?_); (try simp only [Act.put, List.setIfInBounds_toArray, List.set_cons_zero, List.set_cons_succ]))
              | ((with_reducible refine at_binD 94 ?_); refine L_give (by rfl) (g_ieq 3 _ _ .i64 _ _ true rfl rfl (decide_eq_true rfl) ?_); (try simp only [Act.put, List.setIfInBounds_toArray, List.set_cons_zero, List.set_cons_succ])))
            go_ret
            exact ⟨rfl, hB⟩
          · have h48 : ¬ (kk : Int) < 48 := by intro q; exact h5 (h48i.2 (by omega))
            clear h48i h2 hce
            go_wp2_with (first
              | ((with_reducible refine at_binD 38 ?_); refine L_give (by rfl) (g_ileq 3 _ _ .i64 _ _ false rfl rfl (decide_eq_false hleI) ?_); (try simp only [Act.put, List.setIfInBounds_toArray, List.set_cons_zero, List.set_cons_succ]))
              | ((with_reducible refine at_sliceD 61 ?_); refine L_give (by rfl) (g_sl_h _ _ T V kk rfl rfl hkT hV.out ?_); (try simp only [Act.put, List.setIfInBounds_toArray, List.set_cons_zero, List.set_cons_succ]))
              | ((with_reducible refine at_callD 62 ?_); refine L_give (by rfl) (g_call 19 _ _ [.string (V)] (kf19 _ _) rfl ((hread_s V hz [] F wr hVs hR).mono ?_)); rintro e wr1 ⟨ao1, cap1, rfl, p_m, t_⟩; refine ⟨_, rfl, ?_⟩; replace b_h := b_h.below t_ b_h.lt; replace hB := hB.trans (t_.mono hB.size); clear t_; have hA1 : Below wr1.heap.size wr1 wr1 := Below.refl _ _; (try simp only [Act.put, List.setIfInBounds_toArray, List.set_cons_zero, List.set_cons_succ]))
              | ((with_reducible refine at_allocD 14 26 ?_); refine L_alloc 26 (hc (hz)) zeroH ?_; intro wr2 t_ b_g; have o_h_g := b_h.lt; have l_hB_g : _ ≤ wr1.heap.size := hB.size; have l_hA1_g : _ ≤ wr1.heap.size := hA1.size; replace b_h := t_.blk b_h (Nat.ne_of_lt b_h.lt); replace hB := t_.below hB l_hB_g; replace hA1 := t_.below hA1 l_hA1_g; clear t_; (try simp only [Act.put, List.setIfInBounds_toArray, List.set_cons_zero, List.set_cons_succ]))
              | ((with_reducible refine at_storeX 14 26 ?_); refine L_store_all 26 _ _ (wr1.heap.size) (hc (hz)) _ 26 rfl rfl b_g (szH hz) rfl (one_hc _) ?_; clear b_g; intro wr3 t_ b_g; replace b_h := t_.blk b_h (Nat.ne_of_lt o_h_g); replace hB := t_.below hB l_hB_g; replace hA1 := t_.below hA1 l_hA1_g; clear t_)
              | ((with_reducible refine at_binD 67 ?_); refine L_give (by rfl) (g_igeq 3 _ _ .i64 _ _ false rfl rfl (by decide) ?_); (try simp only [Act.put, List.setIfInBounds_toArray, List.set_cons_zero, List.set_cons_succ]))
              | ((with_reducible refine at_binD 83 ?_); refine L_give (by rfl) (g_ieq 28 _ _ .i64 _ _ false rfl rfl (decide_eq_false h5) ?_); (try simp only [Act.put, List.setIfInBounds_toArray, List.set_cons_zero, List.set_cons_succ]))
              | ((with_reducible refine at_binD 85 ?_); refine L_give (by rfl) (g_ilss 3 _ _ .i64 _ _ false rfl rfl (decide_eq_false h48) ?_); (try simp only [Act.put, List.setIfInBounds_toArray, List.set_cons_zero, List.set_cons_succ]))
              | ((with_reducible refine at_binD 86 ?_); refine L_give (by rfl) (g_beql _ _ _ _ rfl rfl ?_); (try simp only [Act.put, List.setIfInBounds_toArray, List.set_cons_zero, List.set_cons_succ]))
              | ((with_reducible refine at_binD 89 ?_); refine L_give (by rfl) (g_ine 28 _ _ .i64 _ _ true rfl rfl (decide_eq_true hF0) ?_); (try simp only [Act.put, List.setIfInBounds_toArray, List.set_cons_zero, List.set_cons_succ]))
              | ((with_reducible refine at_callD 93 ?_); refine L_give (by rfl) (g_fllen _ _ _ _ rfl ?_); (try simp only [Act.put, List.setIfInBounds_toArray, List.set_cons_zero, List.set_cons_succ]))
              | ((with_reducible refine at_binD 94 ?_); refine L_give (by rfl) (g_ieq 3 _ _ .i64 _ _ true rfl rfl (decide_eq_true rfl) ?_); (try simp only [Act.put, List.setIfInBounds_toArray, List.set_cons_zero, List.set_cons_succ])))
            go_ret
            exact ⟨rfl, hB⟩
        · obtain ⟨mj, hmj⟩ : ∃ mj, l.take j = mj := ⟨_, rfl⟩
          obtain rfl : j = mj.length := by rw [← hmj, List.length_take]; omega
          have hfj : Fis wr (.slice ao mj.length cap) mj := by have q := Fis.take (hf.below hB) mj.length h2 cap; rw [hmj] at q; exact q
          have hR : Hid (rdp V = (h, mj, 0)) := by show _ = _; rw [← hV.out, cut_ends h l T kk mj.length hi hW.out h4, hmj]
          have hR1 : Below wr.heap.size wr wr := Below.refl _ _
          clear hce h1 h4 hmj
          go_wp2_with (first
            | ((with_reducible refine at_binD 38 ?_); refine L_give (by rfl) (g_ileq 3 _ _ .i64 _ _ false rfl rfl (decide_eq_false hleI) ?_); (try simp only [Act.put, List.setIfInBounds_toArray, List.set_cons_zero, List.set_cons_succ]))
            | ((with_reducible refine at_sliceD 61 ?_); refine L_give (by rfl) (g_sl_h _ _ T V kk rfl rfl hkT hV.out ?_); (try simp only [Act.put, List.setIfInBounds_toArray, List.set_cons_zero, List.set_cons_succ]))
            | ((with_reducible refine at_callD 62 ?_); refine L_give (by rfl) (g_call 19 _ _ [.string (V)] (kf19 _ _) rfl ((hread_s V h mj 0 wr hVs hR).mono ?_)); rintro e wr1 ⟨ao1, cap1, rfl, p_m, t_⟩; refine ⟨_, rfl, ?_⟩; replace b_h := b_h.below t_ b_h.lt; replace hB := hB.trans (t_.mono hB.size); replace hR1 := hR1.trans (t_.mono hR1.size); clear t_; have hA2 : Below wr1.heap.size wr1 wr1 := Below.refl _ _; (try simp only [Act.put, List.setIfInBounds_toArray, List.set_cons_zero, List.set_cons_succ]))
            | ((with_reducible refine at_allocD 14 26 ?_); refine L_alloc 26 (hc (hz)) zeroH ?_; intro wr2 t_ b_g; have o_h_g := b_h.lt; have l_hB_g : _ ≤ wr1.heap.size := hB.size; have l_hR1_g : _ ≤ wr1.heap.size := hR1.size; have l_hA2_g : _ ≤ wr1.heap.size := hA2.size; replace b_h := t_.blk b_h (Nat.ne_of_lt b_h.lt); replace hB := t_.below hB l_hB_g; replace hR1 := t_.below hR1 l_hR1_g; replace hA2 := t_.below hA2 l_hA2_g; clear t_; (try simp only [Act.put, List.setIfInBounds_toArray, List.set_cons_zero, List.set_cons_succ]))
            | ((with_reducible refine at_storeX 14 26 ?_); refine L_store_all 26 _ _ (wr1.heap.size) (hc (h)) _ 26 rfl rfl b_g (szH hz) rfl (one_hc _) ?_; clear b_g; intro wr3 t_ b_g; replace b_h := t_.blk b_h (Nat.ne_of_lt o_h_g); replace hB := t_.below hB l_hB_g; replace hR1 := t_.below hR1 l_hR1_g; replace hA2 := t_.below hA2 l_hA2_g; clear t_)
            | ((with_reducible refine at_binD 67 ?_); refine L_give (by rfl) (g_igeq 3 _ _ .i64 _ _ true rfl rfl (decide_eq_true (by omega)) ?_); (try simp only [Act.put, List.setIfInBounds_toArray, List.set_cons_zero, List.set_cons_succ]))
            | ((with_reducible refine at_binD 69 ?_); refine L_give (by rfl) (g_ieq 28 _ _ .i64 _ _ true rfl rfl (by decide) ?_); (try simp only [Act.put, List.setIfInBounds_toArray, List.set_cons_zero, List.set_cons_succ]))
            | ((with_reducible refine at_loadD 71 26 ?_); refine L_give (by rfl) (g_load_all 26 _ (wr1.heap.size) (hc (h)) 26 _ rfl (b_g) Try.underlying26 rfl (szH hz) ?_); (try simp only [Act.put, List.setIfInBounds_toArray, List.set_cons_zero, List.set_cons_succ]))
            | ((with_reducible refine at_loadD 72 26 ?_); refine L_give (by rfl) (g_load_all 26 _ (w.heap.size) (hc h) 26 _ rfl (b_h) Try.underlying26 rfl (szH hz) ?_); (try simp only [Act.put, List.setIfInBounds_toArray, List.set_cons_zero, List.set_cons_succ]))
            | ((with_reducible refine at_binD 73 ?_); refine L_give (by rfl) (g_eqlH _ _ (h) rfl rfl ?_); (try simp only [Act.put, List.setIfInBounds_toArray, List.set_cons_zero, List.set_cons_succ]))
            | ((with_reducible refine at_sliceD 79 ?_); refine L_give (by rfl) (g_slF _ _ ao _ cap mj.length rfl rfl (by omega) ?_); (try simp only [Act.put, List.setIfInBounds_toArray, List.set_cons_zero, List.set_cons_succ]))
            | ((with_reducible refine at_callD 80 ?_); refine L_give (by rfl) (g_call 23 _ _ [.slice ao1 mj.length cap1, .slice ao mj.length cap] (kf23 _ _) rfl ((same_any mj ao1 ao cap1 cap wr3 (by omega) (p_m.below hA2) (hfj.below hR1)).mono ?_)); rintro e wr4 ⟨rfl, t_⟩; refine ⟨_, rfl, ?_⟩; replace b_h := b_h.below t_ b_h.lt; replace b_g := b_g.below t_ b_g.lt; replace hB := hB.trans (t_.mono hB.size); replace hR1 := hR1.trans (t_.mono hR1.size); replace hA2 := hA2.trans (t_.mono hA2.size); clear t_; (try simp only [Act.put, List.setIfInBounds_toArray, List.set_cons_zero, List.set_cons_succ])))
          go_ret
          exact ⟨rfl, hB⟩
theorem walk (h : Hd) (l : List (Int × ByteArray)) (ao : Option Addr) (cap : Nat) (x : Int) (w : World) (hi : InH h) (hn : l.length ≤ 140737488355328) (hf : Fis w (.slice ao l.length cap) l) (hcap : l.length ≤ cap) (hx : 0 ≤ x ∧ x < 65536) : Calls Try.prog 7 #[.agg (hc h).toArray, .slice ao l.length cap, .int .u16 x] w fun e w' => e = .returned (.bool true) ∧ Below w.heap.size w w' := by
  obtain ⟨T, E, hW⟩ : ∃ T E, wr h l = (T, E) := ⟨_, _, rfl⟩
  by_cases hE : E = 0
  · subst hE
    obtain ⟨a, b, c, d⟩ := wr_ok h l T hW
    have zl := Lib.size_eq T
    have le := flat_le l b
    rw [d, List.length_append, hb_length] at zl
    have e1 : IntKind.i64.wrap x = x := wrap_i64 _ (by omega) (by omega)
    have e2 : IntKind.i64.wrap (((T.size : Nat) : Int) + 1) = ((T.size : Nat) : Int) + 1 := wrap_i64 _ (by omega) (by omega)
    have e3 : x.tmod (((T.size : Nat) : Int) + 1) = x % (((T.size : Nat) : Int) + 1) := Int.tmod_eq_emod_of_nonneg hx.1
    have e4 := Int.emod_nonneg x (show (((T.size : Nat) : Int) + 1) ≠ 0 by omega)
    have e5 := Int.emod_lt_of_pos x (show 0 < (((T.size : Nat) : Int) + 1) by omega)
    exact walk2 h l ao cap x w hi hn hf hcap hx T (x % (((T.size : Nat) : Int) + 1)).toNat _ hW e1 e2 (by omega) (by show _ = _; rw [e3]; omega) (by omega) (by omega) c
  · exact walk1 h l ao cap x w hi hn hf hcap hx T E hE hW
end Go.Proofs.Yteieacamokoejaa.headCuts
