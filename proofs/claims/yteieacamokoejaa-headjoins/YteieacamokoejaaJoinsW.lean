/- HeadJoins: the walk. -/
import Derived.Test.YteieacamokoejaaLawB
namespace Go.Proofs.Yteieacamokoejaa.headJoins
open Go Go.RowKit
set_option linter.unusedVariables false
set_option linter.unusedSimpArgs false

theorem fis_cells {w : World} {a : Addr} {cap : Nat} {l : List (Int × ByteArray)} (h : Fis w (.slice (some a) l.length cap) l) : ∀ (j : Nat) (u : Value), (l.flatMap fc)[j]? = some u → w.cell? (a.add j) = some u := by
  intro j u hu
  have hj : j < l.length * 2 := by
    have := (List.getElem?_eq_some_iff.1 hu).1
    rw [flat_len] at this; exact this
  obtain ⟨ao, cap', hv, hc⟩ := h
  obtain rfl : ao = some a := by injection hv with hv; exact hv.symm
  obtain ⟨b, o, e1, e2, e3⟩ := hc (j / 2) (by omega)
  obtain rfl : a = ⟨b, o, none⟩ := Option.some.inj e1
  obtain ⟨f1, f2⟩ := flat_at l (j / 2) (by omega)
  rw [Addr.add_mid]
  by_cases hp : j % 2 = 0
  · have e : j / 2 * 2 = j := by omega
    rw [e] at e2 f1
    rw [e2]; rw [f1] at hu; exact hu
  · have e : j / 2 * 2 + 1 = j := by omega
    rw [Nat.add_assoc, e] at e3
    rw [e] at f2
    rw [e3]; rw [f2] at hu; exact hu
section
variable {P : Program} {ops : Array Oper} {rest : List Oper} {a : Act} {w : World} {Q : Exit → Act → World → Prop} {dst : Option Tmp} {ty yt : TypeId} {pos : String} {aft : Array Edge} {gd : Option (Nat × Bool)} {K : Value → World → Prop}
theorem g_appL (x y : Operand) (B : Nat) (v : Value) (l : List (Int × ByteArray)) (ao : Option Addr) (cap : Nat) (hx : a.eval x = v) (hy : a.eval y = .slice ao l.length cap) (ho : OF B w v []) (hf : Fis w (.slice ao l.length cap) l) (hz : ao = none → cap = 0) (hl : l.length ≤ 1000) (hB : B ≤ w.heap.size)
    (hk : ∀ v' w', OF B w' v' l → w.grownBy w' v.ownBlock → K v' w') : gives Try.prog ⟨dst, .call { callee := .builtin .append, args := #[x, y], argTypes := #[35, 35] }, ty, pos, aft, gd⟩ a w K := by
  obtain ⟨i0, hi, hz0, hz1, hz2⟩ := info_parts infoF
  cases ao with
  | none =>
    have hl0 : l = [] := by
      cases l with
      | nil => rfl
      | cons f l =>
        obtain ⟨ao, cap', hv, hc⟩ := hf
        obtain ⟨b, o, e1, _⟩ := hc 0 (by simp)
        obtain rfl : ao = none := by injection hv with hv; exact hv.symm
        cases e1
    subst hl0
    obtain rfl := hz rfl
    have hr := run_append_owned_none (P := Try.prog) w B 35 ty 48 i0 2 Try.underlying35 hi v 0 [] ho
    unfold gives
    simp only [execOp, resolve, invoke, builtin, List.map_toArray, List.map_cons, List.map_nil, hx, hy, Sem.run_bind, Sem.run_pure, Result.andThen_ok, List.length_nil, hr]
    exact hk v w ho ⟨rfl, rfl, rfl, Nat.le_refl _, fun _ _ _ => rfl⟩
  | some ad =>
    obtain ⟨v', w', hr, h2, h3, h4⟩ := run_append_own (P := Try.prog) w B 35 ty 48 i0 _ 2 24 Try.underlying35 hi hz0 hz1 hz2 rfl (by decide) v 0 [] ho ad l.length cap (l.flatMap fc) (flat_len l)
      (fis_cells hf) (fun u hu => by obtain ⟨f, _, hu⟩ := List.mem_flatMap.1 hu; exact one_fc f u hu) (by unfold maxLen; omega) (by omega) hB
    unfold gives
    simp only [execOp, resolve, invoke, builtin, List.map_toArray, List.map_cons, List.map_nil, hx, hy, Sem.run_bind, Sem.run_pure, Result.andThen_ok, hr]
    refine hk v' w' ?_ h3
    unfold OF
    simpa using h2
end
theorem of_mono {B B' : Nat} {w : World} {v : Value} {l : List (Int × ByteArray)} (h : OF B w v l) (hb : B' ≤ B) : OF B' w v l := by
  refine ⟨h.1, ?_⟩
  rcases h.2 with h0 | ⟨g, cap, cur, h1, h2, h3⟩
  · exact .inl h0
  · exact .inr ⟨g, cap, cur, h1, Nat.le_trans hb h2, h3⟩
theorem join_bad (h : Hd) (l : List (Int × ByteArray)) (f : Int × ByteArray) (A C : ByteArray) (E I : Int) (hl : l.length ≤ 15) (hA : wr h l = (A, E)) (hC : wr h [f] = (C, I)) (hE : E ≠ 0 ∨ I ≠ 0) : wr h (l ++ [f]) = (ByteArray.empty, 2) := by
  by_cases hm : may h = true
  · by_cases ha : ∀ g ∈ l, FMays g
    · by_cases hf : FMays f
      · exfalso
        rw [wr_mk h l hm ha (by omega)] at hA
        rw [wr_mk h [f] hm (fun g hg => by rw [List.mem_singleton.1 hg]; exact hf) (by simp)] at hC
        have e1 := (Prod.mk.inj hA).2
        have e2 := (Prod.mk.inj hC).2
        rcases hE with hE | hE
        · exact hE e1.symm
        · exact hE e2.symm
      · unfold wr
        rw [if_pos hm, if_neg (fun q => hf ((all_fmay _).1 q f (by simp)))]
    · unfold wr
      rw [if_pos hm, if_neg (fun q => ha (fun g hg => (all_fmay _).1 q g (by simp [hg])))]
  · unfold wr
    rw [if_neg hm]
theorem join_ok (h : Hd) (l : List (Int × ByteArray)) (f : Int × ByteArray) (A C : ByteArray) (hl : l.length ≤ 15) (hA : wr h l = (A, 0)) (hC : wr h [f] = (C, 0)) : wr h (l ++ [f]) = (A ++ C.extract 48 C.size, 0) ∧ 48 ≤ C.size ∧ C.size ≤ 2000 ∧ A.size ≤ 20000 := by
  obtain ⟨a, b, c, d⟩ := wr_ok h l A hA
  obtain ⟨a2, b2, c2, d2⟩ := wr_ok h [f] C hC
  have hf := b2 f (by simp)
  have lb := hb_length h
  have zA := Lib.size_eq A
  have zC := Lib.size_eq C
  have e1 := fb_le f
  have e2 := hf.2
  have e3 := flat_le l b
  rw [d, List.length_append] at zA
  have d3 : C.data.toList = hb h ++ fb f := by rw [d2]; simp
  rw [d3, List.length_append] at zC
  refine ⟨?_, by omega, by omega, by omega⟩
  rw [wr_mk h (l ++ [f]) a (fun g hg => by rcases List.mem_append.1 hg with hg | hg; exact b g hg; exact b2 g hg) (by simp; omega)]
  congr 1
  apply ByteArray.ext; apply Array.toList_inj.1
  have z : ∀ l : List UInt8, (⟨l.toArray⟩ : ByteArray).data.toList = l := fun l => by simp
  rw [z, list_app, d, ext_list, d3, List.drop_left' lb, List.take_of_length_le (by omega), List.flatMap_append, List.append_assoc]
  simp
set_option maxRecDepth 10000 in
set_option maxHeartbeats 4000000 in
theorem walk1 (h : Hd) (l : List (Int × ByteArray)) (ao : Option Addr) (cap : Nat) (f : Int × ByteArray) (w : World) (hi : InH h) (hn : l.length ≤ 140737488355328) (hf : Fis w (.slice ao l.length cap) l) (hcap : l.length ≤ cap) (hz0 : ao = none → cap = 0) (hfk : In64 f.1) (hl : (2048 : Int) < ((f.2.size : Nat) : Int)) : Calls Try.prog 9 #[.agg (hc h).toArray, .slice ao l.length cap, .agg (fc f).toArray] w fun e w' => e = .returned (.bool true) ∧ Below w.heap.size w w' := by
  go_enter Try.func9, Try.ntmps9
  go_wp2_with (first
    | ((with_reducible refine at_boxD 3 26 ?_); refine L_box 26 _ (hc (h)) rfl ?_; intro w1 t_ b_h; have l_hB_h : w.heap.size ≤ w.heap.size := Nat.le_refl _; have hB : Below w.heap.size w w1 := t_.below (Below.refl _ _) (Nat.le_refl _); clear t_; (try simp only [Act.put, List.setIfInBounds_toArray, List.set_cons_zero, List.set_cons_succ]))
    | ((with_reducible refine at_boxD 5 48 ?_); refine L_box 48 _ (fc (f)) rfl ?_; intro w2 t_ b_f; have o_h_f := b_h.lt; have l_hB_f : _ ≤ w1.heap.size := hB.size; replace b_h := t_.blk b_h (Nat.ne_of_lt b_h.lt); replace hB := t_.below hB l_hB_f; clear t_; (try simp only [Act.put, List.setIfInBounds_toArray, List.set_cons_zero, List.set_cons_succ]))
    | ((with_reducible refine at_callD 13 ?_); refine L_give (by rfl) (g_call 11 _ _ [] (kf11 _ _) rfl ((awake_any w2).mono ?_)); rintro e w3 ⟨rfl, t_⟩; refine ⟨_, rfl, ?_⟩; replace b_h := b_h.below t_ b_h.lt; replace b_f := b_f.below t_ b_f.lt; replace hB := hB.trans (t_.mono hB.size); clear t_; (try simp only [Act.put, List.setIfInBounds_toArray, List.set_cons_zero, List.set_cons_succ]))
    | (refine stop_list 16 ?_; intro X hX))
  refine hX.out ?_
  clear hX X
  refine L_give (by rfl) (g_call 18 _ _ [.slice ao l.length cap] (kf18 _ _) rfl ((large_any l ao cap w3 hn (hf.below hB)).mono ?_))
  rintro e w4 ⟨rfl | rfl, t_⟩
  · refine ⟨_, rfl, ?_⟩
    replace b_h := b_h.below t_ b_h.lt
    replace b_f := b_f.below t_ b_f.lt
    replace hB := hB.trans (t_.mono hB.size)
    clear t_
    (try simp only [Act.put, List.setIfInBounds_toArray, List.set_cons_zero, List.set_cons_succ])
    go_wp2
    go_ret
    exact ⟨rfl, hB⟩
  · refine ⟨_, rfl, ?_⟩
    replace b_h := b_h.below t_ b_h.lt
    replace b_f := b_f.below t_ b_f.lt
    replace hB := hB.trans (t_.mono hB.size)
    clear t_
    (try simp only [Act.put, List.setIfInBounds_toArray, List.set_cons_zero, List.set_cons_succ])
    go_wp2_with (first
      | ((with_reducible refine at_loadD 19 9 ?_); refine L_give (by rfl) (g_cell9 _ (w1.heap.size) 1 _ rfl ((b_f).cell 1 _ rfl) ?_); (try simp only [Act.put, List.setIfInBounds_toArray, List.set_cons_zero, List.set_cons_succ]))
      | ((with_reducible refine at_callD 20 ?_); refine L_give (by rfl) (g_slen _ _ _ rfl rfl ?_); (try simp only [Act.put, List.setIfInBounds_toArray, List.set_cons_zero, List.set_cons_succ]))
      | ((with_reducible refine at_binD 21 ?_); refine L_give (by rfl) (g_igtr 3 _ _ .i64 _ _ true rfl rfl (decide_eq_true hl) ?_); (try simp only [Act.put, List.setIfInBounds_toArray, List.set_cons_zero, List.set_cons_succ])))
    go_ret
    exact ⟨rfl, hB⟩
set_option maxRecDepth 10000 in
set_option maxHeartbeats 4000000 in
theorem walk2 (h : Hd) (l : List (Int × ByteArray)) (ao : Option Addr) (cap : Nat) (f : Int × ByteArray) (w : World) (hi : InH h) (hn : l.length ≤ 140737488355328) (hf : Fis w (.slice ao l.length cap) l) (hcap : l.length ≤ cap) (hz0 : ao = none → cap = 0) (hfk : In64 f.1) (hl : ¬ (2048 : Int) < ((f.2.size : Nat) : Int)) (hl2 : (15 : Int) < ((l.length : Nat) : Int)) : Calls Try.prog 9 #[.agg (hc h).toArray, .slice ao l.length cap, .agg (fc f).toArray] w fun e w' => e = .returned (.bool true) ∧ Below w.heap.size w w' := by
  go_enter Try.func9, Try.ntmps9
  go_wp2_with (first
    | ((with_reducible refine at_boxD 3 26 ?_); refine L_box 26 _ (hc (h)) rfl ?_; intro w1 t_ b_h; have l_hB_h : w.heap.size ≤ w.heap.size := Nat.le_refl _; have hB : Below w.heap.size w w1 := t_.below (Below.refl _ _) (Nat.le_refl _); clear t_; (try simp only [Act.put, List.setIfInBounds_toArray, List.set_cons_zero, List.set_cons_succ]))
    | ((with_reducible refine at_boxD 5 48 ?_); refine L_box 48 _ (fc (f)) rfl ?_; intro w2 t_ b_f; have o_h_f := b_h.lt; have l_hB_f : _ ≤ w1.heap.size := hB.size; replace b_h := t_.blk b_h (Nat.ne_of_lt b_h.lt); replace hB := t_.below hB l_hB_f; clear t_; (try simp only [Act.put, List.setIfInBounds_toArray, List.set_cons_zero, List.set_cons_succ]))
    | ((with_reducible refine at_callD 13 ?_); refine L_give (by rfl) (g_call 11 _ _ [] (kf11 _ _) rfl ((awake_any w2).mono ?_)); rintro e w3 ⟨rfl, t_⟩; refine ⟨_, rfl, ?_⟩; replace b_h := b_h.below t_ b_h.lt; replace b_f := b_f.below t_ b_f.lt; replace hB := hB.trans (t_.mono hB.size); clear t_; (try simp only [Act.put, List.setIfInBounds_toArray, List.set_cons_zero, List.set_cons_succ]))
    | (refine stop_list 16 ?_; intro X hX))
  refine hX.out ?_
  clear hX X
  refine L_give (by rfl) (g_call 18 _ _ [.slice ao l.length cap] (kf18 _ _) rfl ((large_any l ao cap w3 hn (hf.below hB)).mono ?_))
  rintro e w4 ⟨rfl | rfl, t_⟩
  · refine ⟨_, rfl, ?_⟩
    replace b_h := b_h.below t_ b_h.lt
    replace b_f := b_f.below t_ b_f.lt
    replace hB := hB.trans (t_.mono hB.size)
    clear t_
    (try simp only [Act.put, List.setIfInBounds_toArray, List.set_cons_zero, List.set_cons_succ])
    go_wp2
    go_ret
    exact ⟨rfl, hB⟩
  · refine ⟨_, rfl, ?_⟩
    replace b_h := b_h.below t_ b_h.lt
    replace b_f := b_f.below t_ b_f.lt
    replace hB := hB.trans (t_.mono hB.size)
    clear t_
    (try simp only [Act.put, List.setIfInBounds_toArray, List.set_cons_zero, List.set_cons_succ])
    go_wp2_with (first
      | ((with_reducible refine at_loadD 19 9 ?_); refine L_give (by rfl) (g_cell9 _ (w1.heap.size) 1 _ rfl ((b_f).cell 1 _ rfl) ?_); (try simp only [Act.put, List.setIfInBounds_toArray, List.set_cons_zero, List.set_cons_succ]))
      | ((with_reducible refine at_callD 20 ?_); refine L_give (by rfl) (g_slen _ _ _ rfl rfl ?_); (try simp only [Act.put, List.setIfInBounds_toArray, List.set_cons_zero, List.set_cons_succ]))
      | ((with_reducible refine at_binD 21 ?_); refine L_give (by rfl) (g_igtr 3 _ _ .i64 _ _ false rfl rfl (decide_eq_false hl) ?_); (try simp only [Act.put, List.setIfInBounds_toArray, List.set_cons_zero, List.set_cons_succ]))
      | ((with_reducible refine at_callD 25 ?_); refine L_give (by rfl) (g_fllen _ _ _ _ rfl ?_); (try simp only [Act.put, List.setIfInBounds_toArray, List.set_cons_zero, List.set_cons_succ]))
      | ((with_reducible refine at_binD 26 ?_); refine L_give (by rfl) (g_igtr 3 _ _ .i64 _ _ true rfl rfl (decide_eq_true hl2) ?_); (try simp only [Act.put, List.setIfInBounds_toArray, List.set_cons_zero, List.set_cons_succ])))
    go_ret
    exact ⟨rfl, hB⟩
set_option maxRecDepth 10000 in
set_option maxHeartbeats 4000000 in
theorem walk3 (h : Hd) (l : List (Int × ByteArray)) (ao : Option Addr) (cap : Nat) (f : Int × ByteArray) (w : World) (hi : InH h) (hn : l.length ≤ 140737488355328) (hf : Fis w (.slice ao l.length cap) l) (hcap : l.length ≤ cap) (hz0 : ao = none → cap = 0) (hfk : In64 f.1) (hl : ¬ (2048 : Int) < ((f.2.size : Nat) : Int)) (hl2 : ¬ (15 : Int) < ((l.length : Nat) : Int)) (A C : ByteArray) (E I : Int) (hA : Hid (wr h l = (A, E))) (hC1 : Hid (wr h [f] = (C, I))) (hE : E ≠ 0) (hJ : Hid (wr h (l ++ [f]) = (ByteArray.empty, 2))) : Calls Try.prog 9 #[.agg (hc h).toArray, .slice ao l.length cap, .agg (fc f).toArray] w fun e w' => e = .returned (.bool true) ∧ Below w.heap.size w w' := by
  have hn1 : Hid ([f].length ≤ 140737488355328) := by show 1 ≤ 140737488355328; omega
  go_enter Try.func9, Try.ntmps9
  go_wp2_with (first
    | ((with_reducible refine at_boxD 3 26 ?_); refine L_box 26 _ (hc (h)) rfl ?_; intro w1 t_ b_h; have l_hB_h : w.heap.size ≤ w.heap.size := Nat.le_refl _; have hB : Below w.heap.size w w1 := t_.below (Below.refl _ _) (Nat.le_refl _); clear t_; (try simp only [Act.put, List.setIfInBounds_toArray, List.set_cons_zero, List.set_cons_succ]))
    | ((with_reducible refine at_boxD 5 48 ?_); refine L_box 48 _ (fc (f)) rfl ?_; intro w2 t_ b_f; have o_h_f := b_h.lt; have l_hB_f : _ ≤ w1.heap.size := hB.size; replace b_h := t_.blk b_h (Nat.ne_of_lt b_h.lt); replace hB := t_.below hB l_hB_f; clear t_; (try simp only [Act.put, List.setIfInBounds_toArray, List.set_cons_zero, List.set_cons_succ]))
    | ((with_reducible refine at_callD 13 ?_); refine L_give (by rfl) (g_call 11 _ _ [] (kf11 _ _) rfl ((awake_any w2).mono ?_)); rintro e w3 ⟨rfl, t_⟩; refine ⟨_, rfl, ?_⟩; replace b_h := b_h.below t_ b_h.lt; replace b_f := b_f.below t_ b_f.lt; replace hB := hB.trans (t_.mono hB.size); clear t_; (try simp only [Act.put, List.setIfInBounds_toArray, List.set_cons_zero, List.set_cons_succ]))
    | (refine stop_list 16 ?_; intro X hX))
  refine hX.out ?_
  clear hX X
  refine L_give (by rfl) (g_call 18 _ _ [.slice ao l.length cap] (kf18 _ _) rfl ((large_any l ao cap w3 hn (hf.below hB)).mono ?_))
  rintro e w4 ⟨rfl | rfl, t_⟩
  · refine ⟨_, rfl, ?_⟩
    replace b_h := b_h.below t_ b_h.lt
    replace b_f := b_f.below t_ b_f.lt
    replace hB := hB.trans (t_.mono hB.size)
    clear t_
    (try simp only [Act.put, List.setIfInBounds_toArray, List.set_cons_zero, List.set_cons_succ])
    go_wp2
    go_ret
    exact ⟨rfl, hB⟩
  · refine ⟨_, rfl, ?_⟩
    replace b_h := b_h.below t_ b_h.lt
    replace b_f := b_f.below t_ b_f.lt
    replace hB := hB.trans (t_.mono hB.size)
    clear t_
    (try simp only [Act.put, List.setIfInBounds_toArray, List.set_cons_zero, List.set_cons_succ])
    go_wp2_with (first
      | ((with_reducible refine at_loadD 19 9 ?_); refine L_give (by rfl) (g_cell9 _ (w1.heap.size) 1 _ rfl ((b_f).cell 1 _ rfl) ?_); (try simp only [Act.put, List.setIfInBounds_toArray, List.set_cons_zero, List.set_cons_succ]))
      | ((with_reducible refine at_callD 20 ?_); refine L_give (by rfl) (g_slen _ _ _ rfl rfl ?_); (try simp only [Act.put, List.setIfInBounds_toArray, List.set_cons_zero, List.set_cons_succ]))
      | ((with_reducible refine at_binD 21 ?_); refine L_give (by rfl) (g_igtr 3 _ _ .i64 _ _ false rfl rfl (decide_eq_false hl) ?_); (try simp only [Act.put, List.setIfInBounds_toArray, List.set_cons_zero, List.set_cons_succ]))
      | ((with_reducible refine at_callD 25 ?_); refine L_give (by rfl) (g_fllen _ _ _ _ rfl ?_); (try simp only [Act.put, List.setIfInBounds_toArray, List.set_cons_zero, List.set_cons_succ]))
      | ((with_reducible refine at_binD 26 ?_); refine L_give (by rfl) (g_igtr 3 _ _ .i64 _ _ false rfl rfl (decide_eq_false hl2) ?_); (try simp only [Act.put, List.setIfInBounds_toArray, List.set_cons_zero, List.set_cons_succ]))
      | ((with_reducible refine at_loadD 29 26 ?_); refine L_give (by rfl) (g_load_all 26 _ (w.heap.size) (hc (h)) 26 _ rfl (b_h) Try.underlying26 rfl (szH hz) ?_); (try simp only [Act.put, List.setIfInBounds_toArray, List.set_cons_zero, List.set_cons_succ]))
      | ((with_reducible refine at_callD 31 ?_); refine L_give (by rfl) (g_call 21 _ _ [.agg (hc (h)).toArray, .slice ao l.length cap] (kf21 _ _) rfl ((hwrite_any h l ao cap w4 hi hn (hf.below hB) A E hA).mono ?_)); rintro e w5 ⟨rfl, t_⟩; refine ⟨_, rfl, ?_⟩; replace b_h := b_h.below t_ b_h.lt; replace b_f := b_f.below t_ b_f.lt; replace hB := hB.trans (t_.mono hB.size); clear t_; (try simp only [Act.put, List.setIfInBounds_toArray, List.set_cons_zero, List.set_cons_succ]))
      | (refine stop_region 6 ?_; intro X hX))
    refine hX.out ?_
    clear hX X
    obtain ⟨B0, hB0⟩ : ∃ B0, w5.heap.size = B0 := ⟨_, rfl⟩
    have B_h : w.heap.size < B0 := by rw [← hB0]; exact b_h.lt
    have B_f : w1.heap.size < B0 := by rw [← hB0]; exact b_f.lt
    have B_w : w.heap.size ≤ B0 := by rw [← hB0]; exact hB.size
    have B_0 : B0 ≤ w5.heap.size := by rw [← hB0]; exact Nat.le_refl _
    clear hB0
    obtain ⟨lf, hlf⟩ : ∃ lf, Hid (l ++ [f] = lf) := ⟨_, rfl⟩
    have hlfl : Hid (lf.length ≤ 140737488355328) := by show _ ≤ _; rw [← hlf.out, List.length_append, List.length_singleton]; omega
    rw [hlf.out] at hJ
    refine wp_region_inv (by kernel_rfl) (by kernel_rfl) (fun t v wx => Below w.heap.size w wx ∧ Blk wx (w.heap.size) (hc h) 26 ∧ Blk wx (w1.heap.size) (fc f) 48 ∧ B0 ≤ wx.heap.size ∧ (t 0 = true → v 0 = .agg (hc h).toArray) ∧ (t 1 = true → t 3 = false → OF B0 wx (v 1) []) ∧ (t 2 = true → v 2 = .slice ao l.length cap) ∧ (t 3 = true → t 6 = false → OF B0 wx (v 3) l) ∧ (t 4 = true → v 4 = .agg (fc f).toArray) ∧ (t 5 = true → t 6 = false → ∃ p, v 5 = .slice (some ⟨p, 0, none⟩) 1 1 ∧ Blk wx p (fc f) 48 ∧ (t 1 = true → t 3 = false → (v 1).ownBlock ≠ some p)) ∧ (t 6 = true → OF B0 wx (v 6) lf) ∧ (t 7 = true → v 7 = .tuple #[.string ByteArray.empty, .int .i64 2]) ∧ (t 8 = true → v 8 = .tuple #[.string ByteArray.empty, .int .i64 2]) ∧ (t 9 = true → v 9 = .string ByteArray.empty) ∧ (t 10 = true → v 10 = .int .i64 2) ∧ (t 11 = true → v 11 = .string ByteArray.empty) ∧ (t 12 = true → v 12 = .int .i64 2) ∧ (t 3 = true → t 1 = true) ∧ (t 6 = true → t 3 = true) ∧ (t 6 = true → t 5 = true)) ?_ ?_ ?_
    · exact ⟨hB.drew, b_h.drew, b_f.drew, B_0, (fun h => by cases h), (fun h => by cases h), (fun h => by cases h), (fun h => by cases h), (fun h => by cases h), (fun h => by cases h), (fun h => by cases h), (fun h => by cases h), (fun h => by cases h), (fun h => by cases h), (fun h => by cases h), (fun h => by cases h), (fun h => by cases h), (fun h => by cases h), (fun h => by cases h), (fun h => by cases h)⟩
    · simp only [full, Act.put, List.setIfInBounds_toArray, List.set_cons_succ, List.set_cons_zero, Nat.zero_add, Nat.reduceAdd]
      intro i o ho t v wx hSS hti hall
      obtain ⟨hC, q_h, q_f, hS, k0, k1, k2, k3, k4, k5, k6, k7, k8, k9, k10, k11, k12, m3, m63, m65⟩ := hSS
      rcases i with _ | _ | _ | _ | _ | _ | _ | _ | _ | _ | _ | _ | _ | i
      · obtain rfl := Option.some.inj ho
        exact g_load_all 26 _ (w.heap.size) (hc h) 26 _ rfl q_h Try.underlying26 rfl (szH hz) ⟨hC, q_h, q_f, hS, newE rfl, (fun h h2 => by rw [setB_other _ _ _ (by decide)] at h h2; rw [setV_other _ _ _ _ (by decide)]; exact k1 h h2), keepE (by decide) k2, (fun h h2 => by rw [setB_other _ _ _ (by decide)] at h h2; rw [setV_other _ _ _ _ (by decide)]; exact k3 h h2), keepE (by decide) k4, (fun h h2 => by rw [setB_other _ _ _ (by decide)] at h h2; obtain ⟨p, e1, e2, e3⟩ := k5 h h2; refine ⟨p, by rw [setV_other _ _ _ _ (by decide)]; exact e1, e2, fun h4 h5 => ?_⟩; rw [setB_other _ _ _ (by decide)] at h4 h5; rw [setV_other _ _ _ _ (by decide)]; exact e3 h4 h5), (fun h => by rw [setB_other _ _ _ (by decide)] at h; rw [setV_other _ _ _ _ (by decide)]; exact k6 h), keepE (by decide) k7, keepE (by decide) k8, keepE (by decide) k9, keepE (by decide) k10, keepE (by decide) k11, keepE (by decide) k12, (fun h => by rw [setB_other _ _ _ (by decide)] at h ⊢; exact m3 h), (fun h => by rw [setB_other _ _ _ (by decide)] at h ⊢; exact m63 h), (fun h => by rw [setB_other _ _ _ (by decide)] at h ⊢; exact m65 h)⟩
      · obtain rfl := Option.some.inj ho
        refine g_bsl0 (fun w' t_ hO2 => ?_)
        have hb := t_.toBelow
        exact ⟨hC.trans (hb.mono hC.size), q_h.below hb q_h.lt, q_f.below hb q_f.lt, Nat.le_trans hS hb.size, keepE (by decide) k0, (fun _ _ => by rw [setV_self]; exact of_mono hO2 hS), keepE (by decide) k2, (fun h h2 => by rw [setB_other _ _ _ (by decide)] at h h2; rw [setV_other _ _ _ _ (by decide)]; exact (k3 h h2).below hb), keepE (by decide) k4, (fun h h2 => by rw [setB_other _ _ _ (by decide)] at h h2; obtain ⟨p, e1, e2, e3⟩ := k5 h h2; refine ⟨p, by rw [setV_other _ _ _ _ (by decide)]; exact e1, e2.below hb e2.lt, fun _ _ => ?_⟩; rw [setV_self]; intro e; have e9 : wx.heap.size = p := Option.some.inj e; have := e2.lt; omega), (fun h => by rw [setB_other _ _ _ (by decide)] at h; rw [setV_other _ _ _ _ (by decide)]; exact (k6 h).below hb), keepE (by decide) k7, keepE (by decide) k8, keepE (by decide) k9, keepE (by decide) k10, keepE (by decide) k11, keepE (by decide) k12, (fun _ => setB_self _ _), (fun h => by rw [setB_other _ _ _ (by decide)] at h ⊢; exact m63 h), (fun h => by rw [setB_other _ _ _ (by decide)] at h ⊢; exact m65 h)⟩
      · obtain rfl := Option.some.inj ho
        exact g_move _ _ rfl ⟨hC, q_h, q_f, hS, keepE (by decide) k0, (fun h h2 => by rw [setB_other _ _ _ (by decide)] at h h2; rw [setV_other _ _ _ _ (by decide)]; exact k1 h h2), newE rfl, (fun h h2 => by rw [setB_other _ _ _ (by decide)] at h h2; rw [setV_other _ _ _ _ (by decide)]; exact k3 h h2), keepE (by decide) k4, (fun h h2 => by rw [setB_other _ _ _ (by decide)] at h h2; obtain ⟨p, e1, e2, e3⟩ := k5 h h2; refine ⟨p, by rw [setV_other _ _ _ _ (by decide)]; exact e1, e2, fun h4 h5 => ?_⟩; rw [setB_other _ _ _ (by decide)] at h4 h5; rw [setV_other _ _ _ _ (by decide)]; exact e3 h4 h5), (fun h => by rw [setB_other _ _ _ (by decide)] at h; rw [setV_other _ _ _ _ (by decide)]; exact k6 h), keepE (by decide) k7, keepE (by decide) k8, keepE (by decide) k9, keepE (by decide) k10, keepE (by decide) k11, keepE (by decide) k12, (fun h => by rw [setB_other _ _ _ (by decide)] at h ⊢; exact m3 h), (fun h => by rw [setB_other _ _ _ (by decide)] at h ⊢; exact m63 h), (fun h => by rw [setB_other _ _ _ (by decide)] at h ⊢; exact m65 h)⟩
      · obtain rfl := Option.some.inj ho
        have h1t := hall ⟨1, .data⟩ (by simp) rfl
        have d2 := k2 (hall ⟨2, .data⟩ (by simp) rfl)
        have hO_ := k1 h1t hti
        refine g_appL _ _ B0 (v 1) l ao cap rfl (show v 2 = _ from d2) hO_ (hf.below hC) hz0 (by omega) hS (fun v' w' hO2 hg => ?_)
        exact ⟨hC.grown hg hC.size (fun q hq => Nat.le_trans B_w (hO_.lt q hq).1), blk_grown q_h hg hO_ B_h, blk_grown q_f hg hO_ B_f, Nat.le_trans hS hg.size, keepE (by decide) k0, (fun _ h => by rw [setB_self] at h; cases h), keepE (by decide) k2, (fun _ _ => by rw [setV_self]; exact hO2), keepE (by decide) k4, (fun h h2 => by rw [setB_other _ _ _ (by decide)] at h h2; obtain ⟨p, e1, e2, e3⟩ := k5 h h2; refine ⟨p, by rw [setV_other _ _ _ _ (by decide)]; exact e1, ?_, fun _ h4 => by rw [setB_self] at h4; cases h4⟩; have e9 := hg.block p e2.lt (fun e => e3 h1t hti e.symm); unfold Blk at *; rw [e9]; exact e2), (fun h => by rw [setB_other _ _ _ (by decide)] at h; have := m63 h; rw [hti] at this; cases this), keepE (by decide) k7, keepE (by decide) k8, keepE (by decide) k9, keepE (by decide) k10, keepE (by decide) k11, keepE (by decide) k12, (fun _ => by rw [setB_other _ _ _ (by decide)]; exact h1t), (fun _ => setB_self _ _), (fun h => by rw [setB_other _ _ _ (by decide)] at h ⊢; exact m65 h)⟩
      · obtain rfl := Option.some.inj ho
        exact g_load_all 48 _ (w1.heap.size) (fc f) 48 _ rfl q_f Try.underlying48 rfl (szF fz) ⟨hC, q_h, q_f, hS, keepE (by decide) k0, (fun h h2 => by rw [setB_other _ _ _ (by decide)] at h h2; rw [setV_other _ _ _ _ (by decide)]; exact k1 h h2), keepE (by decide) k2, (fun h h2 => by rw [setB_other _ _ _ (by decide)] at h h2; rw [setV_other _ _ _ _ (by decide)]; exact k3 h h2), newE rfl, (fun h h2 => by rw [setB_other _ _ _ (by decide)] at h h2; obtain ⟨p, e1, e2, e3⟩ := k5 h h2; refine ⟨p, by rw [setV_other _ _ _ _ (by decide)]; exact e1, e2, fun h4 h5 => ?_⟩; rw [setB_other _ _ _ (by decide)] at h4 h5; rw [setV_other _ _ _ _ (by decide)]; exact e3 h4 h5), (fun h => by rw [setB_other _ _ _ (by decide)] at h; rw [setV_other _ _ _ _ (by decide)]; exact k6 h), keepE (by decide) k7, keepE (by decide) k8, keepE (by decide) k9, keepE (by decide) k10, keepE (by decide) k11, keepE (by decide) k12, (fun h => by rw [setB_other _ _ _ (by decide)] at h ⊢; exact m3 h), (fun h => by rw [setB_other _ _ _ (by decide)] at h ⊢; exact m63 h), (fun h => by rw [setB_other _ _ _ (by decide)] at h ⊢; exact m65 h)⟩
      · obtain rfl := Option.some.inj ho
        have d4 := k4 (hall ⟨4, .data⟩ (by simp) rfl)
        refine g_bslF _ f (show v 4 = _ from d4) (fun w' t_ b_n => ?_)
        have hb := t_.toBelow
        exact ⟨hC.trans (hb.mono hC.size), q_h.below hb q_h.lt, q_f.below hb q_f.lt, Nat.le_trans hS hb.size, keepE (by decide) k0, (fun h h2 => by rw [setB_other _ _ _ (by decide)] at h h2; rw [setV_other _ _ _ _ (by decide)]; exact (k1 h h2).below hb), keepE (by decide) k2, (fun h h2 => by rw [setB_other _ _ _ (by decide)] at h h2; rw [setV_other _ _ _ _ (by decide)]; exact (k3 h h2).below hb), keepE (by decide) k4, (fun _ _ => ⟨_, setV_self _ _ _, b_n, fun h h2 => by rw [setB_other _ _ _ (by decide)] at h h2; rw [setV_other _ _ _ _ (by decide)]; intro e; have := ((k1 h h2).lt _ e).2; omega⟩), (fun h => by rw [setB_other _ _ _ (by decide)] at h; rw [setV_other _ _ _ _ (by decide)]; exact (k6 h).below hb), keepE (by decide) k7, keepE (by decide) k8, keepE (by decide) k9, keepE (by decide) k10, keepE (by decide) k11, keepE (by decide) k12, (fun h => by rw [setB_other _ _ _ (by decide)] at h ⊢; exact m3 h), (fun h => by rw [setB_other _ _ _ (by decide)] at h ⊢; exact m63 h), (fun _ => setB_self _ _)⟩
      · obtain rfl := Option.some.inj ho
        have h3t := hall ⟨3, .data⟩ (by simp) rfl
        have h5t := hall ⟨5, .data⟩ (by simp) rfl
        have hO_ := k3 h3t hti
        obtain ⟨p, e1, e2, e3⟩ := k5 h5t hti
        refine g_appF _ _ B0 (v 3) l f p rfl (show v 5 = _ from e1) hO_ e2 (by omega) hS (fun v' w' hO2 hg _ => ?_)
        rw [hlf.out] at hO2
        exact ⟨hC.grown hg hC.size (fun q hq => Nat.le_trans B_w (hO_.lt q hq).1), blk_grown q_h hg hO_ B_h, blk_grown q_f hg hO_ B_f, Nat.le_trans hS hg.size, keepE (by decide) k0, (fun _ h => by rw [setB_other _ _ _ (by decide), h3t] at h; cases h), keepE (by decide) k2, (fun _ h => by rw [setB_self] at h; cases h), keepE (by decide) k4, (fun _ h => by rw [setB_self] at h; cases h), (fun _ => by rw [setV_self]; exact hO2), keepE (by decide) k7, keepE (by decide) k8, keepE (by decide) k9, keepE (by decide) k10, keepE (by decide) k11, keepE (by decide) k12, (fun h => by rw [setB_other _ _ _ (by decide)] at h ⊢; exact m3 h), (fun _ => by rw [setB_other _ _ _ (by decide)]; exact h3t), (fun _ => by rw [setB_other _ _ _ (by decide)]; exact h5t)⟩
      · obtain rfl := Option.some.inj ho
        have d0 := k0 (hall ⟨0, .data⟩ (by simp) rfl)
        have hO2 := k6 (hall ⟨6, .data⟩ (by simp) rfl)
        obtain ⟨ao6, cap6, e6⟩ := hO2.len
        have hF6 := hO2.fs
        rw [e6] at hF6
        refine g_call 21 _ _ [.agg (hc h).toArray, .slice ao6 lf.length cap6] (kf21 _ _) (show [v 0, v 6] = _ by rw [d0, e6]) ((hwrite_any h lf ao6 cap6 wx hi hlfl.out hF6 ByteArray.empty 2 hJ).mono ?_)
        rintro e w' ⟨rfl, hb⟩
        exact ⟨_, rfl, hC.trans (hb.mono hC.size), q_h.below hb q_h.lt, q_f.below hb q_f.lt, Nat.le_trans hS hb.size, keepE (by decide) k0, (fun h h2 => by rw [setB_other _ _ _ (by decide)] at h h2; rw [setV_other _ _ _ _ (by decide)]; exact (k1 h h2).below hb), keepE (by decide) k2, (fun h h2 => by rw [setB_other _ _ _ (by decide)] at h h2; rw [setV_other _ _ _ _ (by decide)]; exact (k3 h h2).below hb), keepE (by decide) k4, (fun h h2 => by rw [setB_other _ _ _ (by decide)] at h h2; obtain ⟨p, e1, e2, e3⟩ := k5 h h2; refine ⟨p, by rw [setV_other _ _ _ _ (by decide)]; exact e1, e2.below hb e2.lt, fun h4 h5 => ?_⟩; rw [setB_other _ _ _ (by decide)] at h4 h5; rw [setV_other _ _ _ _ (by decide)]; exact e3 h4 h5), (fun h => by rw [setB_other _ _ _ (by decide)] at h; rw [setV_other _ _ _ _ (by decide)]; exact (k6 h).below hb), newE rfl, keepE (by decide) k8, keepE (by decide) k9, keepE (by decide) k10, keepE (by decide) k11, keepE (by decide) k12, (fun h => by rw [setB_other _ _ _ (by decide)] at h ⊢; exact m3 h), (fun h => by rw [setB_other _ _ _ (by decide)] at h ⊢; exact m63 h), (fun h => by rw [setB_other _ _ _ (by decide)] at h ⊢; exact m65 h)⟩
      · obtain rfl := Option.some.inj ho
        have d := k7 (hall ⟨7, .data⟩ (by simp) rfl)
        exact g_move _ _ (show v 7 = _ from d) ⟨hC, q_h, q_f, hS, keepE (by decide) k0, (fun h h2 => by rw [setB_other _ _ _ (by decide)] at h h2; rw [setV_other _ _ _ _ (by decide)]; exact k1 h h2), keepE (by decide) k2, (fun h h2 => by rw [setB_other _ _ _ (by decide)] at h h2; rw [setV_other _ _ _ _ (by decide)]; exact k3 h h2), keepE (by decide) k4, (fun h h2 => by rw [setB_other _ _ _ (by decide)] at h h2; obtain ⟨p, e1, e2, e3⟩ := k5 h h2; refine ⟨p, by rw [setV_other _ _ _ _ (by decide)]; exact e1, e2, fun h4 h5 => ?_⟩; rw [setB_other _ _ _ (by decide)] at h4 h5; rw [setV_other _ _ _ _ (by decide)]; exact e3 h4 h5), (fun h => by rw [setB_other _ _ _ (by decide)] at h; rw [setV_other _ _ _ _ (by decide)]; exact k6 h), keepE (by decide) k7, newE rfl, keepE (by decide) k9, keepE (by decide) k10, keepE (by decide) k11, keepE (by decide) k12, (fun h => by rw [setB_other _ _ _ (by decide)] at h ⊢; exact m3 h), (fun h => by rw [setB_other _ _ _ (by decide)] at h ⊢; exact m63 h), (fun h => by rw [setB_other _ _ _ (by decide)] at h ⊢; exact m65 h)⟩
      · obtain rfl := Option.some.inj ho
        have d := k8 (hall ⟨8, .data⟩ (by simp) rfl)
        exact g_extract _ _ 0 _ (show v 8 = _ from d) rfl ⟨hC, q_h, q_f, hS, keepE (by decide) k0, (fun h h2 => by rw [setB_other _ _ _ (by decide)] at h h2; rw [setV_other _ _ _ _ (by decide)]; exact k1 h h2), keepE (by decide) k2, (fun h h2 => by rw [setB_other _ _ _ (by decide)] at h h2; rw [setV_other _ _ _ _ (by decide)]; exact k3 h h2), keepE (by decide) k4, (fun h h2 => by rw [setB_other _ _ _ (by decide)] at h h2; obtain ⟨p, e1, e2, e3⟩ := k5 h h2; refine ⟨p, by rw [setV_other _ _ _ _ (by decide)]; exact e1, e2, fun h4 h5 => ?_⟩; rw [setB_other _ _ _ (by decide)] at h4 h5; rw [setV_other _ _ _ _ (by decide)]; exact e3 h4 h5), (fun h => by rw [setB_other _ _ _ (by decide)] at h; rw [setV_other _ _ _ _ (by decide)]; exact k6 h), keepE (by decide) k7, keepE (by decide) k8, newE rfl, keepE (by decide) k10, keepE (by decide) k11, keepE (by decide) k12, (fun h => by rw [setB_other _ _ _ (by decide)] at h ⊢; exact m3 h), (fun h => by rw [setB_other _ _ _ (by decide)] at h ⊢; exact m63 h), (fun h => by rw [setB_other _ _ _ (by decide)] at h ⊢; exact m65 h)⟩
      · obtain rfl := Option.some.inj ho
        have d := k8 (hall ⟨8, .data⟩ (by simp) rfl)
        exact g_extract _ _ 1 _ (show v 8 = _ from d) rfl ⟨hC, q_h, q_f, hS, keepE (by decide) k0, (fun h h2 => by rw [setB_other _ _ _ (by decide)] at h h2; rw [setV_other _ _ _ _ (by decide)]; exact k1 h h2), keepE (by decide) k2, (fun h h2 => by rw [setB_other _ _ _ (by decide)] at h h2; rw [setV_other _ _ _ _ (by decide)]; exact k3 h h2), keepE (by decide) k4, (fun h h2 => by rw [setB_other _ _ _ (by decide)] at h h2; obtain ⟨p, e1, e2, e3⟩ := k5 h h2; refine ⟨p, by rw [setV_other _ _ _ _ (by decide)]; exact e1, e2, fun h4 h5 => ?_⟩; rw [setB_other _ _ _ (by decide)] at h4 h5; rw [setV_other _ _ _ _ (by decide)]; exact e3 h4 h5), (fun h => by rw [setB_other _ _ _ (by decide)] at h; rw [setV_other _ _ _ _ (by decide)]; exact k6 h), keepE (by decide) k7, keepE (by decide) k8, keepE (by decide) k9, newE rfl, keepE (by decide) k11, keepE (by decide) k12, (fun h => by rw [setB_other _ _ _ (by decide)] at h ⊢; exact m3 h), (fun h => by rw [setB_other _ _ _ (by decide)] at h ⊢; exact m63 h), (fun h => by rw [setB_other _ _ _ (by decide)] at h ⊢; exact m65 h)⟩
      · obtain rfl := Option.some.inj ho
        have d := k9 (hall ⟨9, .data⟩ (by simp) rfl)
        exact g_assign _ _ (show v 9 = _ from d) ⟨hC, q_h, q_f, hS, keepE (by decide) k0, (fun h h2 => by rw [setB_other _ _ _ (by decide)] at h h2; rw [setV_other _ _ _ _ (by decide)]; exact k1 h h2), keepE (by decide) k2, (fun h h2 => by rw [setB_other _ _ _ (by decide)] at h h2; rw [setV_other _ _ _ _ (by decide)]; exact k3 h h2), keepE (by decide) k4, (fun h h2 => by rw [setB_other _ _ _ (by decide)] at h h2; obtain ⟨p, e1, e2, e3⟩ := k5 h h2; refine ⟨p, by rw [setV_other _ _ _ _ (by decide)]; exact e1, e2, fun h4 h5 => ?_⟩; rw [setB_other _ _ _ (by decide)] at h4 h5; rw [setV_other _ _ _ _ (by decide)]; exact e3 h4 h5), (fun h => by rw [setB_other _ _ _ (by decide)] at h; rw [setV_other _ _ _ _ (by decide)]; exact k6 h), keepE (by decide) k7, keepE (by decide) k8, keepE (by decide) k9, keepE (by decide) k10, newE rfl, keepE (by decide) k12, (fun h => by rw [setB_other _ _ _ (by decide)] at h ⊢; exact m3 h), (fun h => by rw [setB_other _ _ _ (by decide)] at h ⊢; exact m63 h), (fun h => by rw [setB_other _ _ _ (by decide)] at h ⊢; exact m65 h)⟩
      · obtain rfl := Option.some.inj ho
        have d := k10 (hall ⟨10, .data⟩ (by simp) rfl)
        exact g_assign _ _ (show v 10 = _ from d) ⟨hC, q_h, q_f, hS, keepE (by decide) k0, (fun h h2 => by rw [setB_other _ _ _ (by decide)] at h h2; rw [setV_other _ _ _ _ (by decide)]; exact k1 h h2), keepE (by decide) k2, (fun h h2 => by rw [setB_other _ _ _ (by decide)] at h h2; rw [setV_other _ _ _ _ (by decide)]; exact k3 h h2), keepE (by decide) k4, (fun h h2 => by rw [setB_other _ _ _ (by decide)] at h h2; obtain ⟨p, e1, e2, e3⟩ := k5 h h2; refine ⟨p, by rw [setV_other _ _ _ _ (by decide)]; exact e1, e2, fun h4 h5 => ?_⟩; rw [setB_other _ _ _ (by decide)] at h4 h5; rw [setV_other _ _ _ _ (by decide)]; exact e3 h4 h5), (fun h => by rw [setB_other _ _ _ (by decide)] at h; rw [setV_other _ _ _ _ (by decide)]; exact k6 h), keepE (by decide) k7, keepE (by decide) k8, keepE (by decide) k9, keepE (by decide) k10, keepE (by decide) k11, newE rfl, (fun h => by rw [setB_other _ _ _ (by decide)] at h ⊢; exact m3 h), (fun h => by rw [setB_other _ _ _ (by decide)] at h ⊢; exact m63 h), (fun h => by rw [setB_other _ _ _ (by decide)] at h ⊢; exact m65 h)⟩
      · simp at ho
    · simp only [full, Act.put, List.setIfInBounds_toArray, List.set_cons_succ, List.set_cons_zero, Nat.zero_add, Nat.reduceAdd]
      intro t v w6 hSS ht
      obtain ⟨hC, q_h, q_f, hS, k0, k1, k2, k3, k4, k5, k6, k7, k8, k9, k10, k11, k12, m3, m63, m65⟩ := hSS
      have d0 := k0 (ht 0 (by decide)); (try rw [d0])
      clear d0
      have d2 := k2 (ht 2 (by decide)); (try rw [d2])
      clear d2
      have d4 := k4 (ht 4 (by decide)); (try rw [d4])
      clear d4
      have d7 := k7 (ht 7 (by decide)); (try rw [d7])
      clear d7
      have d8 := k8 (ht 8 (by decide)); (try rw [d8])
      clear d8
      have d9 := k9 (ht 9 (by decide)); (try rw [d9])
      clear d9
      have d10 := k10 (ht 10 (by decide)); (try rw [d10])
      clear d10
      have d11 := k11 (ht 11 (by decide)); (try rw [d11])
      clear d11
      have d12 := k12 (ht 12 (by decide)); (try rw [d12])
      clear d12
      clear ht k0 k1 k2 k3 k4 k5 k6 k7 k8 k9 k10 k11 k12 m3 m63 m65
      generalize v 1 = y1
      generalize v 3 = y3
      generalize v 5 = y5
      generalize v 6 = y6
      replace hB := hC
      replace b_h := q_h
      replace b_f := q_f
      clear hC q_h q_f hS v t
      go_wp2_with (first
        | ((with_reducible refine at_loadD 46 26 ?_); refine L_give (by rfl) (g_load_all 26 _ (w.heap.size) (hc (h)) 26 _ rfl (b_h) Try.underlying26 rfl (szH hz) ?_); (try simp only [Act.put, List.setIfInBounds_toArray, List.set_cons_zero, List.set_cons_succ]))
        | ((with_reducible refine at_loadD 47 48 ?_); refine L_give (by rfl) (g_load_all 48 _ (w1.heap.size) (fc (f)) 48 _ rfl (b_f) Try.underlying48 rfl (szF fz) ?_); (try simp only [Act.put, List.setIfInBounds_toArray, List.set_cons_zero, List.set_cons_succ]))
        | ((with_reducible refine at_bslD 48 ?_); refine L_give (by rfl) (g_bslF _ f rfl ?_); intro w7 t_ b_n; have o_h_n := b_h.lt; have o_f_n := b_f.lt; have l_hB_n : _ ≤ w6.heap.size := hB.size; replace b_h := t_.blk b_h (Nat.ne_of_lt b_h.lt); replace b_f := t_.blk b_f (Nat.ne_of_lt b_f.lt); replace hB := t_.below hB l_hB_n; clear t_; (try simp only [Act.put, List.setIfInBounds_toArray, List.set_cons_zero, List.set_cons_succ]))
        | ((with_reducible refine at_callD 49 ?_); refine L_give (by rfl) (g_call 21 _ _ [.agg (hc (h)).toArray, .slice (some ⟨w6.heap.size, 0, none⟩) 1 1] (kf21 _ _) rfl ((hwrite_any h [f] _ 1 w7 hi hn1.out (fis_blk [f] b_n) C I hC1).mono ?_)); rintro e w8 ⟨rfl, t_⟩; refine ⟨_, rfl, ?_⟩; replace b_h := b_h.below t_ b_h.lt; replace b_f := b_f.below t_ b_f.lt; replace b_n := b_n.below t_ b_n.lt; replace hB := hB.trans (t_.mono hB.size); clear t_; (try simp only [Act.put, List.setIfInBounds_toArray, List.set_cons_zero, List.set_cons_succ]))
        | ((with_reducible refine at_binD 53 ?_); refine L_give (by rfl) (g_ine 28 _ _ .i64 _ _ true rfl rfl (decide_eq_true hE) ?_); (try simp only [Act.put, List.setIfInBounds_toArray, List.set_cons_zero, List.set_cons_succ]))
        | ((with_reducible refine at_binD 59 ?_); refine L_give (by rfl) (g_ieq 28 _ _ .i64 _ _ true rfl rfl (by decide) ?_); (try simp only [Act.put, List.setIfInBounds_toArray, List.set_cons_zero, List.set_cons_succ]))
        | ((with_reducible refine at_binD 62 ?_); refine L_give (by rfl) (g_seql 9 _ _ (ByteArray.empty) (⟨#[]⟩) true rfl rfl (decide_eq_true rfl) ?_); (try simp only [Act.put, List.setIfInBounds_toArray, List.set_cons_zero, List.set_cons_succ])))
      go_ret
      exact ⟨rfl, hB⟩
set_option maxRecDepth 10000 in
set_option maxHeartbeats 4000000 in
theorem walk4 (h : Hd) (l : List (Int × ByteArray)) (ao : Option Addr) (cap : Nat) (f : Int × ByteArray) (w : World) (hi : InH h) (hn : l.length ≤ 140737488355328) (hf : Fis w (.slice ao l.length cap) l) (hcap : l.length ≤ cap) (hz0 : ao = none → cap = 0) (hfk : In64 f.1) (hl : ¬ (2048 : Int) < ((f.2.size : Nat) : Int)) (hl2 : ¬ (15 : Int) < ((l.length : Nat) : Int)) (A C : ByteArray) (E I : Int) (hA : Hid (wr h l = (A, E))) (hC1 : Hid (wr h [f] = (C, I))) (hE : Hid (E = 0)) (hI : I ≠ 0) (hJ : Hid (wr h (l ++ [f]) = (ByteArray.empty, 2))) : Calls Try.prog 9 #[.agg (hc h).toArray, .slice ao l.length cap, .agg (fc f).toArray] w fun e w' => e = .returned (.bool true) ∧ Below w.heap.size w w' := by
  have hn1 : Hid ([f].length ≤ 140737488355328) := by show 1 ≤ 140737488355328; omega
  go_enter Try.func9, Try.ntmps9
  go_wp2_with (first
    | ((with_reducible refine at_boxD 3 26 ?_); refine L_box 26 _ (hc (h)) rfl ?_; intro w1 t_ b_h; have l_hB_h : w.heap.size ≤ w.heap.size := Nat.le_refl _; have hB : Below w.heap.size w w1 := t_.below (Below.refl _ _) (Nat.le_refl _); clear t_; (try simp only [Act.put, List.setIfInBounds_toArray, List.set_cons_zero, List.set_cons_succ]))
    | ((with_reducible refine at_boxD 5 48 ?_); refine L_box 48 _ (fc (f)) rfl ?_; intro w2 t_ b_f; have o_h_f := b_h.lt; have l_hB_f : _ ≤ w1.heap.size := hB.size; replace b_h := t_.blk b_h (Nat.ne_of_lt b_h.lt); replace hB := t_.below hB l_hB_f; clear t_; (try simp only [Act.put, List.setIfInBounds_toArray, List.set_cons_zero, List.set_cons_succ]))
    | ((with_reducible refine at_callD 13 ?_); refine L_give (by rfl) (g_call 11 _ _ [] (kf11 _ _) rfl ((awake_any w2).mono ?_)); rintro e w3 ⟨rfl, t_⟩; refine ⟨_, rfl, ?_⟩; replace b_h := b_h.below t_ b_h.lt; replace b_f := b_f.below t_ b_f.lt; replace hB := hB.trans (t_.mono hB.size); clear t_; (try simp only [Act.put, List.setIfInBounds_toArray, List.set_cons_zero, List.set_cons_succ]))
    | (refine stop_list 16 ?_; intro X hX))
  refine hX.out ?_
  clear hX X
  refine L_give (by rfl) (g_call 18 _ _ [.slice ao l.length cap] (kf18 _ _) rfl ((large_any l ao cap w3 hn (hf.below hB)).mono ?_))
  rintro e w4 ⟨rfl | rfl, t_⟩
  · refine ⟨_, rfl, ?_⟩
    replace b_h := b_h.below t_ b_h.lt
    replace b_f := b_f.below t_ b_f.lt
    replace hB := hB.trans (t_.mono hB.size)
    clear t_
    (try simp only [Act.put, List.setIfInBounds_toArray, List.set_cons_zero, List.set_cons_succ])
    go_wp2
    go_ret
    exact ⟨rfl, hB⟩
  · refine ⟨_, rfl, ?_⟩
    replace b_h := b_h.below t_ b_h.lt
    replace b_f := b_f.below t_ b_f.lt
    replace hB := hB.trans (t_.mono hB.size)
    clear t_
    (try simp only [Act.put, List.setIfInBounds_toArray, List.set_cons_zero, List.set_cons_succ])
    go_wp2_with (first
      | ((with_reducible refine at_loadD 19 9 ?_); refine L_give (by rfl) (g_cell9 _ (w1.heap.size) 1 _ rfl ((b_f).cell 1 _ rfl) ?_); (try simp only [Act.put, List.setIfInBounds_toArray, List.set_cons_zero, List.set_cons_succ]))
      | ((with_reducible refine at_callD 20 ?_); refine L_give (by rfl) (g_slen _ _ _ rfl rfl ?_); (try simp only [Act.put, List.setIfInBounds_toArray, List.set_cons_zero, List.set_cons_succ]))
      | ((with_reducible refine at_binD 21 ?_); refine L_give (by rfl) (g_igtr 3 _ _ .i64 _ _ false rfl rfl (decide_eq_false hl) ?_); (try simp only [Act.put, List.setIfInBounds_toArray, List.set_cons_zero, List.set_cons_succ]))
      | ((with_reducible refine at_callD 25 ?_); refine L_give (by rfl) (g_fllen _ _ _ _ rfl ?_); (try simp only [Act.put, List.setIfInBounds_toArray, List.set_cons_zero, List.set_cons_succ]))
      | ((with_reducible refine at_binD 26 ?_); refine L_give (by rfl) (g_igtr 3 _ _ .i64 _ _ false rfl rfl (decide_eq_false hl2) ?_); (try simp only [Act.put, List.setIfInBounds_toArray, List.set_cons_zero, List.set_cons_succ]))
      | ((with_reducible refine at_loadD 29 26 ?_); refine L_give (by rfl) (g_load_all 26 _ (w.heap.size) (hc (h)) 26 _ rfl (b_h) Try.underlying26 rfl (szH hz) ?_); (try simp only [Act.put, List.setIfInBounds_toArray, List.set_cons_zero, List.set_cons_succ]))
      | ((with_reducible refine at_callD 31 ?_); refine L_give (by rfl) (g_call 21 _ _ [.agg (hc (h)).toArray, .slice ao l.length cap] (kf21 _ _) rfl ((hwrite_any h l ao cap w4 hi hn (hf.below hB) A E hA).mono ?_)); rintro e w5 ⟨rfl, t_⟩; refine ⟨_, rfl, ?_⟩; replace b_h := b_h.below t_ b_h.lt; replace b_f := b_f.below t_ b_f.lt; replace hB := hB.trans (t_.mono hB.size); clear t_; (try simp only [Act.put, List.setIfInBounds_toArray, List.set_cons_zero, List.set_cons_succ]))
      | (refine stop_region 6 ?_; intro X hX))
    refine hX.out ?_
    clear hX X
    obtain ⟨B0, hB0⟩ : ∃ B0, w5.heap.size = B0 := ⟨_, rfl⟩
    have B_h : w.heap.size < B0 := by rw [← hB0]; exact b_h.lt
    have B_f : w1.heap.size < B0 := by rw [← hB0]; exact b_f.lt
    have B_w : w.heap.size ≤ B0 := by rw [← hB0]; exact hB.size
    have B_0 : B0 ≤ w5.heap.size := by rw [← hB0]; exact Nat.le_refl _
    clear hB0
    obtain ⟨lf, hlf⟩ : ∃ lf, Hid (l ++ [f] = lf) := ⟨_, rfl⟩
    have hlfl : Hid (lf.length ≤ 140737488355328) := by show _ ≤ _; rw [← hlf.out, List.length_append, List.length_singleton]; omega
    rw [hlf.out] at hJ
    refine wp_region_inv (by kernel_rfl) (by kernel_rfl) (fun t v wx => Below w.heap.size w wx ∧ Blk wx (w.heap.size) (hc h) 26 ∧ Blk wx (w1.heap.size) (fc f) 48 ∧ B0 ≤ wx.heap.size ∧ (t 0 = true → v 0 = .agg (hc h).toArray) ∧ (t 1 = true → t 3 = false → OF B0 wx (v 1) []) ∧ (t 2 = true → v 2 = .slice ao l.length cap) ∧ (t 3 = true → t 6 = false → OF B0 wx (v 3) l) ∧ (t 4 = true → v 4 = .agg (fc f).toArray) ∧ (t 5 = true → t 6 = false → ∃ p, v 5 = .slice (some ⟨p, 0, none⟩) 1 1 ∧ Blk wx p (fc f) 48 ∧ (t 1 = true → t 3 = false → (v 1).ownBlock ≠ some p)) ∧ (t 6 = true → OF B0 wx (v 6) lf) ∧ (t 7 = true → v 7 = .tuple #[.string ByteArray.empty, .int .i64 2]) ∧ (t 8 = true → v 8 = .tuple #[.string ByteArray.empty, .int .i64 2]) ∧ (t 9 = true → v 9 = .string ByteArray.empty) ∧ (t 10 = true → v 10 = .int .i64 2) ∧ (t 11 = true → v 11 = .string ByteArray.empty) ∧ (t 12 = true → v 12 = .int .i64 2) ∧ (t 3 = true → t 1 = true) ∧ (t 6 = true → t 3 = true) ∧ (t 6 = true → t 5 = true)) ?_ ?_ ?_
    · exact ⟨hB.drew, b_h.drew, b_f.drew, B_0, (fun h => by cases h), (fun h => by cases h), (fun h => by cases h), (fun h => by cases h), (fun h => by cases h), (fun h => by cases h), (fun h => by cases h), (fun h => by cases h), (fun h => by cases h), (fun h => by cases h), (fun h => by cases h), (fun h => by cases h), (fun h => by cases h), (fun h => by cases h), (fun h => by cases h), (fun h => by cases h)⟩
    · simp only [full, Act.put, List.setIfInBounds_toArray, List.set_cons_succ, List.set_cons_zero, Nat.zero_add, Nat.reduceAdd]
      intro i o ho t v wx hSS hti hall
      obtain ⟨hC, q_h, q_f, hS, k0, k1, k2, k3, k4, k5, k6, k7, k8, k9, k10, k11, k12, m3, m63, m65⟩ := hSS
      rcases i with _ | _ | _ | _ | _ | _ | _ | _ | _ | _ | _ | _ | _ | i
      · obtain rfl := Option.some.inj ho
        exact g_load_all 26 _ (w.heap.size) (hc h) 26 _ rfl q_h Try.underlying26 rfl (szH hz) ⟨hC, q_h, q_f, hS, newE rfl, (fun h h2 => by rw [setB_other _ _ _ (by decide)] at h h2; rw [setV_other _ _ _ _ (by decide)]; exact k1 h h2), keepE (by decide) k2, (fun h h2 => by rw [setB_other _ _ _ (by decide)] at h h2; rw [setV_other _ _ _ _ (by decide)]; exact k3 h h2), keepE (by decide) k4, (fun h h2 => by rw [setB_other _ _ _ (by decide)] at h h2; obtain ⟨p, e1, e2, e3⟩ := k5 h h2; refine ⟨p, by rw [setV_other _ _ _ _ (by decide)]; exact e1, e2, fun h4 h5 => ?_⟩; rw [setB_other _ _ _ (by decide)] at h4 h5; rw [setV_other _ _ _ _ (by decide)]; exact e3 h4 h5), (fun h => by rw [setB_other _ _ _ (by decide)] at h; rw [setV_other _ _ _ _ (by decide)]; exact k6 h), keepE (by decide) k7, keepE (by decide) k8, keepE (by decide) k9, keepE (by decide) k10, keepE (by decide) k11, keepE (by decide) k12, (fun h => by rw [setB_other _ _ _ (by decide)] at h ⊢; exact m3 h), (fun h => by rw [setB_other _ _ _ (by decide)] at h ⊢; exact m63 h), (fun h => by rw [setB_other _ _ _ (by decide)] at h ⊢; exact m65 h)⟩
      · obtain rfl := Option.some.inj ho
        refine g_bsl0 (fun w' t_ hO2 => ?_)
        have hb := t_.toBelow
        exact ⟨hC.trans (hb.mono hC.size), q_h.below hb q_h.lt, q_f.below hb q_f.lt, Nat.le_trans hS hb.size, keepE (by decide) k0, (fun _ _ => by rw [setV_self]; exact of_mono hO2 hS), keepE (by decide) k2, (fun h h2 => by rw [setB_other _ _ _ (by decide)] at h h2; rw [setV_other _ _ _ _ (by decide)]; exact (k3 h h2).below hb), keepE (by decide) k4, (fun h h2 => by rw [setB_other _ _ _ (by decide)] at h h2; obtain ⟨p, e1, e2, e3⟩ := k5 h h2; refine ⟨p, by rw [setV_other _ _ _ _ (by decide)]; exact e1, e2.below hb e2.lt, fun _ _ => ?_⟩; rw [setV_self]; intro e; have e9 : wx.heap.size = p := Option.some.inj e; have := e2.lt; omega), (fun h => by rw [setB_other _ _ _ (by decide)] at h; rw [setV_other _ _ _ _ (by decide)]; exact (k6 h).below hb), keepE (by decide) k7, keepE (by decide) k8, keepE (by decide) k9, keepE (by decide) k10, keepE (by decide) k11, keepE (by decide) k12, (fun _ => setB_self _ _), (fun h => by rw [setB_other _ _ _ (by decide)] at h ⊢; exact m63 h), (fun h => by rw [setB_other _ _ _ (by decide)] at h ⊢; exact m65 h)⟩
      · obtain rfl := Option.some.inj ho
        exact g_move _ _ rfl ⟨hC, q_h, q_f, hS, keepE (by decide) k0, (fun h h2 => by rw [setB_other _ _ _ (by decide)] at h h2; rw [setV_other _ _ _ _ (by decide)]; exact k1 h h2), newE rfl, (fun h h2 => by rw [setB_other _ _ _ (by decide)] at h h2; rw [setV_other _ _ _ _ (by decide)]; exact k3 h h2), keepE (by decide) k4, (fun h h2 => by rw [setB_other _ _ _ (by decide)] at h h2; obtain ⟨p, e1, e2, e3⟩ := k5 h h2; refine ⟨p, by rw [setV_other _ _ _ _ (by decide)]; exact e1, e2, fun h4 h5 => ?_⟩; rw [setB_other _ _ _ (by decide)] at h4 h5; rw [setV_other _ _ _ _ (by decide)]; exact e3 h4 h5), (fun h => by rw [setB_other _ _ _ (by decide)] at h; rw [setV_other _ _ _ _ (by decide)]; exact k6 h), keepE (by decide) k7, keepE (by decide) k8, keepE (by decide) k9, keepE (by decide) k10, keepE (by decide) k11, keepE (by decide) k12, (fun h => by rw [setB_other _ _ _ (by decide)] at h ⊢; exact m3 h), (fun h => by rw [setB_other _ _ _ (by decide)] at h ⊢; exact m63 h), (fun h => by rw [setB_other _ _ _ (by decide)] at h ⊢; exact m65 h)⟩
      · obtain rfl := Option.some.inj ho
        have h1t := hall ⟨1, .data⟩ (by simp) rfl
        have d2 := k2 (hall ⟨2, .data⟩ (by simp) rfl)
        have hO_ := k1 h1t hti
        refine g_appL _ _ B0 (v 1) l ao cap rfl (show v 2 = _ from d2) hO_ (hf.below hC) hz0 (by omega) hS (fun v' w' hO2 hg => ?_)
        exact ⟨hC.grown hg hC.size (fun q hq => Nat.le_trans B_w (hO_.lt q hq).1), blk_grown q_h hg hO_ B_h, blk_grown q_f hg hO_ B_f, Nat.le_trans hS hg.size, keepE (by decide) k0, (fun _ h => by rw [setB_self] at h; cases h), keepE (by decide) k2, (fun _ _ => by rw [setV_self]; exact hO2), keepE (by decide) k4, (fun h h2 => by rw [setB_other _ _ _ (by decide)] at h h2; obtain ⟨p, e1, e2, e3⟩ := k5 h h2; refine ⟨p, by rw [setV_other _ _ _ _ (by decide)]; exact e1, ?_, fun _ h4 => by rw [setB_self] at h4; cases h4⟩; have e9 := hg.block p e2.lt (fun e => e3 h1t hti e.symm); unfold Blk at *; rw [e9]; exact e2), (fun h => by rw [setB_other _ _ _ (by decide)] at h; have := m63 h; rw [hti] at this; cases this), keepE (by decide) k7, keepE (by decide) k8, keepE (by decide) k9, keepE (by decide) k10, keepE (by decide) k11, keepE (by decide) k12, (fun _ => by rw [setB_other _ _ _ (by decide)]; exact h1t), (fun _ => setB_self _ _), (fun h => by rw [setB_other _ _ _ (by decide)] at h ⊢; exact m65 h)⟩
      · obtain rfl := Option.some.inj ho
        exact g_load_all 48 _ (w1.heap.size) (fc f) 48 _ rfl q_f Try.underlying48 rfl (szF fz) ⟨hC, q_h, q_f, hS, keepE (by decide) k0, (fun h h2 => by rw [setB_other _ _ _ (by decide)] at h h2; rw [setV_other _ _ _ _ (by decide)]; exact k1 h h2), keepE (by decide) k2, (fun h h2 => by rw [setB_other _ _ _ (by decide)] at h h2; rw [setV_other _ _ _ _ (by decide)]; exact k3 h h2), newE rfl, (fun h h2 => by rw [setB_other _ _ _ (by decide)] at h h2; obtain ⟨p, e1, e2, e3⟩ := k5 h h2; refine ⟨p, by rw [setV_other _ _ _ _ (by decide)]; exact e1, e2, fun h4 h5 => ?_⟩; rw [setB_other _ _ _ (by decide)] at h4 h5; rw [setV_other _ _ _ _ (by decide)]; exact e3 h4 h5), (fun h => by rw [setB_other _ _ _ (by decide)] at h; rw [setV_other _ _ _ _ (by decide)]; exact k6 h), keepE (by decide) k7, keepE (by decide) k8, keepE (by decide) k9, keepE (by decide) k10, keepE (by decide) k11, keepE (by decide) k12, (fun h => by rw [setB_other _ _ _ (by decide)] at h ⊢; exact m3 h), (fun h => by rw [setB_other _ _ _ (by decide)] at h ⊢; exact m63 h), (fun h => by rw [setB_other _ _ _ (by decide)] at h ⊢; exact m65 h)⟩
      · obtain rfl := Option.some.inj ho
        have d4 := k4 (hall ⟨4, .data⟩ (by simp) rfl)
        refine g_bslF _ f (show v 4 = _ from d4) (fun w' t_ b_n => ?_)
        have hb := t_.toBelow
        exact ⟨hC.trans (hb.mono hC.size), q_h.below hb q_h.lt, q_f.below hb q_f.lt, Nat.le_trans hS hb.size, keepE (by decide) k0, (fun h h2 => by rw [setB_other _ _ _ (by decide)] at h h2; rw [setV_other _ _ _ _ (by decide)]; exact (k1 h h2).below hb), keepE (by decide) k2, (fun h h2 => by rw [setB_other _ _ _ (by decide)] at h h2; rw [setV_other _ _ _ _ (by decide)]; exact (k3 h h2).below hb), keepE (by decide) k4, (fun _ _ => ⟨_, setV_self _ _ _, b_n, fun h h2 => by rw [setB_other _ _ _ (by decide)] at h h2; rw [setV_other _ _ _ _ (by decide)]; intro e; have := ((k1 h h2).lt _ e).2; omega⟩), (fun h => by rw [setB_other _ _ _ (by decide)] at h; rw [setV_other _ _ _ _ (by decide)]; exact (k6 h).below hb), keepE (by decide) k7, keepE (by decide) k8, keepE (by decide) k9, keepE (by decide) k10, keepE (by decide) k11, keepE (by decide) k12, (fun h => by rw [setB_other _ _ _ (by decide)] at h ⊢; exact m3 h), (fun h => by rw [setB_other _ _ _ (by decide)] at h ⊢; exact m63 h), (fun _ => setB_self _ _)⟩
      · obtain rfl := Option.some.inj ho
        have h3t := hall ⟨3, .data⟩ (by simp) rfl
        have h5t := hall ⟨5, .data⟩ (by simp) rfl
        have hO_ := k3 h3t hti
        obtain ⟨p, e1, e2, e3⟩ := k5 h5t hti
        refine g_appF _ _ B0 (v 3) l f p rfl (show v 5 = _ from e1) hO_ e2 (by omega) hS (fun v' w' hO2 hg _ => ?_)
        rw [hlf.out] at hO2
        exact ⟨hC.grown hg hC.size (fun q hq => Nat.le_trans B_w (hO_.lt q hq).1), blk_grown q_h hg hO_ B_h, blk_grown q_f hg hO_ B_f, Nat.le_trans hS hg.size, keepE (by decide) k0, (fun _ h => by rw [setB_other _ _ _ (by decide), h3t] at h; cases h), keepE (by decide) k2, (fun _ h => by rw [setB_self] at h; cases h), keepE (by decide) k4, (fun _ h => by rw [setB_self] at h; cases h), (fun _ => by rw [setV_self]; exact hO2), keepE (by decide) k7, keepE (by decide) k8, keepE (by decide) k9, keepE (by decide) k10, keepE (by decide) k11, keepE (by decide) k12, (fun h => by rw [setB_other _ _ _ (by decide)] at h ⊢; exact m3 h), (fun _ => by rw [setB_other _ _ _ (by decide)]; exact h3t), (fun _ => by rw [setB_other _ _ _ (by decide)]; exact h5t)⟩
      · obtain rfl := Option.some.inj ho
        have d0 := k0 (hall ⟨0, .data⟩ (by simp) rfl)
        have hO2 := k6 (hall ⟨6, .data⟩ (by simp) rfl)
        obtain ⟨ao6, cap6, e6⟩ := hO2.len
        have hF6 := hO2.fs
        rw [e6] at hF6
        refine g_call 21 _ _ [.agg (hc h).toArray, .slice ao6 lf.length cap6] (kf21 _ _) (show [v 0, v 6] = _ by rw [d0, e6]) ((hwrite_any h lf ao6 cap6 wx hi hlfl.out hF6 ByteArray.empty 2 hJ).mono ?_)
        rintro e w' ⟨rfl, hb⟩
        exact ⟨_, rfl, hC.trans (hb.mono hC.size), q_h.below hb q_h.lt, q_f.below hb q_f.lt, Nat.le_trans hS hb.size, keepE (by decide) k0, (fun h h2 => by rw [setB_other _ _ _ (by decide)] at h h2; rw [setV_other _ _ _ _ (by decide)]; exact (k1 h h2).below hb), keepE (by decide) k2, (fun h h2 => by rw [setB_other _ _ _ (by decide)] at h h2; rw [setV_other _ _ _ _ (by decide)]; exact (k3 h h2).below hb), keepE (by decide) k4, (fun h h2 => by rw [setB_other _ _ _ (by decide)] at h h2; obtain ⟨p, e1, e2, e3⟩ := k5 h h2; refine ⟨p, by rw [setV_other _ _ _ _ (by decide)]; exact e1, e2.below hb e2.lt, fun h4 h5 => ?_⟩; rw [setB_other _ _ _ (by decide)] at h4 h5; rw [setV_other _ _ _ _ (by decide)]; exact e3 h4 h5), (fun h => by rw [setB_other _ _ _ (by decide)] at h; rw [setV_other _ _ _ _ (by decide)]; exact (k6 h).below hb), newE rfl, keepE (by decide) k8, keepE (by decide) k9, keepE (by decide) k10, keepE (by decide) k11, keepE (by decide) k12, (fun h => by rw [setB_other _ _ _ (by decide)] at h ⊢; exact m3 h), (fun h => by rw [setB_other _ _ _ (by decide)] at h ⊢; exact m63 h), (fun h => by rw [setB_other _ _ _ (by decide)] at h ⊢; exact m65 h)⟩
      · obtain rfl := Option.some.inj ho
        have d := k7 (hall ⟨7, .data⟩ (by simp) rfl)
        exact g_move _ _ (show v 7 = _ from d) ⟨hC, q_h, q_f, hS, keepE (by decide) k0, (fun h h2 => by rw [setB_other _ _ _ (by decide)] at h h2; rw [setV_other _ _ _ _ (by decide)]; exact k1 h h2), keepE (by decide) k2, (fun h h2 => by rw [setB_other _ _ _ (by decide)] at h h2; rw [setV_other _ _ _ _ (by decide)]; exact k3 h h2), keepE (by decide) k4, (fun h h2 => by rw [setB_other _ _ _ (by decide)] at h h2; obtain ⟨p, e1, e2, e3⟩ := k5 h h2; refine ⟨p, by rw [setV_other _ _ _ _ (by decide)]; exact e1, e2, fun h4 h5 => ?_⟩; rw [setB_other _ _ _ (by decide)] at h4 h5; rw [setV_other _ _ _ _ (by decide)]; exact e3 h4 h5), (fun h => by rw [setB_other _ _ _ (by decide)] at h; rw [setV_other _ _ _ _ (by decide)]; exact k6 h), keepE (by decide) k7, newE rfl, keepE (by decide) k9, keepE (by decide) k10, keepE (by decide) k11, keepE (by decide) k12, (fun h => by rw [setB_other _ _ _ (by decide)] at h ⊢; exact m3 h), (fun h => by rw [setB_other _ _ _ (by decide)] at h ⊢; exact m63 h), (fun h => by rw [setB_other _ _ _ (by decide)] at h ⊢; exact m65 h)⟩
      · obtain rfl := Option.some.inj ho
        have d := k8 (hall ⟨8, .data⟩ (by simp) rfl)
        exact g_extract _ _ 0 _ (show v 8 = _ from d) rfl ⟨hC, q_h, q_f, hS, keepE (by decide) k0, (fun h h2 => by rw [setB_other _ _ _ (by decide)] at h h2; rw [setV_other _ _ _ _ (by decide)]; exact k1 h h2), keepE (by decide) k2, (fun h h2 => by rw [setB_other _ _ _ (by decide)] at h h2; rw [setV_other _ _ _ _ (by decide)]; exact k3 h h2), keepE (by decide) k4, (fun h h2 => by rw [setB_other _ _ _ (by decide)] at h h2; obtain ⟨p, e1, e2, e3⟩ := k5 h h2; refine ⟨p, by rw [setV_other _ _ _ _ (by decide)]; exact e1, e2, fun h4 h5 => ?_⟩; rw [setB_other _ _ _ (by decide)] at h4 h5; rw [setV_other _ _ _ _ (by decide)]; exact e3 h4 h5), (fun h => by rw [setB_other _ _ _ (by decide)] at h; rw [setV_other _ _ _ _ (by decide)]; exact k6 h), keepE (by decide) k7, keepE (by decide) k8, newE rfl, keepE (by decide) k10, keepE (by decide) k11, keepE (by decide) k12, (fun h => by rw [setB_other _ _ _ (by decide)] at h ⊢; exact m3 h), (fun h => by rw [setB_other _ _ _ (by decide)] at h ⊢; exact m63 h), (fun h => by rw [setB_other _ _ _ (by decide)] at h ⊢; exact m65 h)⟩
      · obtain rfl := Option.some.inj ho
        have d := k8 (hall ⟨8, .data⟩ (by simp) rfl)
        exact g_extract _ _ 1 _ (show v 8 = _ from d) rfl ⟨hC, q_h, q_f, hS, keepE (by decide) k0, (fun h h2 => by rw [setB_other _ _ _ (by decide)] at h h2; rw [setV_other _ _ _ _ (by decide)]; exact k1 h h2), keepE (by decide) k2, (fun h h2 => by rw [setB_other _ _ _ (by decide)] at h h2; rw [setV_other _ _ _ _ (by decide)]; exact k3 h h2), keepE (by decide) k4, (fun h h2 => by rw [setB_other _ _ _ (by decide)] at h h2; obtain ⟨p, e1, e2, e3⟩ := k5 h h2; refine ⟨p, by rw [setV_other _ _ _ _ (by decide)]; exact e1, e2, fun h4 h5 => ?_⟩; rw [setB_other _ _ _ (by decide)] at h4 h5; rw [setV_other _ _ _ _ (by decide)]; exact e3 h4 h5), (fun h => by rw [setB_other _ _ _ (by decide)] at h; rw [setV_other _ _ _ _ (by decide)]; exact k6 h), keepE (by decide) k7, keepE (by decide) k8, keepE (by decide) k9, newE rfl, keepE (by decide) k11, keepE (by decide) k12, (fun h => by rw [setB_other _ _ _ (by decide)] at h ⊢; exact m3 h), (fun h => by rw [setB_other _ _ _ (by decide)] at h ⊢; exact m63 h), (fun h => by rw [setB_other _ _ _ (by decide)] at h ⊢; exact m65 h)⟩
      · obtain rfl := Option.some.inj ho
        have d := k9 (hall ⟨9, .data⟩ (by simp) rfl)
        exact g_assign _ _ (show v 9 = _ from d) ⟨hC, q_h, q_f, hS, keepE (by decide) k0, (fun h h2 => by rw [setB_other _ _ _ (by decide)] at h h2; rw [setV_other _ _ _ _ (by decide)]; exact k1 h h2), keepE (by decide) k2, (fun h h2 => by rw [setB_other _ _ _ (by decide)] at h h2; rw [setV_other _ _ _ _ (by decide)]; exact k3 h h2), keepE (by decide) k4, (fun h h2 => by rw [setB_other _ _ _ (by decide)] at h h2; obtain ⟨p, e1, e2, e3⟩ := k5 h h2; refine ⟨p, by rw [setV_other _ _ _ _ (by decide)]; exact e1, e2, fun h4 h5 => ?_⟩; rw [setB_other _ _ _ (by decide)] at h4 h5; rw [setV_other _ _ _ _ (by decide)]; exact e3 h4 h5), (fun h => by rw [setB_other _ _ _ (by decide)] at h; rw [setV_other _ _ _ _ (by decide)]; exact k6 h), keepE (by decide) k7, keepE (by decide) k8, keepE (by decide) k9, keepE (by decide) k10, newE rfl, keepE (by decide) k12, (fun h => by rw [setB_other _ _ _ (by decide)] at h ⊢; exact m3 h), (fun h => by rw [setB_other _ _ _ (by decide)] at h ⊢; exact m63 h), (fun h => by rw [setB_other _ _ _ (by decide)] at h ⊢; exact m65 h)⟩
      · obtain rfl := Option.some.inj ho
        have d := k10 (hall ⟨10, .data⟩ (by simp) rfl)
        exact g_assign _ _ (show v 10 = _ from d) ⟨hC, q_h, q_f, hS, keepE (by decide) k0, (fun h h2 => by rw [setB_other _ _ _ (by decide)] at h h2; rw [setV_other _ _ _ _ (by decide)]; exact k1 h h2), keepE (by decide) k2, (fun h h2 => by rw [setB_other _ _ _ (by decide)] at h h2; rw [setV_other _ _ _ _ (by decide)]; exact k3 h h2), keepE (by decide) k4, (fun h h2 => by rw [setB_other _ _ _ (by decide)] at h h2; obtain ⟨p, e1, e2, e3⟩ := k5 h h2; refine ⟨p, by rw [setV_other _ _ _ _ (by decide)]; exact e1, e2, fun h4 h5 => ?_⟩; rw [setB_other _ _ _ (by decide)] at h4 h5; rw [setV_other _ _ _ _ (by decide)]; exact e3 h4 h5), (fun h => by rw [setB_other _ _ _ (by decide)] at h; rw [setV_other _ _ _ _ (by decide)]; exact k6 h), keepE (by decide) k7, keepE (by decide) k8, keepE (by decide) k9, keepE (by decide) k10, keepE (by decide) k11, newE rfl, (fun h => by rw [setB_other _ _ _ (by decide)] at h ⊢; exact m3 h), (fun h => by rw [setB_other _ _ _ (by decide)] at h ⊢; exact m63 h), (fun h => by rw [setB_other _ _ _ (by decide)] at h ⊢; exact m65 h)⟩
      · simp at ho
    · simp only [full, Act.put, List.setIfInBounds_toArray, List.set_cons_succ, List.set_cons_zero, Nat.zero_add, Nat.reduceAdd]
      intro t v w6 hSS ht
      obtain ⟨hC, q_h, q_f, hS, k0, k1, k2, k3, k4, k5, k6, k7, k8, k9, k10, k11, k12, m3, m63, m65⟩ := hSS
      have d0 := k0 (ht 0 (by decide)); (try rw [d0])
      clear d0
      have d2 := k2 (ht 2 (by decide)); (try rw [d2])
      clear d2
      have d4 := k4 (ht 4 (by decide)); (try rw [d4])
      clear d4
      have d7 := k7 (ht 7 (by decide)); (try rw [d7])
      clear d7
      have d8 := k8 (ht 8 (by decide)); (try rw [d8])
      clear d8
      have d9 := k9 (ht 9 (by decide)); (try rw [d9])
      clear d9
      have d10 := k10 (ht 10 (by decide)); (try rw [d10])
      clear d10
      have d11 := k11 (ht 11 (by decide)); (try rw [d11])
      clear d11
      have d12 := k12 (ht 12 (by decide)); (try rw [d12])
      clear d12
      clear ht k0 k1 k2 k3 k4 k5 k6 k7 k8 k9 k10 k11 k12 m3 m63 m65
      generalize v 1 = y1
      generalize v 3 = y3
      generalize v 5 = y5
      generalize v 6 = y6
      replace hB := hC
      replace b_h := q_h
      replace b_f := q_f
      clear hC q_h q_f hS v t
      go_wp2_with (first
        | ((with_reducible refine at_loadD 46 26 ?_); refine L_give (by rfl) (g_load_all 26 _ (w.heap.size) (hc (h)) 26 _ rfl (b_h) Try.underlying26 rfl (szH hz) ?_); (try simp only [Act.put, List.setIfInBounds_toArray, List.set_cons_zero, List.set_cons_succ]))
        | ((with_reducible refine at_loadD 47 48 ?_); refine L_give (by rfl) (g_load_all 48 _ (w1.heap.size) (fc (f)) 48 _ rfl (b_f) Try.underlying48 rfl (szF fz) ?_); (try simp only [Act.put, List.setIfInBounds_toArray, List.set_cons_zero, List.set_cons_succ]))
        | ((with_reducible refine at_bslD 48 ?_); refine L_give (by rfl) (g_bslF _ f rfl ?_); intro w7 t_ b_n; have o_h_n := b_h.lt; have o_f_n := b_f.lt; have l_hB_n : _ ≤ w6.heap.size := hB.size; replace b_h := t_.blk b_h (Nat.ne_of_lt b_h.lt); replace b_f := t_.blk b_f (Nat.ne_of_lt b_f.lt); replace hB := t_.below hB l_hB_n; clear t_; (try simp only [Act.put, List.setIfInBounds_toArray, List.set_cons_zero, List.set_cons_succ]))
        | ((with_reducible refine at_callD 49 ?_); refine L_give (by rfl) (g_call 21 _ _ [.agg (hc (h)).toArray, .slice (some ⟨w6.heap.size, 0, none⟩) 1 1] (kf21 _ _) rfl ((hwrite_any h [f] _ 1 w7 hi hn1.out (fis_blk [f] b_n) C I hC1).mono ?_)); rintro e w8 ⟨rfl, t_⟩; refine ⟨_, rfl, ?_⟩; replace b_h := b_h.below t_ b_h.lt; replace b_f := b_f.below t_ b_f.lt; replace b_n := b_n.below t_ b_n.lt; replace hB := hB.trans (t_.mono hB.size); clear t_; (try simp only [Act.put, List.setIfInBounds_toArray, List.set_cons_zero, List.set_cons_succ]))
        | ((with_reducible refine at_binD 53 ?_); refine L_give (by rfl) (g_ine 28 _ _ .i64 _ _ false rfl rfl (decide_eq_false (fun q => q hE.out)) ?_); (try simp only [Act.put, List.setIfInBounds_toArray, List.set_cons_zero, List.set_cons_succ]))
        | ((with_reducible refine at_binD 56 ?_); refine L_give (by rfl) (g_ine 28 _ _ .i64 _ _ true rfl rfl (decide_eq_true hI) ?_); (try simp only [Act.put, List.setIfInBounds_toArray, List.set_cons_zero, List.set_cons_succ]))
        | ((with_reducible refine at_binD 59 ?_); refine L_give (by rfl) (g_ieq 28 _ _ .i64 _ _ true rfl rfl (by decide) ?_); (try simp only [Act.put, List.setIfInBounds_toArray, List.set_cons_zero, List.set_cons_succ]))
        | ((with_reducible refine at_binD 62 ?_); refine L_give (by rfl) (g_seql 9 _ _ (ByteArray.empty) (⟨#[]⟩) true rfl rfl (decide_eq_true rfl) ?_); (try simp only [Act.put, List.setIfInBounds_toArray, List.set_cons_zero, List.set_cons_succ])))
      go_ret
      exact ⟨rfl, hB⟩
set_option maxRecDepth 10000 in
set_option maxHeartbeats 4000000 in
theorem walk5 (h : Hd) (l : List (Int × ByteArray)) (ao : Option Addr) (cap : Nat) (f : Int × ByteArray) (w : World) (hi : InH h) (hn : l.length ≤ 140737488355328) (hf : Fis w (.slice ao l.length cap) l) (hcap : l.length ≤ cap) (hz0 : ao = none → cap = 0) (hfk : In64 f.1) (hl : ¬ (2048 : Int) < ((f.2.size : Nat) : Int)) (hl2 : ¬ (15 : Int) < ((l.length : Nat) : Int)) (A C : ByteArray) (E I : Int) (hA : Hid (wr h l = (A, E))) (hC1 : Hid (wr h [f] = (C, I))) (hE : Hid (E = 0)) (hI : Hid (I = 0)) (B C2 : ByteArray) (hC48 : 48 ≤ C.size) (hC2 : Hid (C.extract 48 C.size = C2)) (hAB : Hid (A ++ C2 = B)) (zA : A.size ≤ 20000) (zC : C2.size ≤ 2000) (hJ : Hid (wr h (l ++ [f]) = (B, 0))) : Calls Try.prog 9 #[.agg (hc h).toArray, .slice ao l.length cap, .agg (fc f).toArray] w fun e w' => e = .returned (.bool true) ∧ Below w.heap.size w w' := by
  have hn1 : Hid ([f].length ≤ 140737488355328) := by show 1 ≤ 140737488355328; omega
  go_enter Try.func9, Try.ntmps9
  go_wp2_with (first
    | ((with_reducible refine at_boxD 3 26 ?_); refine L_box 26 _ (hc (h)) rfl ?_; intro w1 t_ b_h; have l_hB_h : w.heap.size ≤ w.heap.size := Nat.le_refl _; have hB : Below w.heap.size w w1 := t_.below (Below.refl _ _) (Nat.le_refl _); clear t_; (try simp only [Act.put, List.setIfInBounds_toArray, List.set_cons_zero, List.set_cons_succ]))
    | ((with_reducible refine at_boxD 5 48 ?_); refine L_box 48 _ (fc (f)) rfl ?_; intro w2 t_ b_f; have o_h_f := b_h.lt; have l_hB_f : _ ≤ w1.heap.size := hB.size; replace b_h := t_.blk b_h (Nat.ne_of_lt b_h.lt); replace hB := t_.below hB l_hB_f; clear t_; (try simp only [Act.put, List.setIfInBounds_toArray, List.set_cons_zero, List.set_cons_succ]))
    | ((with_reducible refine at_callD 13 ?_); refine L_give (by rfl) (g_call 11 _ _ [] (kf11 _ _) rfl ((awake_any w2).mono ?_)); rintro e w3 ⟨rfl, t_⟩; refine ⟨_, rfl, ?_⟩; replace b_h := b_h.below t_ b_h.lt; replace b_f := b_f.below t_ b_f.lt; replace hB := hB.trans (t_.mono hB.size); clear t_; (try simp only [Act.put, List.setIfInBounds_toArray, List.set_cons_zero, List.set_cons_succ]))
    | (refine stop_list 16 ?_; intro X hX))
  refine hX.out ?_
  clear hX X
  refine L_give (by rfl) (g_call 18 _ _ [.slice ao l.length cap] (kf18 _ _) rfl ((large_any l ao cap w3 hn (hf.below hB)).mono ?_))
  rintro e w4 ⟨rfl | rfl, t_⟩
  · refine ⟨_, rfl, ?_⟩
    replace b_h := b_h.below t_ b_h.lt
    replace b_f := b_f.below t_ b_f.lt
    replace hB := hB.trans (t_.mono hB.size)
    clear t_
    (try simp only [Act.put, List.setIfInBounds_toArray, List.set_cons_zero, List.set_cons_succ])
    go_wp2
    go_ret
    exact ⟨rfl, hB⟩
  · refine ⟨_, rfl, ?_⟩
    replace b_h := b_h.below t_ b_h.lt
    replace b_f := b_f.below t_ b_f.lt
    replace hB := hB.trans (t_.mono hB.size)
    clear t_
    (try simp only [Act.put, List.setIfInBounds_toArray, List.set_cons_zero, List.set_cons_succ])
    go_wp2_with (first
      | ((with_reducible refine at_loadD 19 9 ?_); refine L_give (by rfl) (g_cell9 _ (w1.heap.size) 1 _ rfl ((b_f).cell 1 _ rfl) ?_); (try simp only [Act.put, List.setIfInBounds_toArray, List.set_cons_zero, List.set_cons_succ]))
      | ((with_reducible refine at_callD 20 ?_); refine L_give (by rfl) (g_slen _ _ _ rfl rfl ?_); (try simp only [Act.put, List.setIfInBounds_toArray, List.set_cons_zero, List.set_cons_succ]))
      | ((with_reducible refine at_binD 21 ?_); refine L_give (by rfl) (g_igtr 3 _ _ .i64 _ _ false rfl rfl (decide_eq_false hl) ?_); (try simp only [Act.put, List.setIfInBounds_toArray, List.set_cons_zero, List.set_cons_succ]))
      | ((with_reducible refine at_callD 25 ?_); refine L_give (by rfl) (g_fllen _ _ _ _ rfl ?_); (try simp only [Act.put, List.setIfInBounds_toArray, List.set_cons_zero, List.set_cons_succ]))
      | ((with_reducible refine at_binD 26 ?_); refine L_give (by rfl) (g_igtr 3 _ _ .i64 _ _ false rfl rfl (decide_eq_false hl2) ?_); (try simp only [Act.put, List.setIfInBounds_toArray, List.set_cons_zero, List.set_cons_succ]))
      | ((with_reducible refine at_loadD 29 26 ?_); refine L_give (by rfl) (g_load_all 26 _ (w.heap.size) (hc (h)) 26 _ rfl (b_h) Try.underlying26 rfl (szH hz) ?_); (try simp only [Act.put, List.setIfInBounds_toArray, List.set_cons_zero, List.set_cons_succ]))
      | ((with_reducible refine at_callD 31 ?_); refine L_give (by rfl) (g_call 21 _ _ [.agg (hc (h)).toArray, .slice ao l.length cap] (kf21 _ _) rfl ((hwrite_any h l ao cap w4 hi hn (hf.below hB) A E hA).mono ?_)); rintro e w5 ⟨rfl, t_⟩; refine ⟨_, rfl, ?_⟩; replace b_h := b_h.below t_ b_h.lt; replace b_f := b_f.below t_ b_f.lt; replace hB := hB.trans (t_.mono hB.size); clear t_; (try simp only [Act.put, List.setIfInBounds_toArray, List.set_cons_zero, List.set_cons_succ]))
      | (refine stop_region 6 ?_; intro X hX))
    refine hX.out ?_
    clear hX X
    obtain ⟨B0, hB0⟩ : ∃ B0, w5.heap.size = B0 := ⟨_, rfl⟩
    have B_h : w.heap.size < B0 := by rw [← hB0]; exact b_h.lt
    have B_f : w1.heap.size < B0 := by rw [← hB0]; exact b_f.lt
    have B_w : w.heap.size ≤ B0 := by rw [← hB0]; exact hB.size
    have B_0 : B0 ≤ w5.heap.size := by rw [← hB0]; exact Nat.le_refl _
    clear hB0
    obtain ⟨lf, hlf⟩ : ∃ lf, Hid (l ++ [f] = lf) := ⟨_, rfl⟩
    have hlfl : Hid (lf.length ≤ 140737488355328) := by show _ ≤ _; rw [← hlf.out, List.length_append, List.length_singleton]; omega
    rw [hlf.out] at hJ
    refine wp_region_inv (by kernel_rfl) (by kernel_rfl) (fun t v wx => Below w.heap.size w wx ∧ Blk wx (w.heap.size) (hc h) 26 ∧ Blk wx (w1.heap.size) (fc f) 48 ∧ B0 ≤ wx.heap.size ∧ (t 0 = true → v 0 = .agg (hc h).toArray) ∧ (t 1 = true → t 3 = false → OF B0 wx (v 1) []) ∧ (t 2 = true → v 2 = .slice ao l.length cap) ∧ (t 3 = true → t 6 = false → OF B0 wx (v 3) l) ∧ (t 4 = true → v 4 = .agg (fc f).toArray) ∧ (t 5 = true → t 6 = false → ∃ p, v 5 = .slice (some ⟨p, 0, none⟩) 1 1 ∧ Blk wx p (fc f) 48 ∧ (t 1 = true → t 3 = false → (v 1).ownBlock ≠ some p)) ∧ (t 6 = true → OF B0 wx (v 6) lf) ∧ (t 7 = true → v 7 = .tuple #[.string B, .int .i64 0]) ∧ (t 8 = true → v 8 = .tuple #[.string B, .int .i64 0]) ∧ (t 9 = true → v 9 = .string B) ∧ (t 10 = true → v 10 = .int .i64 0) ∧ (t 11 = true → v 11 = .string B) ∧ (t 12 = true → v 12 = .int .i64 0) ∧ (t 3 = true → t 1 = true) ∧ (t 6 = true → t 3 = true) ∧ (t 6 = true → t 5 = true)) ?_ ?_ ?_
    · exact ⟨hB.drew, b_h.drew, b_f.drew, B_0, (fun h => by cases h), (fun h => by cases h), (fun h => by cases h), (fun h => by cases h), (fun h => by cases h), (fun h => by cases h), (fun h => by cases h), (fun h => by cases h), (fun h => by cases h), (fun h => by cases h), (fun h => by cases h), (fun h => by cases h), (fun h => by cases h), (fun h => by cases h), (fun h => by cases h), (fun h => by cases h)⟩
    · simp only [full, Act.put, List.setIfInBounds_toArray, List.set_cons_succ, List.set_cons_zero, Nat.zero_add, Nat.reduceAdd]
      intro i o ho t v wx hSS hti hall
      obtain ⟨hC, q_h, q_f, hS, k0, k1, k2, k3, k4, k5, k6, k7, k8, k9, k10, k11, k12, m3, m63, m65⟩ := hSS
      rcases i with _ | _ | _ | _ | _ | _ | _ | _ | _ | _ | _ | _ | _ | i
      · obtain rfl := Option.some.inj ho
        exact g_load_all 26 _ (w.heap.size) (hc h) 26 _ rfl q_h Try.underlying26 rfl (szH hz) ⟨hC, q_h, q_f, hS, newE rfl, (fun h h2 => by rw [setB_other _ _ _ (by decide)] at h h2; rw [setV_other _ _ _ _ (by decide)]; exact k1 h h2), keepE (by decide) k2, (fun h h2 => by rw [setB_other _ _ _ (by decide)] at h h2; rw [setV_other _ _ _ _ (by decide)]; exact k3 h h2), keepE (by decide) k4, (fun h h2 => by rw [setB_other _ _ _ (by decide)] at h h2; obtain ⟨p, e1, e2, e3⟩ := k5 h h2; refine ⟨p, by rw [setV_other _ _ _ _ (by decide)]; exact e1, e2, fun h4 h5 => ?_⟩; rw [setB_other _ _ _ (by decide)] at h4 h5; rw [setV_other _ _ _ _ (by decide)]; exact e3 h4 h5), (fun h => by rw [setB_other _ _ _ (by decide)] at h; rw [setV_other _ _ _ _ (by decide)]; exact k6 h), keepE (by decide) k7, keepE (by decide) k8, keepE (by decide) k9, keepE (by decide) k10, keepE (by decide) k11, keepE (by decide) k12, (fun h => by rw [setB_other _ _ _ (by decide)] at h ⊢; exact m3 h), (fun h => by rw [setB_other _ _ _ (by decide)] at h ⊢; exact m63 h), (fun h => by rw [setB_other _ _ _ (by decide)] at h ⊢; exact m65 h)⟩
      · obtain rfl := Option.some.inj ho
        refine g_bsl0 (fun w' t_ hO2 => ?_)
        have hb := t_.toBelow
        exact ⟨hC.trans (hb.mono hC.size), q_h.below hb q_h.lt, q_f.below hb q_f.lt, Nat.le_trans hS hb.size, keepE (by decide) k0, (fun _ _ => by rw [setV_self]; exact of_mono hO2 hS), keepE (by decide) k2, (fun h h2 => by rw [setB_other _ _ _ (by decide)] at h h2; rw [setV_other _ _ _ _ (by decide)]; exact (k3 h h2).below hb), keepE (by decide) k4, (fun h h2 => by rw [setB_other _ _ _ (by decide)] at h h2; obtain ⟨p, e1, e2, e3⟩ := k5 h h2; refine ⟨p, by rw [setV_other _ _ _ _ (by decide)]; exact e1, e2.below hb e2.lt, fun _ _ => ?_⟩; rw [setV_self]; intro e; have e9 : wx.heap.size = p := Option.some.inj e; have := e2.lt; omega), (fun h => by rw [setB_other _ _ _ (by decide)] at h; rw [setV_other _ _ _ _ (by decide)]; exact (k6 h).below hb), keepE (by decide) k7, keepE (by decide) k8, keepE (by decide) k9, keepE (by decide) k10, keepE (by decide) k11, keepE (by decide) k12, (fun _ => setB_self _ _), (fun h => by rw [setB_other _ _ _ (by decide)] at h ⊢; exact m63 h), (fun h => by rw [setB_other _ _ _ (by decide)] at h ⊢; exact m65 h)⟩
      · obtain rfl := Option.some.inj ho
        exact g_move _ _ rfl ⟨hC, q_h, q_f, hS, keepE (by decide) k0, (fun h h2 => by rw [setB_other _ _ _ (by decide)] at h h2; rw [setV_other _ _ _ _ (by decide)]; exact k1 h h2), newE rfl, (fun h h2 => by rw [setB_other _ _ _ (by decide)] at h h2; rw [setV_other _ _ _ _ (by decide)]; exact k3 h h2), keepE (by decide) k4, (fun h h2 => by rw [setB_other _ _ _ (by decide)] at h h2; obtain ⟨p, e1, e2, e3⟩ := k5 h h2; refine ⟨p, by rw [setV_other _ _ _ _ (by decide)]; exact e1, e2, fun h4 h5 => ?_⟩; rw [setB_other _ _ _ (by decide)] at h4 h5; rw [setV_other _ _ _ _ (by decide)]; exact e3 h4 h5), (fun h => by rw [setB_other _ _ _ (by decide)] at h; rw [setV_other _ _ _ _ (by decide)]; exact k6 h), keepE (by decide) k7, keepE (by decide) k8, keepE (by decide) k9, keepE (by decide) k10, keepE (by decide) k11, keepE (by decide) k12, (fun h => by rw [setB_other _ _ _ (by decide)] at h ⊢; exact m3 h), (fun h => by rw [setB_other _ _ _ (by decide)] at h ⊢; exact m63 h), (fun h => by rw [setB_other _ _ _ (by decide)] at h ⊢; exact m65 h)⟩
      · obtain rfl := Option.some.inj ho
        have h1t := hall ⟨1, .data⟩ (by simp) rfl
        have d2 := k2 (hall ⟨2, .data⟩ (by simp) rfl)
        have hO_ := k1 h1t hti
        refine g_appL _ _ B0 (v 1) l ao cap rfl (show v 2 = _ from d2) hO_ (hf.below hC) hz0 (by omega) hS (fun v' w' hO2 hg => ?_)
        exact ⟨hC.grown hg hC.size (fun q hq => Nat.le_trans B_w (hO_.lt q hq).1), blk_grown q_h hg hO_ B_h, blk_grown q_f hg hO_ B_f, Nat.le_trans hS hg.size, keepE (by decide) k0, (fun _ h => by rw [setB_self] at h; cases h), keepE (by decide) k2, (fun _ _ => by rw [setV_self]; exact hO2), keepE (by decide) k4, (fun h h2 => by rw [setB_other _ _ _ (by decide)] at h h2; obtain ⟨p, e1, e2, e3⟩ := k5 h h2; refine ⟨p, by rw [setV_other _ _ _ _ (by decide)]; exact e1, ?_, fun _ h4 => by rw [setB_self] at h4; cases h4⟩; have e9 := hg.block p e2.lt (fun e => e3 h1t hti e.symm); unfold Blk at *; rw [e9]; exact e2), (fun h => by rw [setB_other _ _ _ (by decide)] at h; have := m63 h; rw [hti] at this; cases this), keepE (by decide) k7, keepE (by decide) k8, keepE (by decide) k9, keepE (by decide) k10, keepE (by decide) k11, keepE (by decide) k12, (fun _ => by rw [setB_other _ _ _ (by decide)]; exact h1t), (fun _ => setB_self _ _), (fun h => by rw [setB_other _ _ _ (by decide)] at h ⊢; exact m65 h)⟩
      · obtain rfl := Option.some.inj ho
        exact g_load_all 48 _ (w1.heap.size) (fc f) 48 _ rfl q_f Try.underlying48 rfl (szF fz) ⟨hC, q_h, q_f, hS, keepE (by decide) k0, (fun h h2 => by rw [setB_other _ _ _ (by decide)] at h h2; rw [setV_other _ _ _ _ (by decide)]; exact k1 h h2), keepE (by decide) k2, (fun h h2 => by rw [setB_other _ _ _ (by decide)] at h h2; rw [setV_other _ _ _ _ (by decide)]; exact k3 h h2), newE rfl, (fun h h2 => by rw [setB_other _ _ _ (by decide)] at h h2; obtain ⟨p, e1, e2, e3⟩ := k5 h h2; refine ⟨p, by rw [setV_other _ _ _ _ (by decide)]; exact e1, e2, fun h4 h5 => ?_⟩; rw [setB_other _ _ _ (by decide)] at h4 h5; rw [setV_other _ _ _ _ (by decide)]; exact e3 h4 h5), (fun h => by rw [setB_other _ _ _ (by decide)] at h; rw [setV_other _ _ _ _ (by decide)]; exact k6 h), keepE (by decide) k7, keepE (by decide) k8, keepE (by decide) k9, keepE (by decide) k10, keepE (by decide) k11, keepE (by decide) k12, (fun h => by rw [setB_other _ _ _ (by decide)] at h ⊢; exact m3 h), (fun h => by rw [setB_other _ _ _ (by decide)] at h ⊢; exact m63 h), (fun h => by rw [setB_other _ _ _ (by decide)] at h ⊢; exact m65 h)⟩
      · obtain rfl := Option.some.inj ho
        have d4 := k4 (hall ⟨4, .data⟩ (by simp) rfl)
        refine g_bslF _ f (show v 4 = _ from d4) (fun w' t_ b_n => ?_)
        have hb := t_.toBelow
        exact ⟨hC.trans (hb.mono hC.size), q_h.below hb q_h.lt, q_f.below hb q_f.lt, Nat.le_trans hS hb.size, keepE (by decide) k0, (fun h h2 => by rw [setB_other _ _ _ (by decide)] at h h2; rw [setV_other _ _ _ _ (by decide)]; exact (k1 h h2).below hb), keepE (by decide) k2, (fun h h2 => by rw [setB_other _ _ _ (by decide)] at h h2; rw [setV_other _ _ _ _ (by decide)]; exact (k3 h h2).below hb), keepE (by decide) k4, (fun _ _ => ⟨_, setV_self _ _ _, b_n, fun h h2 => by rw [setB_other _ _ _ (by decide)] at h h2; rw [setV_other _ _ _ _ (by decide)]; intro e; have := ((k1 h h2).lt _ e).2; omega⟩), (fun h => by rw [setB_other _ _ _ (by decide)] at h; rw [setV_other _ _ _ _ (by decide)]; exact (k6 h).below hb), keepE (by decide) k7, keepE (by decide) k8, keepE (by decide) k9, keepE (by decide) k10, keepE (by decide) k11, keepE (by decide) k12, (fun h => by rw [setB_other _ _ _ (by decide)] at h ⊢; exact m3 h), (fun h => by rw [setB_other _ _ _ (by decide)] at h ⊢; exact m63 h), (fun _ => setB_self _ _)⟩
      · obtain rfl := Option.some.inj ho
        have h3t := hall ⟨3, .data⟩ (by simp) rfl
        have h5t := hall ⟨5, .data⟩ (by simp) rfl
        have hO_ := k3 h3t hti
        obtain ⟨p, e1, e2, e3⟩ := k5 h5t hti
        refine g_appF _ _ B0 (v 3) l f p rfl (show v 5 = _ from e1) hO_ e2 (by omega) hS (fun v' w' hO2 hg _ => ?_)
        rw [hlf.out] at hO2
        exact ⟨hC.grown hg hC.size (fun q hq => Nat.le_trans B_w (hO_.lt q hq).1), blk_grown q_h hg hO_ B_h, blk_grown q_f hg hO_ B_f, Nat.le_trans hS hg.size, keepE (by decide) k0, (fun _ h => by rw [setB_other _ _ _ (by decide), h3t] at h; cases h), keepE (by decide) k2, (fun _ h => by rw [setB_self] at h; cases h), keepE (by decide) k4, (fun _ h => by rw [setB_self] at h; cases h), (fun _ => by rw [setV_self]; exact hO2), keepE (by decide) k7, keepE (by decide) k8, keepE (by decide) k9, keepE (by decide) k10, keepE (by decide) k11, keepE (by decide) k12, (fun h => by rw [setB_other _ _ _ (by decide)] at h ⊢; exact m3 h), (fun _ => by rw [setB_other _ _ _ (by decide)]; exact h3t), (fun _ => by rw [setB_other _ _ _ (by decide)]; exact h5t)⟩
      · obtain rfl := Option.some.inj ho
        have d0 := k0 (hall ⟨0, .data⟩ (by simp) rfl)
        have hO2 := k6 (hall ⟨6, .data⟩ (by simp) rfl)
        obtain ⟨ao6, cap6, e6⟩ := hO2.len
        have hF6 := hO2.fs
        rw [e6] at hF6
        refine g_call 21 _ _ [.agg (hc h).toArray, .slice ao6 lf.length cap6] (kf21 _ _) (show [v 0, v 6] = _ by rw [d0, e6]) ((hwrite_any h lf ao6 cap6 wx hi hlfl.out hF6 B 0 hJ).mono ?_)
        rintro e w' ⟨rfl, hb⟩
        exact ⟨_, rfl, hC.trans (hb.mono hC.size), q_h.below hb q_h.lt, q_f.below hb q_f.lt, Nat.le_trans hS hb.size, keepE (by decide) k0, (fun h h2 => by rw [setB_other _ _ _ (by decide)] at h h2; rw [setV_other _ _ _ _ (by decide)]; exact (k1 h h2).below hb), keepE (by decide) k2, (fun h h2 => by rw [setB_other _ _ _ (by decide)] at h h2; rw [setV_other _ _ _ _ (by decide)]; exact (k3 h h2).below hb), keepE (by decide) k4, (fun h h2 => by rw [setB_other _ _ _ (by decide)] at h h2; obtain ⟨p, e1, e2, e3⟩ := k5 h h2; refine ⟨p, by rw [setV_other _ _ _ _ (by decide)]; exact e1, e2.below hb e2.lt, fun h4 h5 => ?_⟩; rw [setB_other _ _ _ (by decide)] at h4 h5; rw [setV_other _ _ _ _ (by decide)]; exact e3 h4 h5), (fun h => by rw [setB_other _ _ _ (by decide)] at h; rw [setV_other _ _ _ _ (by decide)]; exact (k6 h).below hb), newE rfl, keepE (by decide) k8, keepE (by decide) k9, keepE (by decide) k10, keepE (by decide) k11, keepE (by decide) k12, (fun h => by rw [setB_other _ _ _ (by decide)] at h ⊢; exact m3 h), (fun h => by rw [setB_other _ _ _ (by decide)] at h ⊢; exact m63 h), (fun h => by rw [setB_other _ _ _ (by decide)] at h ⊢; exact m65 h)⟩
      · obtain rfl := Option.some.inj ho
        have d := k7 (hall ⟨7, .data⟩ (by simp) rfl)
        exact g_move _ _ (show v 7 = _ from d) ⟨hC, q_h, q_f, hS, keepE (by decide) k0, (fun h h2 => by rw [setB_other _ _ _ (by decide)] at h h2; rw [setV_other _ _ _ _ (by decide)]; exact k1 h h2), keepE (by decide) k2, (fun h h2 => by rw [setB_other _ _ _ (by decide)] at h h2; rw [setV_other _ _ _ _ (by decide)]; exact k3 h h2), keepE (by decide) k4, (fun h h2 => by rw [setB_other _ _ _ (by decide)] at h h2; obtain ⟨p, e1, e2, e3⟩ := k5 h h2; refine ⟨p, by rw [setV_other _ _ _ _ (by decide)]; exact e1, e2, fun h4 h5 => ?_⟩; rw [setB_other _ _ _ (by decide)] at h4 h5; rw [setV_other _ _ _ _ (by decide)]; exact e3 h4 h5), (fun h => by rw [setB_other _ _ _ (by decide)] at h; rw [setV_other _ _ _ _ (by decide)]; exact k6 h), keepE (by decide) k7, newE rfl, keepE (by decide) k9, keepE (by decide) k10, keepE (by decide) k11, keepE (by decide) k12, (fun h => by rw [setB_other _ _ _ (by decide)] at h ⊢; exact m3 h), (fun h => by rw [setB_other _ _ _ (by decide)] at h ⊢; exact m63 h), (fun h => by rw [setB_other _ _ _ (by decide)] at h ⊢; exact m65 h)⟩
      · obtain rfl := Option.some.inj ho
        have d := k8 (hall ⟨8, .data⟩ (by simp) rfl)
        exact g_extract _ _ 0 _ (show v 8 = _ from d) rfl ⟨hC, q_h, q_f, hS, keepE (by decide) k0, (fun h h2 => by rw [setB_other _ _ _ (by decide)] at h h2; rw [setV_other _ _ _ _ (by decide)]; exact k1 h h2), keepE (by decide) k2, (fun h h2 => by rw [setB_other _ _ _ (by decide)] at h h2; rw [setV_other _ _ _ _ (by decide)]; exact k3 h h2), keepE (by decide) k4, (fun h h2 => by rw [setB_other _ _ _ (by decide)] at h h2; obtain ⟨p, e1, e2, e3⟩ := k5 h h2; refine ⟨p, by rw [setV_other _ _ _ _ (by decide)]; exact e1, e2, fun h4 h5 => ?_⟩; rw [setB_other _ _ _ (by decide)] at h4 h5; rw [setV_other _ _ _ _ (by decide)]; exact e3 h4 h5), (fun h => by rw [setB_other _ _ _ (by decide)] at h; rw [setV_other _ _ _ _ (by decide)]; exact k6 h), keepE (by decide) k7, keepE (by decide) k8, newE rfl, keepE (by decide) k10, keepE (by decide) k11, keepE (by decide) k12, (fun h => by rw [setB_other _ _ _ (by decide)] at h ⊢; exact m3 h), (fun h => by rw [setB_other _ _ _ (by decide)] at h ⊢; exact m63 h), (fun h => by rw [setB_other _ _ _ (by decide)] at h ⊢; exact m65 h)⟩
      · obtain rfl := Option.some.inj ho
        have d := k8 (hall ⟨8, .data⟩ (by simp) rfl)
        exact g_extract _ _ 1 _ (show v 8 = _ from d) rfl ⟨hC, q_h, q_f, hS, keepE (by decide) k0, (fun h h2 => by rw [setB_other _ _ _ (by decide)] at h h2; rw [setV_other _ _ _ _ (by decide)]; exact k1 h h2), keepE (by decide) k2, (fun h h2 => by rw [setB_other _ _ _ (by decide)] at h h2; rw [setV_other _ _ _ _ (by decide)]; exact k3 h h2), keepE (by decide) k4, (fun h h2 => by rw [setB_other _ _ _ (by decide)] at h h2; obtain ⟨p, e1, e2, e3⟩ := k5 h h2; refine ⟨p, by rw [setV_other _ _ _ _ (by decide)]; exact e1, e2, fun h4 h5 => ?_⟩; rw [setB_other _ _ _ (by decide)] at h4 h5; rw [setV_other _ _ _ _ (by decide)]; exact e3 h4 h5), (fun h => by rw [setB_other _ _ _ (by decide)] at h; rw [setV_other _ _ _ _ (by decide)]; exact k6 h), keepE (by decide) k7, keepE (by decide) k8, keepE (by decide) k9, newE rfl, keepE (by decide) k11, keepE (by decide) k12, (fun h => by rw [setB_other _ _ _ (by decide)] at h ⊢; exact m3 h), (fun h => by rw [setB_other _ _ _ (by decide)] at h ⊢; exact m63 h), (fun h => by rw [setB_other _ _ _ (by decide)] at h ⊢; exact m65 h)⟩
      · obtain rfl := Option.some.inj ho
        have d := k9 (hall ⟨9, .data⟩ (by simp) rfl)
        exact g_assign _ _ (show v 9 = _ from d) ⟨hC, q_h, q_f, hS, keepE (by decide) k0, (fun h h2 => by rw [setB_other _ _ _ (by decide)] at h h2; rw [setV_other _ _ _ _ (by decide)]; exact k1 h h2), keepE (by decide) k2, (fun h h2 => by rw [setB_other _ _ _ (by decide)] at h h2; rw [setV_other _ _ _ _ (by decide)]; exact k3 h h2), keepE (by decide) k4, (fun h h2 => by rw [setB_other _ _ _ (by decide)] at h h2; obtain ⟨p, e1, e2, e3⟩ := k5 h h2; refine ⟨p, by rw [setV_other _ _ _ _ (by decide)]; exact e1, e2, fun h4 h5 => ?_⟩; rw [setB_other _ _ _ (by decide)] at h4 h5; rw [setV_other _ _ _ _ (by decide)]; exact e3 h4 h5), (fun h => by rw [setB_other _ _ _ (by decide)] at h; rw [setV_other _ _ _ _ (by decide)]; exact k6 h), keepE (by decide) k7, keepE (by decide) k8, keepE (by decide) k9, keepE (by decide) k10, newE rfl, keepE (by decide) k12, (fun h => by rw [setB_other _ _ _ (by decide)] at h ⊢; exact m3 h), (fun h => by rw [setB_other _ _ _ (by decide)] at h ⊢; exact m63 h), (fun h => by rw [setB_other _ _ _ (by decide)] at h ⊢; exact m65 h)⟩
      · obtain rfl := Option.some.inj ho
        have d := k10 (hall ⟨10, .data⟩ (by simp) rfl)
        exact g_assign _ _ (show v 10 = _ from d) ⟨hC, q_h, q_f, hS, keepE (by decide) k0, (fun h h2 => by rw [setB_other _ _ _ (by decide)] at h h2; rw [setV_other _ _ _ _ (by decide)]; exact k1 h h2), keepE (by decide) k2, (fun h h2 => by rw [setB_other _ _ _ (by decide)] at h h2; rw [setV_other _ _ _ _ (by decide)]; exact k3 h h2), keepE (by decide) k4, (fun h h2 => by rw [setB_other _ _ _ (by decide)] at h h2; obtain ⟨p, e1, e2, e3⟩ := k5 h h2; refine ⟨p, by rw [setV_other _ _ _ _ (by decide)]; exact e1, e2, fun h4 h5 => ?_⟩; rw [setB_other _ _ _ (by decide)] at h4 h5; rw [setV_other _ _ _ _ (by decide)]; exact e3 h4 h5), (fun h => by rw [setB_other _ _ _ (by decide)] at h; rw [setV_other _ _ _ _ (by decide)]; exact k6 h), keepE (by decide) k7, keepE (by decide) k8, keepE (by decide) k9, keepE (by decide) k10, keepE (by decide) k11, newE rfl, (fun h => by rw [setB_other _ _ _ (by decide)] at h ⊢; exact m3 h), (fun h => by rw [setB_other _ _ _ (by decide)] at h ⊢; exact m63 h), (fun h => by rw [setB_other _ _ _ (by decide)] at h ⊢; exact m65 h)⟩
      · simp at ho
    · simp only [full, Act.put, List.setIfInBounds_toArray, List.set_cons_succ, List.set_cons_zero, Nat.zero_add, Nat.reduceAdd]
      intro t v w6 hSS ht
      obtain ⟨hC, q_h, q_f, hS, k0, k1, k2, k3, k4, k5, k6, k7, k8, k9, k10, k11, k12, m3, m63, m65⟩ := hSS
      have d0 := k0 (ht 0 (by decide)); (try rw [d0])
      clear d0
      have d2 := k2 (ht 2 (by decide)); (try rw [d2])
      clear d2
      have d4 := k4 (ht 4 (by decide)); (try rw [d4])
      clear d4
      have d7 := k7 (ht 7 (by decide)); (try rw [d7])
      clear d7
      have d8 := k8 (ht 8 (by decide)); (try rw [d8])
      clear d8
      have d9 := k9 (ht 9 (by decide)); (try rw [d9])
      clear d9
      have d10 := k10 (ht 10 (by decide)); (try rw [d10])
      clear d10
      have d11 := k11 (ht 11 (by decide)); (try rw [d11])
      clear d11
      have d12 := k12 (ht 12 (by decide)); (try rw [d12])
      clear d12
      clear ht k0 k1 k2 k3 k4 k5 k6 k7 k8 k9 k10 k11 k12 m3 m63 m65
      generalize v 1 = y1
      generalize v 3 = y3
      generalize v 5 = y5
      generalize v 6 = y6
      replace hB := hC
      replace b_h := q_h
      replace b_f := q_f
      clear hC q_h q_f hS v t
      go_wp2_with (first
        | ((with_reducible refine at_loadD 46 26 ?_); refine L_give (by rfl) (g_load_all 26 _ (w.heap.size) (hc (h)) 26 _ rfl (b_h) Try.underlying26 rfl (szH hz) ?_); (try simp only [Act.put, List.setIfInBounds_toArray, List.set_cons_zero, List.set_cons_succ]))
        | ((with_reducible refine at_loadD 47 48 ?_); refine L_give (by rfl) (g_load_all 48 _ (w1.heap.size) (fc (f)) 48 _ rfl (b_f) Try.underlying48 rfl (szF fz) ?_); (try simp only [Act.put, List.setIfInBounds_toArray, List.set_cons_zero, List.set_cons_succ]))
        | ((with_reducible refine at_bslD 48 ?_); refine L_give (by rfl) (g_bslF _ f rfl ?_); intro w7 t_ b_n; have o_h_n := b_h.lt; have o_f_n := b_f.lt; have l_hB_n : _ ≤ w6.heap.size := hB.size; replace b_h := t_.blk b_h (Nat.ne_of_lt b_h.lt); replace b_f := t_.blk b_f (Nat.ne_of_lt b_f.lt); replace hB := t_.below hB l_hB_n; clear t_; (try simp only [Act.put, List.setIfInBounds_toArray, List.set_cons_zero, List.set_cons_succ]))
        | ((with_reducible refine at_callD 49 ?_); refine L_give (by rfl) (g_call 21 _ _ [.agg (hc (h)).toArray, .slice (some ⟨w6.heap.size, 0, none⟩) 1 1] (kf21 _ _) rfl ((hwrite_any h [f] _ 1 w7 hi hn1.out (fis_blk [f] b_n) C I hC1).mono ?_)); rintro e w8 ⟨rfl, t_⟩; refine ⟨_, rfl, ?_⟩; replace b_h := b_h.below t_ b_h.lt; replace b_f := b_f.below t_ b_f.lt; replace b_n := b_n.below t_ b_n.lt; replace hB := hB.trans (t_.mono hB.size); clear t_; (try simp only [Act.put, List.setIfInBounds_toArray, List.set_cons_zero, List.set_cons_succ]))
        | ((with_reducible refine at_binD 53 ?_); refine L_give (by rfl) (g_ine 28 _ _ .i64 _ _ false rfl rfl (decide_eq_false (fun q => q hE.out)) ?_); (try simp only [Act.put, List.setIfInBounds_toArray, List.set_cons_zero, List.set_cons_succ]))
        | ((with_reducible refine at_binD 56 ?_); refine L_give (by rfl) (g_ine 28 _ _ .i64 _ _ false rfl rfl (decide_eq_false (fun q => q hI.out)) ?_); (try simp only [Act.put, List.setIfInBounds_toArray, List.set_cons_zero, List.set_cons_succ]))
        | ((with_reducible refine at_binD 65 ?_); refine L_give (by rfl) (g_ieq 28 _ _ .i64 _ _ true rfl rfl (by decide) ?_); (try simp only [Act.put, List.setIfInBounds_toArray, List.set_cons_zero, List.set_cons_succ]))
        | ((with_reducible refine at_sliceD 70 ?_); refine L_give (by rfl) (g_sl_l _ _ C C2 48 rfl rfl hC48 hC2.out ?_); (try simp only [Act.put, List.setIfInBounds_toArray, List.set_cons_zero, List.set_cons_succ]))
        | ((with_reducible refine at_binD 71 ?_); refine L_give (by rfl) (g_sadd 9 _ _ A C2 B rfl rfl hAB.out (by omega) ?_); (try simp only [Act.put, List.setIfInBounds_toArray, List.set_cons_zero, List.set_cons_succ]))
        | ((with_reducible refine at_binD 72 ?_); refine L_give (by rfl) (g_seql 9 _ _ (B) (B) true rfl rfl (decide_eq_true rfl) ?_); (try simp only [Act.put, List.setIfInBounds_toArray, List.set_cons_zero, List.set_cons_succ])))
      go_ret
      exact ⟨rfl, hB⟩
theorem walk (h : Hd) (l : List (Int × ByteArray)) (ao : Option Addr) (cap : Nat) (f : Int × ByteArray) (w : World) (hi : InH h) (hn : l.length ≤ 140737488355328) (hf : Fis w (.slice ao l.length cap) l) (hcap : l.length ≤ cap) (hz0 : ao = none → cap = 0) (hfk : In64 f.1) : Calls Try.prog 9 #[.agg (hc h).toArray, .slice ao l.length cap, .agg (fc f).toArray] w fun e w' => e = .returned (.bool true) ∧ Below w.heap.size w w' := by
  by_cases hl : (2048 : Int) < ((f.2.size : Nat) : Int)
  · exact walk1 h l ao cap f w hi hn hf hcap hz0 hfk hl
  · by_cases hl2 : (15 : Int) < ((l.length : Nat) : Int)
    · exact walk2 h l ao cap f w hi hn hf hcap hz0 hfk hl hl2
    · obtain ⟨A, E, hA⟩ : ∃ A E, wr h l = (A, E) := ⟨_, _, rfl⟩
      obtain ⟨C, I, hC⟩ : ∃ C I, wr h [f] = (C, I) := ⟨_, _, rfl⟩
      by_cases hE : E = 0
      · by_cases hI : I = 0
        · subst hE
          subst hI
          obtain ⟨a, b, c, d⟩ := join_ok h l f A C (by omega) hA hC
          exact walk5 h l ao cap f w hi hn hf hcap hz0 hfk hl hl2 A C 0 0 hA hC rfl rfl _ _ b rfl rfl d (by rw [ByteArray.size_extract]; omega) a
        · exact walk4 h l ao cap f w hi hn hf hcap hz0 hfk hl hl2 A C E I hA hC hE hI (join_bad h l f A C E I (by omega) hA hC (.inr hI))
      · exact walk3 h l ao cap f w hi hn hf hcap hz0 hfk hl hl2 A C E I hA hC hE (join_bad h l f A C E I (by omega) hA hC (.inl hE))
end Go.Proofs.Yteieacamokoejaa.headJoins
