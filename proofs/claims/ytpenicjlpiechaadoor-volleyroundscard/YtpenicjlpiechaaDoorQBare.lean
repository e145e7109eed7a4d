/- The reference's numbers, and what its bare answers. What single operations on the reference's numbers yield. -/
import Derived.RegionTactic
import Derived.BigQuiet
import Derived.ChangeAlike
import Derived.Test.YtpenicjlpiechaaDoorQSum
namespace Go.Proofs.YtpenicjlpiechaaDoor.Wd
set_option maxRecDepth 10000
open Go Go.RowKit
set_option linter.unusedVariables false
/-- A sign and a slice of bits are the number z, without bits 0 at the end. -/
def RF (w : World) (s : Bool) (b : Value) (z : Int) : Prop := ∃ l, Rd w b l ∧ Can l ∧ z = iv s l ∧ (l = [] → s = false)
def RN (w : World) (u : Value) (z : Int) : Prop := ∃ s b, u = .agg #[.bool s, b] ∧ RF w s b z
theorem RF.below {w w' : World} {s : Bool} {v : Value} {z : Int} (h : RF w s v z) (hb : Below w.heap.size w w') : RF w' s v z := by
  obtain ⟨l, h1, h2⟩ := h
  exact ⟨l, h1.below hb, h2⟩
theorem RF.turn {w w' : World} {s : Bool} {v : Value} {z : Int} {b : Nat} {cs : List Value} {t : TypeId} (h : RF w s v z) (ht : Turn b w w') (hb : Blk w b cs t) (hn : t ≠ 4) : RF w' s v z := by
  obtain ⟨l, h1, h2⟩ := h
  exact ⟨l, h1.turn ht hb hn, h2⟩
theorem RN.below {w w' : World} {v : Value} {z : Int} (h : RN w v z) (hb : Below w.heap.size w w') : RN w' v z := by
  obtain ⟨s, b, h1, h2⟩ := h
  exact ⟨s, b, h1, h2.below hb⟩
theorem RN.turn {w w' : World} {v : Value} {z : Int} {b : Nat} {cs : List Value} {t : TypeId} (h : RN w v z) (ht : Turn b w w') (hb : Blk w b cs t) (hn : t ≠ 4) : RN w' v z := by
  obtain ⟨s, c, h1, h2⟩ := h
  exact ⟨s, c, h1, h2.turn ht hb hn⟩
theorem szR : (Tryd.prog.info? 72).map (·.size) = some 2 := by kernel_rfl
theorem bare_end (s : Bool) (l : List Bool) (g cap k : Nat) (sp : List Value) (w W : World) (h1 : l.length ≤ cap) (h2 : cap ≤ 9223372036854775807) (h3 : cap ≤ l.length + sp.length) (hb : Blk w g (bl l ++ sp) 4) (hk : k ≤ l.length) (hv : val (l.take k) = val l) (hc : k = 0 ∨ atB l (k - 1) = true) (hB : Below w.heap.size w W) :
    RF W (s && decide (0 < k)) (.slice (some ⟨g, 0, none⟩) k cap) (iv s l) := by
  refine ⟨l.take k, ⟨g, cap, bl (l.drop k) ++ sp, by rw [List.length_take, Nat.min_eq_left hk], by rw [List.length_take]; omega, h2, ?_, ?_⟩, ?_, ?_, ?_⟩
  · rw [List.length_take, List.length_append, bl_length, List.length_drop]; omega
  · rw [← List.append_assoc, bl_append, List.take_append_drop]
    exact hb.below hB hb.lt
  · by_cases hk0 : k = 0
    · subst hk0; exact .inl rfl
    · refine .inr ?_
      rcases hc with hc | hc
      · exact absurd hc hk0
      · rw [List.length_take, Nat.min_eq_left hk]
        have e : atB (l.take k) (k - 1) = atB l (k - 1) := by
          rw [atB_lt _ _ (by rw [List.length_take]; omega), atB_lt _ _ (by omega), List.getElem_take]
        rw [e, hc]
  · by_cases hk0 : k = 0
    · subst hk0
      rw [List.take_zero, val_nil] at hv
      cases s <;> simp [iv, ← hv, val]
    · rw [decide_eq_true (by omega), Bool.and_true]
      cases s <;> simp [iv, hv]
  · intro h
    have : k = 0 := by
      have := congrArg List.length h
      rw [List.length_take, Nat.min_eq_left hk] at this
      exact this
    subst this
    simp
set_option maxRecDepth 10000 in
set_option maxHeartbeats 4000000 in
theorem bare_l (s : Bool) (l : List Bool) (g cap : Nat) (sp : List Value) (w : World) (h1 : l.length ≤ cap) (h2 : cap ≤ 9223372036854775807) (h3 : cap ≤ l.length + sp.length) (hb : Blk w g (bl l ++ sp) 4) (hn : l.length ≤ 4000) :
    Calls Tryd.prog 55 #[.agg #[.bool s, .slice (some ⟨g, 0, none⟩) l.length cap]] w fun e w' => ∃ u, e = .returned u ∧ RN w' u (iv s l) ∧ Below w.heap.size w w' := by
  have hlt := hb.lt
  go_enter Tryd.func55, Tryd.ntmps55
  go_wp2_with fail
  go_loop [3] (fun i => ∃ k : Nat, k ≤ l.length ∧ i = .int .i64 k ∧ Hid (val (l.take k) = val l)) (fun i => (intOf i).toNat)
  case atStart => exact ⟨l.length, Nat.le_refl _, rfl, by show _ = _; rw [List.take_length]⟩
  case round =>
    obtain ⟨k, hk, rfl, hv⟩ := hrel
    rcases k with _ | k
    · cases s
      · skip
        go_wp2_with fail
        go_region
        go_wp2_with fail
        refine bodyPost_ret (results_blk rfl (w.heap.size + 1) [.bool false, .slice (some ⟨g, 0, none⟩) (0) cap] _ rfl (by have h := (turn_alloc (w.alloc (.cells #[.bool false, .slice (some ⟨g, 0, none⟩) l.length cap] 72)) [.bool false, .slice (some ⟨g, 0, none⟩) (0) cap] 72).2; simp only [World.alloc, Array.size_push] at h; exact h) Tryd.underlying72 rfl szR) rfl ?_
        have hBz : Below w.heap.size w (((w.alloc (.cells #[.bool false, .slice (some ⟨g, 0, none⟩) l.length cap] 72)).alloc (.cells #[.bool false, .slice (some ⟨g, 0, none⟩) (0) cap] 72)).drew) := (((Below.refl _ _).alloc (Nat.le_refl _) _).alloc (by simp) _).drew
        exact ⟨_, rfl, ⟨_, _, rfl, bare_end false l g cap (0) sp w _ h1 h2 h3 hb (by omega) hv.out (.inl rfl) hBz⟩, hBz⟩
      · skip
        go_wp2_with fail
        go_region
        go_wp2_with fail
        refine bodyPost_ret (results_blk rfl (w.heap.size + 1) [.bool false, .slice (some ⟨g, 0, none⟩) (0) cap] _ rfl (by have h := (turn_alloc (w.alloc (.cells #[.bool true, .slice (some ⟨g, 0, none⟩) l.length cap] 72)) [.bool false, .slice (some ⟨g, 0, none⟩) (0) cap] 72).2; simp only [World.alloc, Array.size_push] at h; exact h) Tryd.underlying72 rfl szR) rfl ?_
        have hBz : Below w.heap.size w (((w.alloc (.cells #[.bool true, .slice (some ⟨g, 0, none⟩) l.length cap] 72)).alloc (.cells #[.bool false, .slice (some ⟨g, 0, none⟩) (0) cap] 72)).drew) := (((Below.refl _ _).alloc (Nat.le_refl _) _).alloc (by simp) _).drew
        exact ⟨_, rfl, ⟨_, _, rfl, bare_end true l g cap (0) sp w _ h1 h2 h3 hb (by omega) hv.out (.inl rfl) hBz⟩, hBz⟩
    · have hc := Rd.cell (cap := 0) (n := 0) hb k (by omega)
      have hki : (k : Int) < (l.length : Int) := by omega
      have hsub : ((k + 1 : Nat) : Int) - 1 = (k : Int) := by omega
      cases hA : atB l k
      · rw [hA] at hc
        have hv2 : Hid (val (l.take k) = val l) := by
          show _ = _
          have e := val_take_succ l k
          rw [hA, bit_false, Nat.mul_zero] at e
          have h := hv.out
          omega
        clear hv hA
        go_wp2_with fail
        exact ⟨⟨k, by omega, by go_num, hv2⟩, by simp [intOf]⟩
      · rw [hA] at hc
        replace hA : Hid _ := hA
        cases s
        · skip
          go_wp2_with fail
          go_region
          go_wp2_with fail
          refine bodyPost_ret (results_blk rfl (w.heap.size + 1) [.bool false, .slice (some ⟨g, 0, none⟩) (k + 1) cap] _ rfl (by have h := (turn_alloc (w.alloc (.cells #[.bool false, .slice (some ⟨g, 0, none⟩) l.length cap] 72)) [.bool false, .slice (some ⟨g, 0, none⟩) (k + 1) cap] 72).2; simp only [World.alloc, Array.size_push] at h; exact h) Tryd.underlying72 rfl szR) rfl ?_
          have hBz : Below w.heap.size w (((w.alloc (.cells #[.bool false, .slice (some ⟨g, 0, none⟩) l.length cap] 72)).alloc (.cells #[.bool false, .slice (some ⟨g, 0, none⟩) (k + 1) cap] 72)).drew) := (((Below.refl _ _).alloc (Nat.le_refl _) _).alloc (by simp) _).drew
          exact ⟨_, rfl, ⟨_, _, rfl, bare_end false l g cap (k + 1) sp w _ h1 h2 h3 hb (by omega) hv.out (.inr hA.out) hBz⟩, hBz⟩
        · skip
          go_wp2_with fail
          go_region
          go_wp2_with fail
          refine bodyPost_ret (results_blk rfl (w.heap.size + 1) [.bool true, .slice (some ⟨g, 0, none⟩) (k + 1) cap] _ rfl (by have h := (turn_alloc (w.alloc (.cells #[.bool true, .slice (some ⟨g, 0, none⟩) l.length cap] 72)) [.bool true, .slice (some ⟨g, 0, none⟩) (k + 1) cap] 72).2; simp only [World.alloc, Array.size_push] at h; exact h) Tryd.underlying72 rfl szR) rfl ?_
          have hBz : Below w.heap.size w (((w.alloc (.cells #[.bool true, .slice (some ⟨g, 0, none⟩) l.length cap] 72)).alloc (.cells #[.bool true, .slice (some ⟨g, 0, none⟩) (k + 1) cap] 72)).drew) := (((Below.refl _ _).alloc (Nat.le_refl _) _).alloc (by simp) _).drew
          exact ⟨_, rfl, ⟨_, _, rfl, bare_end true l g cap (k + 1) sp w _ h1 h2 h3 hb (by omega) hv.out (.inr hA.out) hBz⟩, hBz⟩
theorem bare_any (s : Bool) (b : Value) (l : List Bool) (w : World) (hr : Rd w b l) (hn : l.length ≤ 4000) :
    Calls Tryd.prog 55 #[.agg #[.bool s, b]] w fun e w' => ∃ u, e = .returned u ∧ RN w' u (iv s l) ∧ Below w.heap.size w w' := by
  obtain ⟨g, cap, sp, rfl, h1, h2, h3, h4⟩ := hr
  exact bare_l s l g cap sp w h1 h2 h3 h4 hn
end Go.Proofs.YtpenicjlpiechaaDoor.Wd
namespace Go.Proofs.YtpenicjlpiechaaDoor.Wd
set_option maxRecDepth 10000
open Go Go.RowKit
set_option linter.unusedVariables false
section
variable {P : Program} {ops : Array Oper} {rest : List Oper} {a : Act} {w : World} {Q : Exit → Act → World → Prop} {dst : Option Tmp} {ty yt : TypeId} {pos : String} {aft : Array Edge} {gd : Option (Nat × Bool)} {K : Value → World → Prop}
theorem g_shr (x y : Operand) (m k : Nat) (hm : m < 18446744073709551616) (hk : k < 64) (hx : a.eval x = .int .u64 m) (hy : a.eval y = .int .i64 k) (hk' : K (.int .u64 ((m / 2 ^ k : Nat) : Int)) w) : gives Tryd.prog ⟨dst, .binOp .shr 34 x y 3, ty, pos, aft, gd⟩ a w K := by
  refine g_val _ w ?_ hk'
  simp only [execOp, hx, hy]
  go_simp
theorem g_rem (x : Operand) (q : Nat) (hx : a.eval x = .int .u64 q) (hk' : K (.int .u64 ((q % 2 : Nat) : Int)) w) : gives Tryd.prog ⟨dst, .binOp .rem 34 x (.const (.int .u64 2)) 34, ty, pos, aft, gd⟩ a w K := by
  refine g_val _ w ?_ hk'
  have e : a.eval (.const (.int .u64 2)) = .int .u64 2 := rfl
  simp only [execOp, hx, e]
  go_simp
  exact Int.tmod_eq_emod_of_nonneg (by omega)
theorem g_fieldR_1 (x : Operand) (b : Nat) (hx : a.eval x = .pointer (some ⟨b, 0, none⟩)) (hk : K (.pointer (some ⟨b, 1, none⟩)) w) : gives Tryd.prog ⟨dst, .fieldAddr 72 x 1, ty, pos, aft, gd⟩ a w K :=
  g_val _ w (by simp only [execOp, hx]; go_simp) hk
theorem g_fieldR_0 (x : Operand) (b : Nat) (hx : a.eval x = .pointer (some ⟨b, 0, none⟩)) (hk : K (.pointer (some ⟨b, 0, none⟩)) w) : gives Tryd.prog ⟨dst, .fieldAddr 72 x 0, ty, pos, aft, gd⟩ a w K :=
  g_val _ w (by simp only [execOp, hx]; go_simp) hk
theorem g_cell70 (x : Operand) (b o : Nat) (cs : List Value) (bt : TypeId) (v : Value) (hx : a.eval x = .pointer (some ⟨b, o, none⟩)) (hb : Blk w b cs bt) (hv : cs[o]? = some v) (hk : K v w) : gives Tryd.prog ⟨dst, .load 70 x, ty, pos, aft, gd⟩ a w K := by
  have hc := hb.cell o v hv
  exact g_val v w (by simp only [execOp, hx]; go_simp) hk
theorem g_cell4 (x : Operand) (b o : Nat) (cs : List Value) (bt : TypeId) (v : Value) (hx : a.eval x = .pointer (some ⟨b, o, none⟩)) (hb : Blk w b cs bt) (hv : cs[o]? = some v) (hk : K v w) : gives Tryd.prog ⟨dst, .load 4 x, ty, pos, aft, gd⟩ a w K := by
  have hc := hb.cell o v hv
  exact g_val v w (by simp only [execOp, hx]; go_simp) hk
theorem g_store32 (x y : Operand) (b o : Nat) (cs : List Value) (bt : TypeId) (v old : Value) (h1 : ∃ p n c, v = .slice p n c) (hx : a.eval x = .pointer (some ⟨b, o, none⟩)) (hy : a.eval y = v) (hb : Blk w b cs bt) (hv : cs[o]? = some old)
    (hk : ∀ w', Turn b w w' → Blk w' b (cs.set o v) bt → K undef w') : gives Tryd.prog ⟨dst, .store 70 x y, ty, pos, aft, gd⟩ a w K := by
  have hc := hb.cell o old hv
  have hf := hb.frozen o
  obtain ⟨t1, t2⟩ := turn_setCell w b o v cs bt hb
  unfold gives
  obtain ⟨p, n, c, rfl⟩ := h1
  have e : (execOp a.eval ⟨dst, .store 70 x y, ty, pos, aft, gd⟩).run Tryd.prog w = .ok .skip (w.setCell ⟨b, o, none⟩ (.slice p n c)) := by
    simp only [execOp, hx, hy]
    go_simp
  rw [e]
  exact hk _ t1 t2
/-- A sign and a slice: the cells of a number. -/
def rc (s : Bool) (b : Value) : List Value := [.bool s, b]
theorem g_buildR (x y : Operand) (s : Bool) (b : Value) (hs : ∃ p n c, b = .slice p n c) (hx : a.eval x = .bool s) (hy : a.eval y = b) (hk : K (.agg #[.bool s, b]) w) : gives Tryd.prog ⟨dst, .build 72 #[(0, x), (1, y)], ty, pos, aft, gd⟩ a w K := by
  obtain ⟨p, n, c, rfl⟩ := hs
  exact g_val (.agg #[.bool s, .slice p n c]) w (by simp only [execOp, hx, hy, List.map_toArray, List.map_cons, List.map_nil]; go_simp) hk
theorem g_field (x : Operand) (s : Bool) (b : Value) (hx : a.eval x = .agg #[.bool s, b]) (hk : K b w) : gives Tryd.prog ⟨dst, .field 72 x 1, ty, pos, aft, gd⟩ a w K :=
  g_val b w (by simp [execOp, hx, Instr.field, run_underlying Tryd.underlying72, part, asAgg]) hk
theorem g_len (x : Operand) (p : Option Addr) (n c : Nat) (hx : a.eval x = .slice p n c) (hk : K (.int .i64 n) w) : gives Tryd.prog ⟨dst, .call { callee := .builtin .len, args := #[x], argTypes := #[70] }, ty, pos, aft, gd⟩ a w K :=
  g_val (.int .i64 n) w (by simp only [execOp, resolve, invoke, builtin, List.map_toArray, List.map_cons, List.map_nil, hx, Sem.run_bind, Sem.run_pure, Result.andThen_ok]; go_simp) hk
end
theorem one_rc (s : Bool) (b : Value) (hs : ∃ p n c, b = .slice p n c) : ∀ v ∈ [Value.bool s, b], v.oneCell' = true := by
  intro v hv
  obtain ⟨p, n, c, rfl⟩ := hs
  simp only [List.mem_cons, List.not_mem_nil, or_false] at hv
  rcases hv with rfl | rfl <;> rfl
theorem zeroR : ∀ w, (zeroValue 72).run Tryd.prog w = .ok (.agg [Value.bool false, .slice none 0 0].toArray) w := by
  intro w; kernel_rfl
theorem Rd.sl {w : World} {v : Value} {l : List Bool} (h : Rd w v l) : ∃ p n c, v = .slice p n c := by
  obtain ⟨g, cap, sp, e, _⟩ := h
  exact ⟨_, _, _, e⟩
theorem RF.sl {w : World} {s : Bool} {v : Value} {z : Int} (h : RF w s v z) : ∃ p n c, v = .slice p n c := by
  obtain ⟨l, h, _⟩ := h
  exact h.sl
theorem RS.sl {w : World} {v : Value} {n k : Nat} (h : RS w v n k) : ∃ p n c, v = .slice p n c := by
  obtain ⟨l, h, _⟩ := h
  exact h.sl
theorem Own.sl {w : World} {B : Nat} {v : Value} {l : List Bool} (h : Own w B v l) : ∃ p n c, v = .slice p n c := by
  rcases h.2 with ⟨rfl, _⟩ | ⟨g, cap, cur, rfl, _⟩
  · exact ⟨_, _, _, rfl⟩
  · exact ⟨_, _, _, rfl⟩
end Go.Proofs.YtpenicjlpiechaaDoor.Wd
