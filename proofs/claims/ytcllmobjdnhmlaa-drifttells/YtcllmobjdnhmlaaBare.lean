/- The reference's numbers, and what its bare answers. -/
import Derived.RegionTactic
import Derived.BigQuiet
import Derived.ChangeAlike
import Derived.Test.YtcllmobjdnhmlaaSum
namespace Go.Proofs.Ytcllmobjdnhmlaa
open Go Go.RowKit
set_option linter.unusedVariables false
/-- A sign and a slice of bits are the number z, without bits 0 at the end. -/
def RF (w : World) (s : Bool) (b : Value) (z : Int) : Prop := ∃ l, Rd w b l ∧ Can l ∧ z = iv s l ∧ (l = [] → s = false)
def RN (w : World) (u : Value) (z : Int) : Prop := ∃ s b, u = .agg #[.bool s, b] ∧ RF w s b z
theorem RF.below {w w' : World} {s : Bool} {v : Value} {z : Int} (h : RF w s v z) (hb : Below w.heap.size w w') : RF w' s v z := by
  obtain ⟨l, h1, h2⟩ := h
  exact ⟨l, h1.below hb, h2⟩
theorem RF.turn {w w' : World} {s : Bool} {v : Value} {z : Int} {b : Nat} {cs : List Value} {t : TypeId} (h : RF w s v z) (ht : Turn b w w') (hb : Blk w b cs t) (hn : t ≠ 4) : RF w' s v z := by
  obtain ⟨l, h1, h2⟩ := h
  exact ⟨l, h1.turn ht hb hn, h2⟩
theorem RN.below {w w' : World} {v : Value} {z : Int} (h : RN w v z) (hb : Below w.heap.size w w') : RN w' v z := by
  obtain ⟨s, b, h1, h2⟩ := h
  exact ⟨s, b, h1, h2.below hb⟩
theorem RN.turn {w w' : World} {v : Value} {z : Int} {b : Nat} {cs : List Value} {t : TypeId} (h : RN w v z) (ht : Turn b w w') (hb : Blk w b cs t) (hn : t ≠ 4) : RN w' v z := by
  obtain ⟨s, c, h1, h2⟩ := h
  exact ⟨s, c, h1, h2.turn ht hb hn⟩
theorem szR : (Try.prog.info? 54).map (·.size) = some 2 := by kernel_rfl
theorem bare_end (s : Bool) (l : List Bool) (g cap k : Nat) (sp : List Value) (w W : World) (h1 : l.length ≤ cap) (h2 : cap ≤ 9223372036854775807) (h3 : cap ≤ l.length + sp.length) (hb : Blk w g (bl l ++ sp) 4) (hk : k ≤ l.length) (hv : val (l.take k) = val l) (hc : k = 0 ∨ atB l (k - 1) = true) (hB : Below w.heap.size w W) :
    RF W (s && decide (0 < k)) (.slice (some ⟨g, 0, none⟩) k cap) (iv s l) := by
  refine ⟨l.take k, ⟨g, cap, bl (l.drop k) ++ sp, by rw [List.length_take, Nat.min_eq_left hk], by rw [List.length_take]; omega, h2, ?_, ?_⟩, ?_, ?_, ?_⟩
  · rw [List.length_take, List.length_append, bl_length, List.length_drop]; omega
  · rw [← List.append_assoc, bl_append, List.take_append_drop]
    exact hb.below hB hb.lt
  · by_cases hk0 : k = 0
    · subst hk0; exact .inl rfl
    · refine .inr ?_
      rcases hc with hc | hc
      · exact absurd hc hk0
      · rw [List.length_take, Nat.min_eq_left hk]
        have e : atB (l.take k) (k - 1) = atB l (k - 1) := by
          rw [atB_lt _ _ (by rw [List.length_take]; omega), atB_lt _ _ (by omega), List.getElem_take]
        rw [e, hc]
  · by_cases hk0 : k = 0
    · subst hk0
      rw [List.take_zero, val_nil] at hv
      cases s <;> simp [iv, ← hv, val]
    · rw [decide_eq_true (by omega), Bool.and_true]
      cases s <;> simp [iv, hv]
  · intro h
    have : k = 0 := by
      have := congrArg List.length h
      rw [List.length_take, Nat.min_eq_left hk] at this
      exact this
    subst this
    simp
set_option maxRecDepth 10000 in
set_option maxHeartbeats 4000000 in
theorem bare_l (s : Bool) (l : List Bool) (g cap : Nat) (sp : List Value) (w : World) (h1 : l.length ≤ cap) (h2 : cap ≤ 9223372036854775807) (h3 : cap ≤ l.length + sp.length) (hb : Blk w g (bl l ++ sp) 4) (hn : l.length ≤ 4000) :
    Calls Try.prog 40 #[.agg #[.bool s, .slice (some ⟨g, 0, none⟩) l.length cap]] w fun e w' => ∃ u, e = .returned u ∧ RN w' u (iv s l) ∧ Below w.heap.size w w' := by
  have hlt := hb.lt
  go_enter Try.func40, Try.ntmps40
  go_wp2_with fail
  go_loop [3] (fun i => ∃ k : Nat, k ≤ l.length ∧ i = .int .i64 k ∧ Hid (val (l.take k) = val l)) (fun i => (intOf i).toNat)
  case atStart => exact ⟨l.length, Nat.le_refl _, rfl, by show _ = _; rw [List.take_length]⟩
  case round =>
    obtain ⟨k, hk, rfl, hv⟩ := hrel
    rcases k with _ | k
    · cases s
      · skip
        go_wp2_with fail
        go_region
        go_wp2_with fail
        refine bodyPost_ret (results_blk rfl (w.heap.size + 1) [.bool false, .slice (some ⟨g, 0, none⟩) (0) cap] _ rfl (by have h := (turn_alloc (w.alloc (.cells #[.bool false, .slice (some ⟨g, 0, none⟩) l.length cap] 54)) [.bool false, .slice (some ⟨g, 0, none⟩) (0) cap] 54).2; simp only [World.alloc, Array.size_push] at h; exact h) Try.underlying54 rfl szR) rfl ?_
        have hBz : Below w.heap.size w (((w.alloc (.cells #[.bool false, .slice (some ⟨g, 0, none⟩) l.length cap] 54)).alloc (.cells #[.bool false, .slice (some ⟨g, 0, none⟩) (0) cap] 54)).drew) := (((Below.refl _ _).alloc (Nat.le_refl _) _).alloc (by simp) _).drew
        exact ⟨_, rfl, ⟨_, _, rfl, bare_end false l g cap (0) sp w _ h1 h2 h3 hb (by omega) hv.out (.inl rfl) hBz⟩, hBz⟩
      · skip
        go_wp2_with fail
        go_region
        go_wp2_with fail
        refine bodyPost_ret (results_blk rfl (w.heap.size + 1) [.bool false, .slice (some ⟨g, 0, none⟩) (0) cap] _ rfl (by have h := (turn_alloc (w.alloc (.cells #[.bool true, .slice (some ⟨g, 0, none⟩) l.length cap] 54)) [.bool false, .slice (some ⟨g, 0, none⟩) (0) cap] 54).2; simp only [World.alloc, Array.size_push] at h; exact h) Try.underlying54 rfl szR) rfl ?_
        have hBz : Below w.heap.size w (((w.alloc (.cells #[.bool true, .slice (some ⟨g, 0, none⟩) l.length cap] 54)).alloc (.cells #[.bool false, .slice (some ⟨g, 0, none⟩) (0) cap] 54)).drew) := (((Below.refl _ _).alloc (Nat.le_refl _) _).alloc (by simp) _).drew
        exact ⟨_, rfl, ⟨_, _, rfl, bare_end true l g cap (0) sp w _ h1 h2 h3 hb (by omega) hv.out (.inl rfl) hBz⟩, hBz⟩
    · have hc := Rd.cell (cap := 0) (n := 0) hb k (by omega)
      have hki : (k : Int) < (l.length : Int) := by omega
      have hsub : ((k + 1 : Nat) : Int) - 1 = (k : Int) := by omega
      cases hA : atB l k
      · rw [hA] at hc
        have hv2 : Hid (val (l.take k) = val l) := by
          show _ = _
          have e := val_take_succ l k
          rw [hA, bit_false, Nat.mul_zero] at e
          have h := hv.out
          omega
        clear hv hA
        go_wp2_with fail
        exact ⟨⟨k, by omega, by go_num, hv2⟩, by simp [intOf]⟩
      · rw [hA] at hc
        replace hA : Hid _ := hA
        cases s
        · skip
          go_wp2_with fail
          go_region
          go_wp2_with fail
          refine bodyPost_ret (results_blk rfl (w.heap.size + 1) [.bool false, .slice (some ⟨g, 0, none⟩) (k + 1) cap] _ rfl (by have h := (turn_alloc (w.alloc (.cells #[.bool false, .slice (some ⟨g, 0, none⟩) l.length cap] 54)) [.bool false, .slice (some ⟨g, 0, none⟩) (k + 1) cap] 54).2; simp only [World.alloc, Array.size_push] at h; exact h) Try.underlying54 rfl szR) rfl ?_
          have hBz : Below w.heap.size w (((w.alloc (.cells #[.bool false, .slice (some ⟨g, 0, none⟩) l.length cap] 54)).alloc (.cells #[.bool false, .slice (some ⟨g, 0, none⟩) (k + 1) cap] 54)).drew) := (((Below.refl _ _).alloc (Nat.le_refl _) _).alloc (by simp) _).drew
          exact ⟨_, rfl, ⟨_, _, rfl, bare_end false l g cap (k + 1) sp w _ h1 h2 h3 hb (by omega) hv.out (.inr hA.out) hBz⟩, hBz⟩
        · skip
          go_wp2_with fail
          go_region
          go_wp2_with fail
          refine bodyPost_ret (results_blk rfl (w.heap.size + 1) [.bool true, .slice (some ⟨g, 0, none⟩) (k + 1) cap] _ rfl (by have h := (turn_alloc (w.alloc (.cells #[.bool true, .slice (some ⟨g, 0, none⟩) l.length cap] 54)) [.bool true, .slice (some ⟨g, 0, none⟩) (k + 1) cap] 54).2; simp only [World.alloc, Array.size_push] at h; exact h) Try.underlying54 rfl szR) rfl ?_
          have hBz : Below w.heap.size w (((w.alloc (.cells #[.bool true, .slice (some ⟨g, 0, none⟩) l.length cap] 54)).alloc (.cells #[.bool true, .slice (some ⟨g, 0, none⟩) (k + 1) cap] 54)).drew) := (((Below.refl _ _).alloc (Nat.le_refl _) _).alloc (by simp) _).drew
          exact ⟨_, rfl, ⟨_, _, rfl, bare_end true l g cap (k + 1) sp w _ h1 h2 h3 hb (by omega) hv.out (.inr hA.out) hBz⟩, hBz⟩
theorem bare_any (s : Bool) (b : Value) (l : List Bool) (w : World) (hr : Rd w b l) (hn : l.length ≤ 4000) :
    Calls Try.prog 40 #[.agg #[.bool s, b]] w fun e w' => ∃ u, e = .returned u ∧ RN w' u (iv s l) ∧ Below w.heap.size w w' := by
  obtain ⟨g, cap, sp, rfl, h1, h2, h3, h4⟩ := hr
  exact bare_l s l g cap sp w h1 h2 h3 h4 hn
end Go.Proofs.Ytcllmobjdnhmlaa
