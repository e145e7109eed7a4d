/- What the reference's Of answers, at all numbers of 64 bits. -/
import Derived.Test.YtpenicjlpiechaaDoorQBare
namespace Go.Proofs.YtpenicjlpiechaaDoor.Wd
set_option maxRecDepth 10000
open Go Go.RowKit
set_option linter.unusedVariables false
theorem val_bit (m k : Nat) (l : List Bool) (x : Bool) (hl : l.length = k) (hv : val l = m % 2 ^ k) (hx : decide (((m / 2 ^ k % 2 : Nat) : Int) = 1) = x) : val (l ++ [x]) = m % 2 ^ (k + 1) := by
  rw [val_snoc, hl, hv, Nat.pow_succ, Nat.mod_mul]
  congr 2
  subst hx
  have := Nat.mod_two_eq_zero_or_one (m / 2 ^ k)
  rcases this with h | h <;> rw [h] <;> rfl

set_option maxRecDepth 10000 in
set_option maxHeartbeats 8000000 in
theorem of_loop (n : Int) (m : Nat) (s : Bool) (w : World) (hn : In64 n) (hs : decide (n < 0) = s) (hm : m < 18446744073709551616) (hiv : Hid (n = if s then -(m : Int) else m))
    (x1 x2 : Int) (e1 : IntKind.u64.wrap n = x1) (e2 : s = true → bits .xor .u64 IntKind.u64.max x1 = x2) (e3 : s = true → IntKind.u64.wrap (x2 + 1) = m) (e4 : s = false → x1 = m) :
    Calls Tryd.prog 36 #[.int .i64 n] w fun e w' => ∃ u, e = .returned u ∧ RN w' u n ∧ Below w.heap.size w w' := by
  have s2 : IntKind.u64.signed = false := rfl
  have hent : ∀ Q : Prop, Q → Q := fun _ h => h
  cases s

  · have hn0 : ¬ n < 0 := of_decide_eq_false hs
    replace e4 := e4 rfl
    rw [e4] at e1
    clear e2 e3 e4 hs
    go_enter Tryd.func36, Tryd.ntmps36
    go_wp2_with fail
    have hb_o1 : Blk ((w.alloc (.cells #[.bool false, .slice none 0 0] 72)).alloc (.cells #[.bool false, .slice none 0 0] 72)) (w.heap.size + 1) [.bool false, .slice none 0 0] 72 := by
      have h := (turn_alloc (w.alloc (.cells #[.bool false, .slice none 0 0] 72)) [.bool false, .slice none 0 0] 72).2
      simp only [World.alloc, Array.size_push] at h
      exact h
    have hb_r1 : Blk ((w.alloc (.cells #[.bool false, .slice none 0 0] 72)).alloc (.cells #[.bool false, .slice none 0 0] 72)) w.heap.size [.bool false, .slice none 0 0] 72 := (turn_alloc _ [.bool false, .slice none 0 0] 72).1.blk (turn_alloc w [.bool false, .slice none 0 0] 72).2 (by simp)
    go_loopw [5] (fun i wr => ∃ (k : Nat) (l : List Bool) (sv : Value), k ≤ 64 ∧ i = .int .i64 k ∧ Blk wr w.heap.size [.bool false, .slice none 0 0] 72 ∧ Blk wr (w.heap.size + 1) [.bool false, sv] 72 ∧ Own wr (w.heap.size + 2) sv l ∧ l.length = k ∧ w.heap.size + 2 ≤ wr.heap.size ∧ Below w.heap.size w wr ∧ (0 < k → sv ≠ .slice none 0 0) ∧ Hid (val l = m % 2 ^ k)) (fun i _ => 64 - (intOf i).toNat)
    case atStart => exact ⟨0, [], .slice none 0 0, by omega, rfl, hb_r1, hb_o1, Own.nil _ _, rfl, by simp, ((Below.refl _ _).alloc (Nat.le_refl _) _).alloc (by simp) _, by omega, by show _ = _; rw [Nat.pow_zero, Nat.mod_one]; rfl⟩
    case round =>
      obtain ⟨k, l, sv, hk64, rfl, hb_r, hb_o, ho, hlk, hBs, hBw, hnn, hv⟩ := hrel
      clear hb_o1 hb_r1
      by_cases hk : k < 64
      · obtain ⟨x, hx⟩ : ∃ x, decide (((m / 2 ^ k % 2 : Nat) : Int) = 1) = x := ⟨_, rfl⟩
        have hv2 : Hid (val (l ++ [x]) = m % 2 ^ (k + 1)) := val_bit m k l x hlk hv.out hx
        replace hx : Hid _ := hx
        clear hv hnn
        go_wp2_with (first | ((with_reducible refine stop_region 8 ?_); intro X hX))
        refine hX.out ?_
        clear hX
        refine wp_region_inv (by kernel_rfl) (by kernel_rfl) (fun t v wx => Below w.heap.size wr wx ∧ wr.heap.size ≤ wx.heap.size ∧ Blk wx (w.heap.size) [.bool false, .slice none 0 0] 72 ∧ (t 0 = true → v 0 = .pointer (some ⟨w.heap.size + 1, 1, none⟩)) ∧ (t 1 = true → v 1 = sv) ∧ (t 2 = true → v 2 = .int .u64 (m : Nat)) ∧ (t 3 = true → v 3 = .int .i64 (k : Nat)) ∧ (t 4 = true → v 4 = .int .u64 ((m / 2 ^ k : Nat) : Int)) ∧ (t 5 = true → v 5 = .int .u64 ((m / 2 ^ k % 2 : Nat) : Int)) ∧ (t 6 = true → v 6 = .bool x) ∧ (t 7 = true → t 8 = false → Rd wx (v 7) [x]) ∧ (t 8 = false → Own wx (w.heap.size + 2) (sv) (l)) ∧ (t 8 = true → Own wx (w.heap.size + 2) (v 8) (l ++ [x]) ∧ v 8 ≠ .slice none 0 0) ∧ (t 8 = true → t 1 = true) ∧ (t 9 = true → v 9 = .pointer (some ⟨w.heap.size + 1, 1, none⟩)) ∧ (t 10 = false → Blk wx (w.heap.size + 1) [.bool false, sv] 72) ∧ (t 10 = true → ∃ u, Blk wx (w.heap.size + 1) [.bool false, u] 72 ∧ Own wx (w.heap.size + 2) u (l ++ [x]) ∧ u ≠ .slice none 0 0) ∧ (t 10 = true → t 8 = true)) ?_ ?_ ?_
        · exact ⟨(Below.refl _ _).drew, Nat.le_refl _, hb_r, (fun h => by cases h), (fun h => by cases h), (fun h => by cases h), (fun h => by cases h), (fun h => by cases h), (fun h => by cases h), (fun h => by cases h), (fun h => by cases h), (fun _ => ho), (fun h => by cases h), (fun h => by cases h), (fun h => by cases h), (fun _ => hb_o), (fun h => by cases h), (fun h => by cases h)⟩
        · simp only [full, Act.put, List.setIfInBounds_toArray, List.set_cons_succ, List.set_cons_zero, Nat.zero_add, Nat.reduceAdd]
          intro i o ho_ t v wx hS hti hall
          obtain ⟨hB8, hsz, hr, k0, k1, k2, k3, k4, k5, k6, k7, k8a, k8b, c8, k9, k10a, k10b, c10⟩ := hS
          have hBx : w.heap.size + 2 ≤ wx.heap.size := Nat.le_trans hBs hsz
          rcases i with _ | _ | _ | _ | _ | _ | _ | _ | _ | _ | _ | i
          · obtain rfl := Option.some.inj ho_
            refine g_fieldR_1 _ _ rfl ?_
            exact ⟨hB8, hsz, hr, newE rfl, keepE (by decide) k1, keepE (by decide) k2, keepE (by decide) k3, keepE (by decide) k4, keepE (by decide) k5, keepE (by decide) k6, (fun h h' => by rw [setB_other _ _ _ (by decide)] at h h'; rw [setV_other _ _ _ _ (by decide)]; exact k7 h h'), (fun h => by rw [setB_other _ _ _ (by decide)] at h; exact k8a h), (fun h => by rw [setB_other _ _ _ (by decide)] at h; rw [setV_other _ _ _ _ (by decide)]; exact k8b h), (fun h => by rw [setB_other _ _ _ (by decide)] at h ⊢; exact c8 h), keepE (by decide) k9, (fun h => by rw [setB_other _ _ _ (by decide)] at h; exact k10a h), (fun h => by rw [setB_other _ _ _ (by decide)] at h; obtain ⟨u, u1, u2, u3⟩ := k10b h; exact ⟨u, u1, u2, u3⟩), (fun h => by rw [setB_other _ _ _ (by decide)] at h ⊢; exact c10 h)⟩
          · obtain rfl := Option.some.inj ho_
            have d0 := k0 (hall ⟨0, .data⟩ (by simp) rfl)
            have h10 : t 10 = false := by
              cases h : t 10
              · rfl
              · have := c8 (c10 h); rw [hti] at this; cases this
            refine g_cell70 _ (w.heap.size + 1) 1 _ 72 _ (show v 0 = _ from d0) (k10a h10) rfl ?_
            exact ⟨hB8, hsz, hr, keepE (by decide) k0, newE rfl, keepE (by decide) k2, keepE (by decide) k3, keepE (by decide) k4, keepE (by decide) k5, keepE (by decide) k6, (fun h h' => by rw [setB_other _ _ _ (by decide)] at h h'; rw [setV_other _ _ _ _ (by decide)]; exact k7 h h'), (fun h => by rw [setB_other _ _ _ (by decide)] at h; exact k8a h), (fun h => by rw [setB_other _ _ _ (by decide)] at h; rw [setV_other _ _ _ _ (by decide)]; exact k8b h), (fun _ => setB_self _ _), keepE (by decide) k9, (fun h => by rw [setB_other _ _ _ (by decide)] at h; exact k10a h), (fun h => by rw [setB_other _ _ _ (by decide)] at h; obtain ⟨u, u1, u2, u3⟩ := k10b h; exact ⟨u, u1, u2, u3⟩), (fun h => by rw [setB_other _ _ _ (by decide)] at h ⊢; exact c10 h)⟩
          · obtain rfl := Option.some.inj ho_
            refine g_move _ _ rfl ?_
            exact ⟨hB8, hsz, hr, keepE (by decide) k0, keepE (by decide) k1, newE rfl, keepE (by decide) k3, keepE (by decide) k4, keepE (by decide) k5, keepE (by decide) k6, (fun h h' => by rw [setB_other _ _ _ (by decide)] at h h'; rw [setV_other _ _ _ _ (by decide)]; exact k7 h h'), (fun h => by rw [setB_other _ _ _ (by decide)] at h; exact k8a h), (fun h => by rw [setB_other _ _ _ (by decide)] at h; rw [setV_other _ _ _ _ (by decide)]; exact k8b h), (fun h => by rw [setB_other _ _ _ (by decide)] at h ⊢; exact c8 h), keepE (by decide) k9, (fun h => by rw [setB_other _ _ _ (by decide)] at h; exact k10a h), (fun h => by rw [setB_other _ _ _ (by decide)] at h; obtain ⟨u, u1, u2, u3⟩ := k10b h; exact ⟨u, u1, u2, u3⟩), (fun h => by rw [setB_other _ _ _ (by decide)] at h ⊢; exact c10 h)⟩
          · obtain rfl := Option.some.inj ho_
            refine g_move _ _ rfl ?_
            exact ⟨hB8, hsz, hr, keepE (by decide) k0, keepE (by decide) k1, keepE (by decide) k2, newE rfl, keepE (by decide) k4, keepE (by decide) k5, keepE (by decide) k6, (fun h h' => by rw [setB_other _ _ _ (by decide)] at h h'; rw [setV_other _ _ _ _ (by decide)]; exact k7 h h'), (fun h => by rw [setB_other _ _ _ (by decide)] at h; exact k8a h), (fun h => by rw [setB_other _ _ _ (by decide)] at h; rw [setV_other _ _ _ _ (by decide)]; exact k8b h), (fun h => by rw [setB_other _ _ _ (by decide)] at h ⊢; exact c8 h), keepE (by decide) k9, (fun h => by rw [setB_other _ _ _ (by decide)] at h; exact k10a h), (fun h => by rw [setB_other _ _ _ (by decide)] at h; obtain ⟨u, u1, u2, u3⟩ := k10b h; exact ⟨u, u1, u2, u3⟩), (fun h => by rw [setB_other _ _ _ (by decide)] at h ⊢; exact c10 h)⟩
          · obtain rfl := Option.some.inj ho_
            have d2 := k2 (hall ⟨2, .data⟩ (by simp) rfl)
            have d3 := k3 (hall ⟨3, .data⟩ (by simp) rfl)
            refine g_shr _ _ m k hm hk (show v 2 = _ from d2) (show v 3 = _ from d3) ?_
            exact ⟨hB8, hsz, hr, keepE (by decide) k0, keepE (by decide) k1, keepE (by decide) k2, keepE (by decide) k3, newE rfl, keepE (by decide) k5, keepE (by decide) k6, (fun h h' => by rw [setB_other _ _ _ (by decide)] at h h'; rw [setV_other _ _ _ _ (by decide)]; exact k7 h h'), (fun h => by rw [setB_other _ _ _ (by decide)] at h; exact k8a h), (fun h => by rw [setB_other _ _ _ (by decide)] at h; rw [setV_other _ _ _ _ (by decide)]; exact k8b h), (fun h => by rw [setB_other _ _ _ (by decide)] at h ⊢; exact c8 h), keepE (by decide) k9, (fun h => by rw [setB_other _ _ _ (by decide)] at h; exact k10a h), (fun h => by rw [setB_other _ _ _ (by decide)] at h; obtain ⟨u, u1, u2, u3⟩ := k10b h; exact ⟨u, u1, u2, u3⟩), (fun h => by rw [setB_other _ _ _ (by decide)] at h ⊢; exact c10 h)⟩
          · obtain rfl := Option.some.inj ho_
            have d4 := k4 (hall ⟨4, .data⟩ (by simp) rfl)
            refine g_rem _ (m / 2 ^ k) (show v 4 = _ from d4) ?_
            exact ⟨hB8, hsz, hr, keepE (by decide) k0, keepE (by decide) k1, keepE (by decide) k2, keepE (by decide) k3, keepE (by decide) k4, newE rfl, keepE (by decide) k6, (fun h h' => by rw [setB_other _ _ _ (by decide)] at h h'; rw [setV_other _ _ _ _ (by decide)]; exact k7 h h'), (fun h => by rw [setB_other _ _ _ (by decide)] at h; exact k8a h), (fun h => by rw [setB_other _ _ _ (by decide)] at h; rw [setV_other _ _ _ _ (by decide)]; exact k8b h), (fun h => by rw [setB_other _ _ _ (by decide)] at h ⊢; exact c8 h), keepE (by decide) k9, (fun h => by rw [setB_other _ _ _ (by decide)] at h; exact k10a h), (fun h => by rw [setB_other _ _ _ (by decide)] at h; obtain ⟨u, u1, u2, u3⟩ := k10b h; exact ⟨u, u1, u2, u3⟩), (fun h => by rw [setB_other _ _ _ (by decide)] at h ⊢; exact c10 h)⟩
          · obtain rfl := Option.some.inj ho_
            have d5 := k5 (hall ⟨5, .data⟩ (by simp) rfl)
            refine g_ieq 34 _ _ .u64 _ 1 x (show v 5 = _ from d5) rfl hx.out ?_
            exact ⟨hB8, hsz, hr, keepE (by decide) k0, keepE (by decide) k1, keepE (by decide) k2, keepE (by decide) k3, keepE (by decide) k4, keepE (by decide) k5, newE rfl, (fun h h' => by rw [setB_other _ _ _ (by decide)] at h h'; rw [setV_other _ _ _ _ (by decide)]; exact k7 h h'), (fun h => by rw [setB_other _ _ _ (by decide)] at h; exact k8a h), (fun h => by rw [setB_other _ _ _ (by decide)] at h; rw [setV_other _ _ _ _ (by decide)]; exact k8b h), (fun h => by rw [setB_other _ _ _ (by decide)] at h ⊢; exact c8 h), keepE (by decide) k9, (fun h => by rw [setB_other _ _ _ (by decide)] at h; exact k10a h), (fun h => by rw [setB_other _ _ _ (by decide)] at h; obtain ⟨u, u1, u2, u3⟩ := k10b h; exact ⟨u, u1, u2, u3⟩), (fun h => by rw [setB_other _ _ _ (by decide)] at h ⊢; exact c10 h)⟩
          · obtain rfl := Option.some.inj ho_
            have d6 := k6 (hall ⟨6, .data⟩ (by simp) rfl)
            refine g_b1 _ x (show v 6 = _ from d6) (fun w' h1 h2 => ?_)
            have hb := h1.toBelow
            exact ⟨hB8.trans (hb.mono (Nat.le_trans (by omega) hBx)), Nat.le_trans hsz hb.size, hr.below hb hr.lt, keepE (by decide) k0, keepE (by decide) k1, keepE (by decide) k2, keepE (by decide) k3, keepE (by decide) k4, keepE (by decide) k5, keepE (by decide) k6, (fun _ _ => by rw [setV_self]; exact rd1 h2), (fun h => by rw [setB_other _ _ _ (by decide)] at h; exact (k8a h).below hb), (fun h => by rw [setB_other _ _ _ (by decide)] at h; rw [setV_other _ _ _ _ (by decide)]; exact ⟨(k8b h).1.below hb, (k8b h).2⟩), (fun h => by rw [setB_other _ _ _ (by decide)] at h ⊢; exact c8 h), keepE (by decide) k9, (fun h => by rw [setB_other _ _ _ (by decide)] at h; exact (k10a h).below hb (k10a h).lt), (fun h => by rw [setB_other _ _ _ (by decide)] at h; obtain ⟨u, u1, u2, u3⟩ := k10b h; exact ⟨u, u1.below hb u1.lt, u2.below hb, u3⟩), (fun h => by rw [setB_other _ _ _ (by decide)] at h ⊢; exact c10 h)⟩
          · obtain rfl := Option.some.inj ho_
            have d1 := k1 (hall ⟨1, .data⟩ (by simp) rfl)
            have ht7 := hall ⟨7, .data⟩ (by simp) rfl
            refine g_app _ _ (w.heap.size + 2) (sv) _ (l) [x] (show v 1 = _ from d1) rfl (k8a hti) (k7 ht7 hti) (by simp; omega) hBx (fun v' w' h2 hb h3 => ?_)
            exact ⟨hB8.trans (hb.mono (by omega)), Nat.le_trans hsz hb.size, hr.below hb (by omega), keepE (by decide) k0, keepE (by decide) k1, keepE (by decide) k2, keepE (by decide) k3, keepE (by decide) k4, keepE (by decide) k5, keepE (by decide) k6, (fun _ h => by have := setB_self t 8; rw [h] at this; cases this), (fun h => by have := setB_self t 8; rw [h] at this; cases this), (fun _ => by rw [setV_self]; exact ⟨h2, h3 (.inr (by simp))⟩), (fun _ => by rw [setB_other _ _ _ (by decide)]; exact hall ⟨1, .data⟩ (by simp) rfl), keepE (by decide) k9, (fun h => by rw [setB_other _ _ _ (by decide)] at h; exact (k10a h).below hb (by omega)), (fun h => by rw [setB_other _ _ _ (by decide)] at h; have := c10 h; rw [hti] at this; cases this), (fun _ => setB_self _ _)⟩
          · obtain rfl := Option.some.inj ho_
            refine g_fieldR_1 _ _ rfl ?_
            exact ⟨hB8, hsz, hr, keepE (by decide) k0, keepE (by decide) k1, keepE (by decide) k2, keepE (by decide) k3, keepE (by decide) k4, keepE (by decide) k5, keepE (by decide) k6, (fun h h' => by rw [setB_other _ _ _ (by decide)] at h h'; rw [setV_other _ _ _ _ (by decide)]; exact k7 h h'), (fun h => by rw [setB_other _ _ _ (by decide)] at h; exact k8a h), (fun h => by rw [setB_other _ _ _ (by decide)] at h; rw [setV_other _ _ _ _ (by decide)]; exact k8b h), (fun h => by rw [setB_other _ _ _ (by decide)] at h ⊢; exact c8 h), newE rfl, (fun h => by rw [setB_other _ _ _ (by decide)] at h; exact k10a h), (fun h => by rw [setB_other _ _ _ (by decide)] at h; obtain ⟨u, u1, u2, u3⟩ := k10b h; exact ⟨u, u1, u2, u3⟩), (fun h => by rw [setB_other _ _ _ (by decide)] at h ⊢; exact c10 h)⟩
          · obtain rfl := Option.some.inj ho_
            have d8 := k8b (hall ⟨8, .data⟩ (by simp) rfl)
            have d9 := k9 (hall ⟨9, .data⟩ (by simp) rfl)
            refine g_store32 _ _ (w.heap.size + 1) 1 _ 72 _ _ d8.1.sl (show v 9 = _ from d9) rfl (k10a hti) rfl (fun w' h1 h2 => ?_)
            exact ⟨h1.below hB8 (by omega), Nat.le_trans hsz h1.size, h1.blk hr (by omega), keepE (by decide) k0, keepE (by decide) k1, keepE (by decide) k2, keepE (by decide) k3, keepE (by decide) k4, keepE (by decide) k5, keepE (by decide) k6, (fun h h' => by rw [setB_other _ _ _ (by decide)] at h h'; rw [setV_other _ _ _ _ (by decide)]; exact (k7 h h').turn h1 (k10a hti) (by decide)), (fun h => by rw [setB_other _ _ _ (by decide)] at h; exact (k8a h).turn h1 (by omega)), (fun h => by rw [setB_other _ _ _ (by decide)] at h; rw [setV_other _ _ _ _ (by decide)]; exact ⟨(k8b h).1.turn h1 (by omega), (k8b h).2⟩), (fun h => by rw [setB_other _ _ _ (by decide)] at h ⊢; exact c8 h), keepE (by decide) k9, (fun h => by have := setB_self t 10; rw [h] at this; cases this), (fun _ => ⟨v 8, h2, d8.1.turn h1 (by omega), d8.2⟩), (fun _ => by rw [setB_other _ _ _ (by decide)]; exact hall ⟨8, .data⟩ (by simp) rfl)⟩
          · simp at ho_
        · simp only [full, Act.put, List.setIfInBounds_toArray, List.set_cons_succ, List.set_cons_zero, Nat.zero_add, Nat.reduceAdd]
          intro t v wz hS ht
          obtain ⟨hB8, hsz, hr, k0, k1, k2, k3, k4, k5, k6, k7, k8a, k8b, c8, k9, k10a, k10b, c10⟩ := hS
          obtain ⟨u, u1, u2, u3⟩ := k10b (ht 10 (by decide))
          clear ht k0 k1 k2 k3 k4 k5 k6 k7 k8a k8b c8 k9 k10a k10b c10
          generalize v 0 = y0
          generalize v 1 = y1
          generalize v 2 = y2
          generalize v 3 = y3
          generalize v 4 = y4
          generalize v 5 = y5
          generalize v 6 = y6
          generalize v 7 = y7
          generalize v 8 = y8
          generalize v 9 = y9
          generalize v 10 = y10
          go_wp2_with fail
          refine ⟨⟨k + 1, l ++ [x], u, by omega, by go_num, hr, u1, u2, by simp [hlk], Nat.le_trans hBs hsz, hBw.trans hB8, fun _ => u3, hv2⟩, ?_⟩
          simp [intOf]; omega
      · obtain rfl : k = 64 := by omega
        have hnn := hnn (by omega)
        have hvm : Hid (val l = m) := by show _ = _; have h := hv.out; rw [Nat.mod_eq_of_lt hm] at h; exact h
        have hrd := ho.rd hnn
        have hziv : Hid (iv false l = n) := by show _ = _; rw [hiv.out, iv, hvm.out]; try simp
        have c0 := hb_o.cell 0 _ rfl
        have c1 := hb_o.cell 1 _ rfl
        clear hv ho
        go_wp2_with fail
        refine (bare_any false sv l wr hrd (by omega)).mono ?_
        rw [hziv.out]
        rintro e w5 ⟨_, rfl, ⟨rs, rb, rfl, rf⟩, t5⟩
        have q_r := hb_r.below t5 hb_r.lt
        have f0 := q_r.frozen 0
        have f1 := q_r.frozen 1
        have g0 := q_r.cell 0 _ rfl
        have g1 := q_r.cell 1 _ rfl
        obtain ⟨pb, pn, pc, rfl⟩ := rf.sl
        have hB5 : Below w.heap.size w w5 := hBw.trans (t5.mono (by omega))
        clear t5 c0 c1
        go_wp2_with fail
        obtain ⟨t6, b6⟩ := turn_setCell w5 w.heap.size 0 (.bool rs) _ 72 q_r
        obtain ⟨t7, b7⟩ := turn_setCell _ w.heap.size 1 (.slice pb pn pc) _ 72 b6
        refine bodyPost_ret (results_blk rfl w.heap.size [.bool rs, .slice pb pn pc] _ rfl b7 Tryd.underlying72 rfl szR) rfl ⟨_, rfl, ⟨_, _, rfl, (rf.turn t6 q_r (by decide)).turn t7 b6 (by decide)⟩, t7.below (t6.below hB5 (Nat.le_refl _)) (Nat.le_refl _)⟩

  · have hn0 : n < 0 := of_decide_eq_true hs
    replace e2 := e2 rfl
    replace e3 := e3 rfl
    clear e4 hs
    go_enter Tryd.func36, Tryd.ntmps36
    go_wp2_with fail
    have hb_o1 : Blk ((w.alloc (.cells #[.bool false, .slice none 0 0] 72)).alloc (.cells #[.bool true, .slice none 0 0] 72)) (w.heap.size + 1) [.bool true, .slice none 0 0] 72 := by
      have h := (turn_alloc (w.alloc (.cells #[.bool false, .slice none 0 0] 72)) [.bool true, .slice none 0 0] 72).2
      simp only [World.alloc, Array.size_push] at h
      exact h
    have hb_r1 : Blk ((w.alloc (.cells #[.bool false, .slice none 0 0] 72)).alloc (.cells #[.bool true, .slice none 0 0] 72)) w.heap.size [.bool false, .slice none 0 0] 72 := (turn_alloc _ [.bool true, .slice none 0 0] 72).1.blk (turn_alloc w [.bool false, .slice none 0 0] 72).2 (by simp)
    go_loopw [5] (fun i wr => ∃ (k : Nat) (l : List Bool) (sv : Value), k ≤ 64 ∧ i = .int .i64 k ∧ Blk wr w.heap.size [.bool false, .slice none 0 0] 72 ∧ Blk wr (w.heap.size + 1) [.bool true, sv] 72 ∧ Own wr (w.heap.size + 2) sv l ∧ l.length = k ∧ w.heap.size + 2 ≤ wr.heap.size ∧ Below w.heap.size w wr ∧ (0 < k → sv ≠ .slice none 0 0) ∧ Hid (val l = m % 2 ^ k)) (fun i _ => 64 - (intOf i).toNat)
    case atStart => exact ⟨0, [], .slice none 0 0, by omega, rfl, hb_r1, hb_o1, Own.nil _ _, rfl, by simp, ((Below.refl _ _).alloc (Nat.le_refl _) _).alloc (by simp) _, by omega, by show _ = _; rw [Nat.pow_zero, Nat.mod_one]; rfl⟩
    case round =>
      obtain ⟨k, l, sv, hk64, rfl, hb_r, hb_o, ho, hlk, hBs, hBw, hnn, hv⟩ := hrel
      clear hb_o1 hb_r1
      by_cases hk : k < 64
      · obtain ⟨x, hx⟩ : ∃ x, decide (((m / 2 ^ k % 2 : Nat) : Int) = 1) = x := ⟨_, rfl⟩
        have hv2 : Hid (val (l ++ [x]) = m % 2 ^ (k + 1)) := val_bit m k l x hlk hv.out hx
        replace hx : Hid _ := hx
        clear hv hnn
        go_wp2_with (first | ((with_reducible refine stop_region 8 ?_); intro X hX))
        refine hX.out ?_
        clear hX
        refine wp_region_inv (by kernel_rfl) (by kernel_rfl) (fun t v wx => Below w.heap.size wr wx ∧ wr.heap.size ≤ wx.heap.size ∧ Blk wx (w.heap.size) [.bool false, .slice none 0 0] 72 ∧ (t 0 = true → v 0 = .pointer (some ⟨w.heap.size + 1, 1, none⟩)) ∧ (t 1 = true → v 1 = sv) ∧ (t 2 = true → v 2 = .int .u64 (m : Nat)) ∧ (t 3 = true → v 3 = .int .i64 (k : Nat)) ∧ (t 4 = true → v 4 = .int .u64 ((m / 2 ^ k : Nat) : Int)) ∧ (t 5 = true → v 5 = .int .u64 ((m / 2 ^ k % 2 : Nat) : Int)) ∧ (t 6 = true → v 6 = .bool x) ∧ (t 7 = true → t 8 = false → Rd wx (v 7) [x]) ∧ (t 8 = false → Own wx (w.heap.size + 2) (sv) (l)) ∧ (t 8 = true → Own wx (w.heap.size + 2) (v 8) (l ++ [x]) ∧ v 8 ≠ .slice none 0 0) ∧ (t 8 = true → t 1 = true) ∧ (t 9 = true → v 9 = .pointer (some ⟨w.heap.size + 1, 1, none⟩)) ∧ (t 10 = false → Blk wx (w.heap.size + 1) [.bool true, sv] 72) ∧ (t 10 = true → ∃ u, Blk wx (w.heap.size + 1) [.bool true, u] 72 ∧ Own wx (w.heap.size + 2) u (l ++ [x]) ∧ u ≠ .slice none 0 0) ∧ (t 10 = true → t 8 = true)) ?_ ?_ ?_
        · exact ⟨(Below.refl _ _).drew, Nat.le_refl _, hb_r, (fun h => by cases h), (fun h => by cases h), (fun h => by cases h), (fun h => by cases h), (fun h => by cases h), (fun h => by cases h), (fun h => by cases h), (fun h => by cases h), (fun _ => ho), (fun h => by cases h), (fun h => by cases h), (fun h => by cases h), (fun _ => hb_o), (fun h => by cases h), (fun h => by cases h)⟩
        · simp only [full, Act.put, List.setIfInBounds_toArray, List.set_cons_succ, List.set_cons_zero, Nat.zero_add, Nat.reduceAdd]
          intro i o ho_ t v wx hS hti hall
          obtain ⟨hB8, hsz, hr, k0, k1, k2, k3, k4, k5, k6, k7, k8a, k8b, c8, k9, k10a, k10b, c10⟩ := hS
          have hBx : w.heap.size + 2 ≤ wx.heap.size := Nat.le_trans hBs hsz
          rcases i with _ | _ | _ | _ | _ | _ | _ | _ | _ | _ | _ | i
          · obtain rfl := Option.some.inj ho_
            refine g_fieldR_1 _ _ rfl ?_
            exact ⟨hB8, hsz, hr, newE rfl, keepE (by decide) k1, keepE (by decide) k2, keepE (by decide) k3, keepE (by decide) k4, keepE (by decide) k5, keepE (by decide) k6, (fun h h' => by rw [setB_other _ _ _ (by decide)] at h h'; rw [setV_other _ _ _ _ (by decide)]; exact k7 h h'), (fun h => by rw [setB_other _ _ _ (by decide)] at h; exact k8a h), (fun h => by rw [setB_other _ _ _ (by decide)] at h; rw [setV_other _ _ _ _ (by decide)]; exact k8b h), (fun h => by rw [setB_other _ _ _ (by decide)] at h ⊢; exact c8 h), keepE (by decide) k9, (fun h => by rw [setB_other _ _ _ (by decide)] at h; exact k10a h), (fun h => by rw [setB_other _ _ _ (by decide)] at h; obtain ⟨u, u1, u2, u3⟩ := k10b h; exact ⟨u, u1, u2, u3⟩), (fun h => by rw [setB_other _ _ _ (by decide)] at h ⊢; exact c10 h)⟩
          · obtain rfl := Option.some.inj ho_
            have d0 := k0 (hall ⟨0, .data⟩ (by simp) rfl)
            have h10 : t 10 = false := by
              cases h : t 10
              · rfl
              · have := c8 (c10 h); rw [hti] at this; cases this
            refine g_cell70 _ (w.heap.size + 1) 1 _ 72 _ (show v 0 = _ from d0) (k10a h10) rfl ?_
            exact ⟨hB8, hsz, hr, keepE (by decide) k0, newE rfl, keepE (by decide) k2, keepE (by decide) k3, keepE (by decide) k4, keepE (by decide) k5, keepE (by decide) k6, (fun h h' => by rw [setB_other _ _ _ (by decide)] at h h'; rw [setV_other _ _ _ _ (by decide)]; exact k7 h h'), (fun h => by rw [setB_other _ _ _ (by decide)] at h; exact k8a h), (fun h => by rw [setB_other _ _ _ (by decide)] at h; rw [setV_other _ _ _ _ (by decide)]; exact k8b h), (fun _ => setB_self _ _), keepE (by decide) k9, (fun h => by rw [setB_other _ _ _ (by decide)] at h; exact k10a h), (fun h => by rw [setB_other _ _ _ (by decide)] at h; obtain ⟨u, u1, u2, u3⟩ := k10b h; exact ⟨u, u1, u2, u3⟩), (fun h => by rw [setB_other _ _ _ (by decide)] at h ⊢; exact c10 h)⟩
          · obtain rfl := Option.some.inj ho_
            refine g_move _ _ rfl ?_
            exact ⟨hB8, hsz, hr, keepE (by decide) k0, keepE (by decide) k1, newE rfl, keepE (by decide) k3, keepE (by decide) k4, keepE (by decide) k5, keepE (by decide) k6, (fun h h' => by rw [setB_other _ _ _ (by decide)] at h h'; rw [setV_other _ _ _ _ (by decide)]; exact k7 h h'), (fun h => by rw [setB_other _ _ _ (by decide)] at h; exact k8a h), (fun h => by rw [setB_other _ _ _ (by decide)] at h; rw [setV_other _ _ _ _ (by decide)]; exact k8b h), (fun h => by rw [setB_other _ _ _ (by decide)] at h ⊢; exact c8 h), keepE (by decide) k9, (fun h => by rw [setB_other _ _ _ (by decide)] at h; exact k10a h), (fun h => by rw [setB_other _ _ _ (by decide)] at h; obtain ⟨u, u1, u2, u3⟩ := k10b h; exact ⟨u, u1, u2, u3⟩), (fun h => by rw [setB_other _ _ _ (by decide)] at h ⊢; exact c10 h)⟩
          · obtain rfl := Option.some.inj ho_
            refine g_move _ _ rfl ?_
            exact ⟨hB8, hsz, hr, keepE (by decide) k0, keepE (by decide) k1, keepE (by decide) k2, newE rfl, keepE (by decide) k4, keepE (by decide) k5, keepE (by decide) k6, (fun h h' => by rw [setB_other _ _ _ (by decide)] at h h'; rw [setV_other _ _ _ _ (by decide)]; exact k7 h h'), (fun h => by rw [setB_other _ _ _ (by decide)] at h; exact k8a h), (fun h => by rw [setB_other _ _ _ (by decide)] at h; rw [setV_other _ _ _ _ (by decide)]; exact k8b h), (fun h => by rw [setB_other _ _ _ (by decide)] at h ⊢; exact c8 h), keepE (by decide) k9, (fun h => by rw [setB_other _ _ _ (by decide)] at h; exact k10a h), (fun h => by rw [setB_other _ _ _ (by decide)] at h; obtain ⟨u, u1, u2, u3⟩ := k10b h; exact ⟨u, u1, u2, u3⟩), (fun h => by rw [setB_other _ _ _ (by decide)] at h ⊢; exact c10 h)⟩
          · obtain rfl := Option.some.inj ho_
            have d2 := k2 (hall ⟨2, .data⟩ (by simp) rfl)
            have d3 := k3 (hall ⟨3, .data⟩ (by simp) rfl)
            refine g_shr _ _ m k hm hk (show v 2 = _ from d2) (show v 3 = _ from d3) ?_
            exact ⟨hB8, hsz, hr, keepE (by decide) k0, keepE (by decide) k1, keepE (by decide) k2, keepE (by decide) k3, newE rfl, keepE (by decide) k5, keepE (by decide) k6, (fun h h' => by rw [setB_other _ _ _ (by decide)] at h h'; rw [setV_other _ _ _ _ (by decide)]; exact k7 h h'), (fun h => by rw [setB_other _ _ _ (by decide)] at h; exact k8a h), (fun h => by rw [setB_other _ _ _ (by decide)] at h; rw [setV_other _ _ _ _ (by decide)]; exact k8b h), (fun h => by rw [setB_other _ _ _ (by decide)] at h ⊢; exact c8 h), keepE (by decide) k9, (fun h => by rw [setB_other _ _ _ (by decide)] at h; exact k10a h), (fun h => by rw [setB_other _ _ _ (by decide)] at h; obtain ⟨u, u1, u2, u3⟩ := k10b h; exact ⟨u, u1, u2, u3⟩), (fun h => by rw [setB_other _ _ _ (by decide)] at h ⊢; exact c10 h)⟩
          · obtain rfl := Option.some.inj ho_
            have d4 := k4 (hall ⟨4, .data⟩ (by simp) rfl)
            refine g_rem _ (m / 2 ^ k) (show v 4 = _ from d4) ?_
            exact ⟨hB8, hsz, hr, keepE (by decide) k0, keepE (by decide) k1, keepE (by decide) k2, keepE (by decide) k3, keepE (by decide) k4, newE rfl, keepE (by decide) k6, (fun h h' => by rw [setB_other _ _ _ (by decide)] at h h'; rw [setV_other _ _ _ _ (by decide)]; exact k7 h h'), (fun h => by rw [setB_other _ _ _ (by decide)] at h; exact k8a h), (fun h => by rw [setB_other _ _ _ (by decide)] at h; rw [setV_other _ _ _ _ (by decide)]; exact k8b h), (fun h => by rw [setB_other _ _ _ (by decide)] at h ⊢; exact c8 h), keepE (by decide) k9, (fun h => by rw [setB_other _ _ _ (by decide)] at h; exact k10a h), (fun h => by rw [setB_other _ _ _ (by decide)] at h; obtain ⟨u, u1, u2, u3⟩ := k10b h; exact ⟨u, u1, u2, u3⟩), (fun h => by rw [setB_other _ _ _ (by decide)] at h ⊢; exact c10 h)⟩
          · obtain rfl := Option.some.inj ho_
            have d5 := k5 (hall ⟨5, .data⟩ (by simp) rfl)
            refine g_ieq 34 _ _ .u64 _ 1 x (show v 5 = _ from d5) rfl hx.out ?_
            exact ⟨hB8, hsz, hr, keepE (by decide) k0, keepE (by decide) k1, keepE (by decide) k2, keepE (by decide) k3, keepE (by decide) k4, keepE (by decide) k5, newE rfl, (fun h h' => by rw [setB_other _ _ _ (by decide)] at h h'; rw [setV_other _ _ _ _ (by decide)]; exact k7 h h'), (fun h => by rw [setB_other _ _ _ (by decide)] at h; exact k8a h), (fun h => by rw [setB_other _ _ _ (by decide)] at h; rw [setV_other _ _ _ _ (by decide)]; exact k8b h), (fun h => by rw [setB_other _ _ _ (by decide)] at h ⊢; exact c8 h), keepE (by decide) k9, (fun h => by rw [setB_other _ _ _ (by decide)] at h; exact k10a h), (fun h => by rw [setB_other _ _ _ (by decide)] at h; obtain ⟨u, u1, u2, u3⟩ := k10b h; exact ⟨u, u1, u2, u3⟩), (fun h => by rw [setB_other _ _ _ (by decide)] at h ⊢; exact c10 h)⟩
          · obtain rfl := Option.some.inj ho_
            have d6 := k6 (hall ⟨6, .data⟩ (by simp) rfl)
            refine g_b1 _ x (show v 6 = _ from d6) (fun w' h1 h2 => ?_)
            have hb := h1.toBelow
            exact ⟨hB8.trans (hb.mono (Nat.le_trans (by omega) hBx)), Nat.le_trans hsz hb.size, hr.below hb hr.lt, keepE (by decide) k0, keepE (by decide) k1, keepE (by decide) k2, keepE (by decide) k3, keepE (by decide) k4, keepE (by decide) k5, keepE (by decide) k6, (fun _ _ => by rw [setV_self]; exact rd1 h2), (fun h => by rw [setB_other _ _ _ (by decide)] at h; exact (k8a h).below hb), (fun h => by rw [setB_other _ _ _ (by decide)] at h; rw [setV_other _ _ _ _ (by decide)]; exact ⟨(k8b h).1.below hb, (k8b h).2⟩), (fun h => by rw [setB_other _ _ _ (by decide)] at h ⊢; exact c8 h), keepE (by decide) k9, (fun h => by rw [setB_other _ _ _ (by decide)] at h; exact (k10a h).below hb (k10a h).lt), (fun h => by rw [setB_other _ _ _ (by decide)] at h; obtain ⟨u, u1, u2, u3⟩ := k10b h; exact ⟨u, u1.below hb u1.lt, u2.below hb, u3⟩), (fun h => by rw [setB_other _ _ _ (by decide)] at h ⊢; exact c10 h)⟩
          · obtain rfl := Option.some.inj ho_
            have d1 := k1 (hall ⟨1, .data⟩ (by simp) rfl)
            have ht7 := hall ⟨7, .data⟩ (by simp) rfl
            refine g_app _ _ (w.heap.size + 2) (sv) _ (l) [x] (show v 1 = _ from d1) rfl (k8a hti) (k7 ht7 hti) (by simp; omega) hBx (fun v' w' h2 hb h3 => ?_)
            exact ⟨hB8.trans (hb.mono (by omega)), Nat.le_trans hsz hb.size, hr.below hb (by omega), keepE (by decide) k0, keepE (by decide) k1, keepE (by decide) k2, keepE (by decide) k3, keepE (by decide) k4, keepE (by decide) k5, keepE (by decide) k6, (fun _ h => by have := setB_self t 8; rw [h] at this; cases this), (fun h => by have := setB_self t 8; rw [h] at this; cases this), (fun _ => by rw [setV_self]; exact ⟨h2, h3 (.inr (by simp))⟩), (fun _ => by rw [setB_other _ _ _ (by decide)]; exact hall ⟨1, .data⟩ (by simp) rfl), keepE (by decide) k9, (fun h => by rw [setB_other _ _ _ (by decide)] at h; exact (k10a h).below hb (by omega)), (fun h => by rw [setB_other _ _ _ (by decide)] at h; have := c10 h; rw [hti] at this; cases this), (fun _ => setB_self _ _)⟩
          · obtain rfl := Option.some.inj ho_
            refine g_fieldR_1 _ _ rfl ?_
            exact ⟨hB8, hsz, hr, keepE (by decide) k0, keepE (by decide) k1, keepE (by decide) k2, keepE (by decide) k3, keepE (by decide) k4, keepE (by decide) k5, keepE (by decide) k6, (fun h h' => by rw [setB_other _ _ _ (by decide)] at h h'; rw [setV_other _ _ _ _ (by decide)]; exact k7 h h'), (fun h => by rw [setB_other _ _ _ (by decide)] at h; exact k8a h), (fun h => by rw [setB_other _ _ _ (by decide)] at h; rw [setV_other _ _ _ _ (by decide)]; exact k8b h), (fun h => by rw [setB_other _ _ _ (by decide)] at h ⊢; exact c8 h), newE rfl, (fun h => by rw [setB_other _ _ _ (by decide)] at h; exact k10a h), (fun h => by rw [setB_other _ _ _ (by decide)] at h; obtain ⟨u, u1, u2, u3⟩ := k10b h; exact ⟨u, u1, u2, u3⟩), (fun h => by rw [setB_other _ _ _ (by decide)] at h ⊢; exact c10 h)⟩
          · obtain rfl := Option.some.inj ho_
            have d8 := k8b (hall ⟨8, .data⟩ (by simp) rfl)
            have d9 := k9 (hall ⟨9, .data⟩ (by simp) rfl)
            refine g_store32 _ _ (w.heap.size + 1) 1 _ 72 _ _ d8.1.sl (show v 9 = _ from d9) rfl (k10a hti) rfl (fun w' h1 h2 => ?_)
            exact ⟨h1.below hB8 (by omega), Nat.le_trans hsz h1.size, h1.blk hr (by omega), keepE (by decide) k0, keepE (by decide) k1, keepE (by decide) k2, keepE (by decide) k3, keepE (by decide) k4, keepE (by decide) k5, keepE (by decide) k6, (fun h h' => by rw [setB_other _ _ _ (by decide)] at h h'; rw [setV_other _ _ _ _ (by decide)]; exact (k7 h h').turn h1 (k10a hti) (by decide)), (fun h => by rw [setB_other _ _ _ (by decide)] at h; exact (k8a h).turn h1 (by omega)), (fun h => by rw [setB_other _ _ _ (by decide)] at h; rw [setV_other _ _ _ _ (by decide)]; exact ⟨(k8b h).1.turn h1 (by omega), (k8b h).2⟩), (fun h => by rw [setB_other _ _ _ (by decide)] at h ⊢; exact c8 h), keepE (by decide) k9, (fun h => by have := setB_self t 10; rw [h] at this; cases this), (fun _ => ⟨v 8, h2, d8.1.turn h1 (by omega), d8.2⟩), (fun _ => by rw [setB_other _ _ _ (by decide)]; exact hall ⟨8, .data⟩ (by simp) rfl)⟩
          · simp at ho_
        · simp only [full, Act.put, List.setIfInBounds_toArray, List.set_cons_succ, List.set_cons_zero, Nat.zero_add, Nat.reduceAdd]
          intro t v wz hS ht
          obtain ⟨hB8, hsz, hr, k0, k1, k2, k3, k4, k5, k6, k7, k8a, k8b, c8, k9, k10a, k10b, c10⟩ := hS
          obtain ⟨u, u1, u2, u3⟩ := k10b (ht 10 (by decide))
          clear ht k0 k1 k2 k3 k4 k5 k6 k7 k8a k8b c8 k9 k10a k10b c10
          generalize v 0 = y0
          generalize v 1 = y1
          generalize v 2 = y2
          generalize v 3 = y3
          generalize v 4 = y4
          generalize v 5 = y5
          generalize v 6 = y6
          generalize v 7 = y7
          generalize v 8 = y8
          generalize v 9 = y9
          generalize v 10 = y10
          go_wp2_with fail
          refine ⟨⟨k + 1, l ++ [x], u, by omega, by go_num, hr, u1, u2, by simp [hlk], Nat.le_trans hBs hsz, hBw.trans hB8, fun _ => u3, hv2⟩, ?_⟩
          simp [intOf]; omega
      · obtain rfl : k = 64 := by omega
        have hnn := hnn (by omega)
        have hvm : Hid (val l = m) := by show _ = _; have h := hv.out; rw [Nat.mod_eq_of_lt hm] at h; exact h
        have hrd := ho.rd hnn
        have hziv : Hid (iv true l = n) := by show _ = _; rw [hiv.out, iv, hvm.out]; try simp
        have c0 := hb_o.cell 0 _ rfl
        have c1 := hb_o.cell 1 _ rfl
        clear hv ho
        go_wp2_with fail
        refine (bare_any true sv l wr hrd (by omega)).mono ?_
        rw [hziv.out]
        rintro e w5 ⟨_, rfl, ⟨rs, rb, rfl, rf⟩, t5⟩
        have q_r := hb_r.below t5 hb_r.lt
        have f0 := q_r.frozen 0
        have f1 := q_r.frozen 1
        have g0 := q_r.cell 0 _ rfl
        have g1 := q_r.cell 1 _ rfl
        obtain ⟨pb, pn, pc, rfl⟩ := rf.sl
        have hB5 : Below w.heap.size w w5 := hBw.trans (t5.mono (by omega))
        clear t5 c0 c1
        go_wp2_with fail
        obtain ⟨t6, b6⟩ := turn_setCell w5 w.heap.size 0 (.bool rs) _ 72 q_r
        obtain ⟨t7, b7⟩ := turn_setCell _ w.heap.size 1 (.slice pb pn pc) _ 72 b6
        refine bodyPost_ret (results_blk rfl w.heap.size [.bool rs, .slice pb pn pc] _ rfl b7 Tryd.underlying72 rfl szR) rfl ⟨_, rfl, ⟨_, _, rfl, (rf.turn t6 q_r (by decide)).turn t7 b6 (by decide)⟩, t7.below (t6.below hB5 (Nat.le_refl _)) (Nat.le_refl _)⟩

theorem rof_any (n : Int) (w : World) (hn : In64 n) :
    Calls Tryd.prog 36 #[.int .i64 n] w fun e w' => ∃ u, e = .returned u ∧ RN w' u n ∧ Below w.heap.size w w' := by
  have hn' := hn
  unfold In64 at hn'
  by_cases h : n < 0
  · refine of_loop n (-n).toNat true w hn (decide_eq_true h) (by omega) (by show _ = _; rw [if_pos rfl]; omega) (n + 18446744073709551616) (-n - 1) (by rw [IntKind.wrap_u64]; omega) (fun _ => ?_) (fun _ => ?_) (fun h => by cases h)
    · rw [not_u64 _ (by omega) (by omega)]; omega
    · rw [IntKind.wrap_u64]; omega
  · exact of_loop n n.toNat false w hn (decide_eq_false h) (by omega) (by show _ = _; rw [if_neg (by decide)]; omega) n 0 (by rw [IntKind.wrap_u64]; omega) (fun h => by cases h) (fun h => by cases h) (fun _ => by omega)

end Go.Proofs.YtpenicjlpiechaaDoor.Wd
