/- What the reference's From and the law's ref answer. -/
import Derived.Test.YtpeiboehdjhimaaRefFit
namespace Go.Proofs.Ytpeiboehdjhimaa
open Go Go.RowKit
set_option linter.unusedVariables false
/-- A slice that reads as l, in a block below B. -/
def RdL (w : World) (B : Nat) (v : Value) (l : List Bool) : Prop := ∃ g cap sp, g < B ∧ v = .slice (some ⟨g, 0, none⟩) l.length cap ∧ l.length ≤ cap ∧ cap ≤ 9223372036854775807 ∧ cap ≤ l.length + List.length sp ∧ Blk w g (bl l ++ sp) 4
theorem RdL.rd {w : World} {B : Nat} {v : Value} {l : List Bool} (h : RdL w B v l) : Rd w v l := by
  obtain ⟨g, cap, sp, -, h⟩ := h
  exact ⟨g, cap, sp, h⟩
theorem Rd.toL {w : World} {v : Value} {l : List Bool} (h : Rd w v l) : RdL w w.heap.size v l := by
  obtain ⟨g, cap, sp, e, h1, h2, h3, h4⟩ := h
  exact ⟨g, cap, sp, h4.lt, e, h1, h2, h3, h4⟩
theorem RdL.below {w w' : World} {B : Nat} {v : Value} {l : List Bool} (h : RdL w B v l) (hb : Below B w w') : RdL w' B v l := by
  obtain ⟨g, cap, sp, h0, e, h1, h2, h3, h4⟩ := h
  exact ⟨g, cap, sp, h0, e, h1, h2, h3, h4.below hb h0⟩
theorem RdL.turn {w w' : World} {B : Nat} {v : Value} {l : List Bool} {b : Nat} {cs : List Value} {t : TypeId} (h : RdL w B v l) (ht : Turn b w w') (hb : Blk w b cs t) (hn : t ≠ 4) : RdL w' B v l := by
  obtain ⟨g, cap, sp, h0, e, h1, h2, h3, h4⟩ := h
  obtain ⟨g', cap', sp', e', -, -, -, h4'⟩ := Rd.turn ⟨g, cap, sp, e, h1, h2, h3, h4⟩ ht hb hn
  refine ⟨g, cap, sp, h0, e, h1, h2, h3, ht.blk h4 ?_⟩
  rintro rfl
  unfold Blk at h4 hb
  rw [h4] at hb
  simp only [Option.some.injEq, Obj.cells.injEq] at hb
  exact hn hb.2.1.symm
section
variable {a : Act} {w : World} {dst : Option Tmp} {ty : TypeId} {pos : String} {aft : Array Edge} {gd : Option (Nat × Bool)} {K : Value → World → Prop}
theorem g_make (x y : Operand) (n B : Nat) (hx : a.eval x = .int .i64 (n : Nat)) (hy : a.eval y = .int .i64 (n : Nat)) (hn : n ≤ 100000) (hB : B ≤ w.heap.size)
    (h : ∀ w', Own w' B (.slice (some ⟨w.heap.size, 0, none⟩) n n) (List.replicate n false) → Below w.heap.size w w' → K (.slice (some ⟨w.heap.size, 0, none⟩) n n) w') :
    gives Try.prog ⟨dst, .makeSlice 30 x y, ty, pos, aft, gd⟩ a w K := by
  obtain ⟨i, hi, he⟩ : ∃ i, Try.prog.info? 4 = some i ∧ (i.zero, i.size, i.bytes) = (some (.bool false), 1, 1) := by
    have h := info4
    cases hi : Try.prog.info? 4 with
    | none => rw [hi] at h; cases h
    | some i => rw [hi] at h; exact ⟨i, rfl, Option.some.inj h⟩
  have hby : i.bytes = 1 := congrArg (·.2.2) he
  obtain ⟨w', hrun, r1, r2⟩ := run_make_full (P := Try.prog) w B 30 4 i (.bool false) 1 Try.underlying30 hi (congrArg (·.1) he) (congrArg (·.2.1) he) .i64 .i64 n (by rw [hby]; omega) (by unfold maxLen; omega) hB
  refine g_val _ w' (by simp [execOp, hx, hy, hrun, Result.andThen]) (h w' ?_ ⟨r2.os, r2.tape, r2.output, r2.size, fun k hk => r2.block k hk (by intro e; cases e)⟩)
  have e : (madeCells (Value.bool false).cells (n * 1)).toList = bl (List.replicate n false) := by
    rw [Nat.mul_one]
    rw [show (madeCells (Value.bool false).cells n).toList = List.replicate n (.bool false) from toList_madeCells_one _ _]
    simp [bl]
  rw [e] at r1
  unfold Own
  rw [List.length_replicate]
  exact r1
end

theorem val_bit' (m k : Nat) (l : List Bool) (x : Bool) (hl : l.length = k) (hv : val l = m % 2 ^ k) (hx : decide (((m / 2 ^ k % 2 : Nat) : Int) = 1) = x) : val (l ++ [x]) = m % 2 ^ (k + 1) := val_bit m k l x hl hv hx
theorem from_h (hi zh : Int) (s : Bool) (lh : List Bool) (hhi : In64 hi) (hc : Can lh) (hv : val lh = hi.natAbs) (hs : s = decide (hi < 0)) (hzh : Hid (hi * 18446744073709551616 = zh)) : lh.length ≤ 64 ∧ Hid (iv s (List.replicate 64 false ++ lh) = zh) := by
  unfold In64 at hhi
  constructor
  · refine (hc.len 64).2 ?_
    rw [hv]
    omega
  · show _ = _
    rw [iv, val_append, val_zeros, List.length_replicate, hv, ← hzh.out, hs]
    by_cases h : hi < 0
    · rw [decide_eq_true h, if_pos rfl]; omega
    · rw [decide_eq_false h, if_neg (by decide)]; omega

set_option maxRecDepth 10000 in
set_option maxHeartbeats 8000000 in
theorem from_l (hi zh z : Int) (m : Nat) (w : World) (hhi : In64 hi) (hm : m < 18446744073709551616) (hzh : Hid (hi * 18446744073709551616 = zh)) (fm : Few (m : Int) 200) (fh : Few zh 200) (hz3 : Hid ((m : Int) + zh = z)) :
    Calls Try.prog 14 #[.int .i64 hi, .int .u64 (m : Nat)] w fun e w' => ∃ u, e = .returned u ∧ RN w' u z ∧ Below w.heap.size w w' := by
  go_enter Try.func14, Try.ntmps14
  go_wp2_with fail
  have hb_o1 : Blk ((w.alloc (.cells #[.bool false, .slice none 0 0] 32)).alloc (.cells #[.bool false, .slice none 0 0] 32)) (w.heap.size + 1) [.bool false, .slice none 0 0] 32 := by
    have h := (turn_alloc (w.alloc (.cells #[.bool false, .slice none 0 0] 32)) [.bool false, .slice none 0 0] 32).2
    simp only [World.alloc, Array.size_push] at h
    exact h
  have hb_r1 : Blk ((w.alloc (.cells #[.bool false, .slice none 0 0] 32)).alloc (.cells #[.bool false, .slice none 0 0] 32)) w.heap.size [.bool false, .slice none 0 0] 32 := (turn_alloc _ [.bool false, .slice none 0 0] 32).1.blk (turn_alloc w [.bool false, .slice none 0 0] 32).2 (by simp)
  go_loopw [6] (fun i wr => ∃ (k : Nat) (l : List Bool) (sv : Value), k ≤ 64 ∧ i = .int .i64 k ∧ Blk wr w.heap.size [.bool false, .slice none 0 0] 32 ∧ Blk wr (w.heap.size + 1) [.bool false, sv] 32 ∧ Own wr (w.heap.size + 2) sv l ∧ l.length = k ∧ w.heap.size + 2 ≤ wr.heap.size ∧ Below w.heap.size w wr ∧ (0 < k → sv ≠ .slice none 0 0) ∧ Hid (val l = m % 2 ^ k)) (fun i _ => 64 - (intOf i).toNat)
  case atStart => exact ⟨0, [], .slice none 0 0, by omega, rfl, hb_r1, hb_o1, Own.nil _ _, rfl, by simp, ((Below.refl _ _).alloc (Nat.le_refl _) _).alloc (by simp) _, by omega, by show _ = _; rw [Nat.pow_zero, Nat.mod_one]; rfl⟩
  case round =>
    obtain ⟨k, l, sv, hk64, rfl, hb_r, hb_o, ho, hlk, hBs, hBw, hnn, hv⟩ := hrel
    clear hb_o1 hb_r1
    by_cases hk : k < 64
    · obtain ⟨x, hx⟩ : ∃ x, decide (((m / 2 ^ k % 2 : Nat) : Int) = 1) = x := ⟨_, rfl⟩
      have hv2 : Hid (val (l ++ [x]) = m % 2 ^ (k + 1)) := val_bit m k l x hlk hv.out hx
      replace hx : Hid _ := hx
      clear hv hnn
      go_wp2_with (first | ((with_reducible refine stop_region 5 ?_); intro X hX))
      refine hX.out ?_
      clear hX
      refine wp_region_inv (by kernel_rfl) (by kernel_rfl) (fun t v wx => Below w.heap.size wr wx ∧ wr.heap.size ≤ wx.heap.size ∧ Blk wx (w.heap.size) [.bool false, .slice none 0 0] 32 ∧ (t 0 = true → v 0 = .pointer (some ⟨w.heap.size + 1, 1, none⟩)) ∧ (t 1 = true → v 1 = sv) ∧ (t 2 = true → v 2 = .int .u64 (m : Nat)) ∧ (t 3 = true → v 3 = .int .i64 (k : Nat)) ∧ (t 4 = true → v 4 = .int .u64 ((m / 2 ^ k : Nat) : Int)) ∧ (t 5 = true → v 5 = .int .u64 ((m / 2 ^ k % 2 : Nat) : Int)) ∧ (t 6 = true → v 6 = .bool x) ∧ (t 7 = true → t 8 = false → Rd wx (v 7) [x]) ∧ (t 8 = false → Own wx (w.heap.size + 2) (sv) (l)) ∧ (t 8 = true → Own wx (w.heap.size + 2) (v 8) (l ++ [x]) ∧ v 8 ≠ .slice none 0 0) ∧ (t 8 = true → t 1 = true) ∧ (t 9 = true → v 9 = .pointer (some ⟨w.heap.size + 1, 1, none⟩)) ∧ (t 10 = false → Blk wx (w.heap.size + 1) [.bool false, sv] 32) ∧ (t 10 = true → ∃ u, Blk wx (w.heap.size + 1) [.bool false, u] 32 ∧ Own wx (w.heap.size + 2) u (l ++ [x]) ∧ u ≠ .slice none 0 0) ∧ (t 10 = true → t 8 = true)) ?_ ?_ ?_
      · exact ⟨(Below.refl _ _).drew, Nat.le_refl _, hb_r, (fun h => by cases h), (fun h => by cases h), (fun h => by cases h), (fun h => by cases h), (fun h => by cases h), (fun h => by cases h), (fun h => by cases h), (fun h => by cases h), (fun _ => ho), (fun h => by cases h), (fun h => by cases h), (fun h => by cases h), (fun _ => hb_o), (fun h => by cases h), (fun h => by cases h)⟩
      · simp only [full, Act.put, List.setIfInBounds_toArray, List.set_cons_succ, List.set_cons_zero, Nat.zero_add, Nat.reduceAdd]
        intro i o ho_ t v wx hS hti hall
        obtain ⟨hB8, hsz, hr, k0, k1, k2, k3, k4, k5, k6, k7, k8a, k8b, c8, k9, k10a, k10b, c10⟩ := hS
        have hBx : w.heap.size + 2 ≤ wx.heap.size := Nat.le_trans hBs hsz
        rcases i with _ | _ | _ | _ | _ | _ | _ | _ | _ | _ | _ | i
        · obtain rfl := Option.some.inj ho_
          refine g_fieldR_1 _ _ rfl ?_
          exact ⟨hB8, hsz, hr, newE rfl, keepE (by decide) k1, keepE (by decide) k2, keepE (by decide) k3, keepE (by decide) k4, keepE (by decide) k5, keepE (by decide) k6, (fun h h' => by rw [setB_other _ _ _ (by decide)] at h h'; rw [setV_other _ _ _ _ (by decide)]; exact k7 h h'), (fun h => by rw [setB_other _ _ _ (by decide)] at h; exact k8a h), (fun h => by rw [setB_other _ _ _ (by decide)] at h; rw [setV_other _ _ _ _ (by decide)]; exact k8b h), (fun h => by rw [setB_other _ _ _ (by decide)] at h ⊢; exact c8 h), keepE (by decide) k9, (fun h => by rw [setB_other _ _ _ (by decide)] at h; exact k10a h), (fun h => by rw [setB_other _ _ _ (by decide)] at h; obtain ⟨u, u1, u2, u3⟩ := k10b h; exact ⟨u, u1, u2, u3⟩), (fun h => by rw [setB_other _ _ _ (by decide)] at h ⊢; exact c10 h)⟩
        · obtain rfl := Option.some.inj ho_
          have d0 := k0 (hall ⟨0, .data⟩ (by simp) rfl)
          have h10 : t 10 = false := by
            cases h : t 10
            · rfl
            · have := c8 (c10 h); rw [hti] at this; cases this
          refine g_cell30 _ (w.heap.size + 1) 1 _ 32 _ (show v 0 = _ from d0) (k10a h10) rfl ?_
          exact ⟨hB8, hsz, hr, keepE (by decide) k0, newE rfl, keepE (by decide) k2, keepE (by decide) k3, keepE (by decide) k4, keepE (by decide) k5, keepE (by decide) k6, (fun h h' => by rw [setB_other _ _ _ (by decide)] at h h'; rw [setV_other _ _ _ _ (by decide)]; exact k7 h h'), (fun h => by rw [setB_other _ _ _ (by decide)] at h; exact k8a h), (fun h => by rw [setB_other _ _ _ (by decide)] at h; rw [setV_other _ _ _ _ (by decide)]; exact k8b h), (fun _ => setB_self _ _), keepE (by decide) k9, (fun h => by rw [setB_other _ _ _ (by decide)] at h; exact k10a h), (fun h => by rw [setB_other _ _ _ (by decide)] at h; obtain ⟨u, u1, u2, u3⟩ := k10b h; exact ⟨u, u1, u2, u3⟩), (fun h => by rw [setB_other _ _ _ (by decide)] at h ⊢; exact c10 h)⟩
        · obtain rfl := Option.some.inj ho_
          refine g_move _ _ rfl ?_
          exact ⟨hB8, hsz, hr, keepE (by decide) k0, keepE (by decide) k1, newE rfl, keepE (by decide) k3, keepE (by decide) k4, keepE (by decide) k5, keepE (by decide) k6, (fun h h' => by rw [setB_other _ _ _ (by decide)] at h h'; rw [setV_other _ _ _ _ (by decide)]; exact k7 h h'), (fun h => by rw [setB_other _ _ _ (by decide)] at h; exact k8a h), (fun h => by rw [setB_other _ _ _ (by decide)] at h; rw [setV_other _ _ _ _ (by decide)]; exact k8b h), (fun h => by rw [setB_other _ _ _ (by decide)] at h ⊢; exact c8 h), keepE (by decide) k9, (fun h => by rw [setB_other _ _ _ (by decide)] at h; exact k10a h), (fun h => by rw [setB_other _ _ _ (by decide)] at h; obtain ⟨u, u1, u2, u3⟩ := k10b h; exact ⟨u, u1, u2, u3⟩), (fun h => by rw [setB_other _ _ _ (by decide)] at h ⊢; exact c10 h)⟩
        · obtain rfl := Option.some.inj ho_
          refine g_move _ _ rfl ?_
          exact ⟨hB8, hsz, hr, keepE (by decide) k0, keepE (by decide) k1, keepE (by decide) k2, newE rfl, keepE (by decide) k4, keepE (by decide) k5, keepE (by decide) k6, (fun h h' => by rw [setB_other _ _ _ (by decide)] at h h'; rw [setV_other _ _ _ _ (by decide)]; exact k7 h h'), (fun h => by rw [setB_other _ _ _ (by decide)] at h; exact k8a h), (fun h => by rw [setB_other _ _ _ (by decide)] at h; rw [setV_other _ _ _ _ (by decide)]; exact k8b h), (fun h => by rw [setB_other _ _ _ (by decide)] at h ⊢; exact c8 h), keepE (by decide) k9, (fun h => by rw [setB_other _ _ _ (by decide)] at h; exact k10a h), (fun h => by rw [setB_other _ _ _ (by decide)] at h; obtain ⟨u, u1, u2, u3⟩ := k10b h; exact ⟨u, u1, u2, u3⟩), (fun h => by rw [setB_other _ _ _ (by decide)] at h ⊢; exact c10 h)⟩
        · obtain rfl := Option.some.inj ho_
          have d2 := k2 (hall ⟨2, .data⟩ (by simp) rfl)
          have d3 := k3 (hall ⟨3, .data⟩ (by simp) rfl)
          refine g_shr _ _ m k hm hk (show v 2 = _ from d2) (show v 3 = _ from d3) ?_
          exact ⟨hB8, hsz, hr, keepE (by decide) k0, keepE (by decide) k1, keepE (by decide) k2, keepE (by decide) k3, newE rfl, keepE (by decide) k5, keepE (by decide) k6, (fun h h' => by rw [setB_other _ _ _ (by decide)] at h h'; rw [setV_other _ _ _ _ (by decide)]; exact k7 h h'), (fun h => by rw [setB_other _ _ _ (by decide)] at h; exact k8a h), (fun h => by rw [setB_other _ _ _ (by decide)] at h; rw [setV_other _ _ _ _ (by decide)]; exact k8b h), (fun h => by rw [setB_other _ _ _ (by decide)] at h ⊢; exact c8 h), keepE (by decide) k9, (fun h => by rw [setB_other _ _ _ (by decide)] at h; exact k10a h), (fun h => by rw [setB_other _ _ _ (by decide)] at h; obtain ⟨u, u1, u2, u3⟩ := k10b h; exact ⟨u, u1, u2, u3⟩), (fun h => by rw [setB_other _ _ _ (by decide)] at h ⊢; exact c10 h)⟩
        · obtain rfl := Option.some.inj ho_
          have d4 := k4 (hall ⟨4, .data⟩ (by simp) rfl)
          refine g_rem _ (m / 2 ^ k) (show v 4 = _ from d4) ?_
          exact ⟨hB8, hsz, hr, keepE (by decide) k0, keepE (by decide) k1, keepE (by decide) k2, keepE (by decide) k3, keepE (by decide) k4, newE rfl, keepE (by decide) k6, (fun h h' => by rw [setB_other _ _ _ (by decide)] at h h'; rw [setV_other _ _ _ _ (by decide)]; exact k7 h h'), (fun h => by rw [setB_other _ _ _ (by decide)] at h; exact k8a h), (fun h => by rw [setB_other _ _ _ (by decide)] at h; rw [setV_other _ _ _ _ (by decide)]; exact k8b h), (fun h => by rw [setB_other _ _ _ (by decide)] at h ⊢; exact c8 h), keepE (by decide) k9, (fun h => by rw [setB_other _ _ _ (by decide)] at h; exact k10a h), (fun h => by rw [setB_other _ _ _ (by decide)] at h; obtain ⟨u, u1, u2, u3⟩ := k10b h; exact ⟨u, u1, u2, u3⟩), (fun h => by rw [setB_other _ _ _ (by decide)] at h ⊢; exact c10 h)⟩
        · obtain rfl := Option.some.inj ho_
          have d5 := k5 (hall ⟨5, .data⟩ (by simp) rfl)
          refine g_ieq 22 _ _ .u64 _ 1 x (show v 5 = _ from d5) rfl hx.out ?_
          exact ⟨hB8, hsz, hr, keepE (by decide) k0, keepE (by decide) k1, keepE (by decide) k2, keepE (by decide) k3, keepE (by decide) k4, keepE (by decide) k5, newE rfl, (fun h h' => by rw [setB_other _ _ _ (by decide)] at h h'; rw [setV_other _ _ _ _ (by decide)]; exact k7 h h'), (fun h => by rw [setB_other _ _ _ (by decide)] at h; exact k8a h), (fun h => by rw [setB_other _ _ _ (by decide)] at h; rw [setV_other _ _ _ _ (by decide)]; exact k8b h), (fun h => by rw [setB_other _ _ _ (by decide)] at h ⊢; exact c8 h), keepE (by decide) k9, (fun h => by rw [setB_other _ _ _ (by decide)] at h; exact k10a h), (fun h => by rw [setB_other _ _ _ (by decide)] at h; obtain ⟨u, u1, u2, u3⟩ := k10b h; exact ⟨u, u1, u2, u3⟩), (fun h => by rw [setB_other _ _ _ (by decide)] at h ⊢; exact c10 h)⟩
        · obtain rfl := Option.some.inj ho_
          have d6 := k6 (hall ⟨6, .data⟩ (by simp) rfl)
          refine g_b1 _ x (show v 6 = _ from d6) (fun w' h1 h2 => ?_)
          have hb := h1.toBelow
          exact ⟨hB8.trans (hb.mono (Nat.le_trans (by omega) hBx)), Nat.le_trans hsz hb.size, hr.below hb hr.lt, keepE (by decide) k0, keepE (by decide) k1, keepE (by decide) k2, keepE (by decide) k3, keepE (by decide) k4, keepE (by decide) k5, keepE (by decide) k6, (fun _ _ => by rw [setV_self]; exact rd1 h2), (fun h => by rw [setB_other _ _ _ (by decide)] at h; exact (k8a h).below hb), (fun h => by rw [setB_other _ _ _ (by decide)] at h; rw [setV_other _ _ _ _ (by decide)]; exact ⟨(k8b h).1.below hb, (k8b h).2⟩), (fun h => by rw [setB_other _ _ _ (by decide)] at h ⊢; exact c8 h), keepE (by decide) k9, (fun h => by rw [setB_other _ _ _ (by decide)] at h; exact (k10a h).below hb (k10a h).lt), (fun h => by rw [setB_other _ _ _ (by decide)] at h; obtain ⟨u, u1, u2, u3⟩ := k10b h; exact ⟨u, u1.below hb u1.lt, u2.below hb, u3⟩), (fun h => by rw [setB_other _ _ _ (by decide)] at h ⊢; exact c10 h)⟩
        · obtain rfl := Option.some.inj ho_
          have d1 := k1 (hall ⟨1, .data⟩ (by simp) rfl)
          have ht7 := hall ⟨7, .data⟩ (by simp) rfl
          refine g_app _ _ (w.heap.size + 2) (sv) _ (l) [x] (show v 1 = _ from d1) rfl (k8a hti) (k7 ht7 hti) (by simp; omega) hBx (fun v' w' h2 hb h3 => ?_)
          exact ⟨hB8.trans (hb.mono (by omega)), Nat.le_trans hsz hb.size, hr.below hb (by omega), keepE (by decide) k0, keepE (by decide) k1, keepE (by decide) k2, keepE (by decide) k3, keepE (by decide) k4, keepE (by decide) k5, keepE (by decide) k6, (fun _ h => by have := setB_self t 8; rw [h] at this; cases this), (fun h => by have := setB_self t 8; rw [h] at this; cases this), (fun _ => by rw [setV_self]; exact ⟨h2, h3 (.inr (by simp))⟩), (fun _ => by rw [setB_other _ _ _ (by decide)]; exact hall ⟨1, .data⟩ (by simp) rfl), keepE (by decide) k9, (fun h => by rw [setB_other _ _ _ (by decide)] at h; exact (k10a h).below hb (by omega)), (fun h => by rw [setB_other _ _ _ (by decide)] at h; have := c10 h; rw [hti] at this; cases this), (fun _ => setB_self _ _)⟩
        · obtain rfl := Option.some.inj ho_
          refine g_fieldR_1 _ _ rfl ?_
          exact ⟨hB8, hsz, hr, keepE (by decide) k0, keepE (by decide) k1, keepE (by decide) k2, keepE (by decide) k3, keepE (by decide) k4, keepE (by decide) k5, keepE (by decide) k6, (fun h h' => by rw [setB_other _ _ _ (by decide)] at h h'; rw [setV_other _ _ _ _ (by decide)]; exact k7 h h'), (fun h => by rw [setB_other _ _ _ (by decide)] at h; exact k8a h), (fun h => by rw [setB_other _ _ _ (by decide)] at h; rw [setV_other _ _ _ _ (by decide)]; exact k8b h), (fun h => by rw [setB_other _ _ _ (by decide)] at h ⊢; exact c8 h), newE rfl, (fun h => by rw [setB_other _ _ _ (by decide)] at h; exact k10a h), (fun h => by rw [setB_other _ _ _ (by decide)] at h; obtain ⟨u, u1, u2, u3⟩ := k10b h; exact ⟨u, u1, u2, u3⟩), (fun h => by rw [setB_other _ _ _ (by decide)] at h ⊢; exact c10 h)⟩
        · obtain rfl := Option.some.inj ho_
          have d8 := k8b (hall ⟨8, .data⟩ (by simp) rfl)
          have d9 := k9 (hall ⟨9, .data⟩ (by simp) rfl)
          refine g_store32 _ _ (w.heap.size + 1) 1 _ 32 _ _ d8.1.sl (show v 9 = _ from d9) rfl (k10a hti) rfl (fun w' h1 h2 => ?_)
          exact ⟨h1.below hB8 (by omega), Nat.le_trans hsz h1.size, h1.blk hr (by omega), keepE (by decide) k0, keepE (by decide) k1, keepE (by decide) k2, keepE (by decide) k3, keepE (by decide) k4, keepE (by decide) k5, keepE (by decide) k6, (fun h h' => by rw [setB_other _ _ _ (by decide)] at h h'; rw [setV_other _ _ _ _ (by decide)]; exact (k7 h h').turn h1 (k10a hti) (by decide)), (fun h => by rw [setB_other _ _ _ (by decide)] at h; exact (k8a h).turn h1 (by omega)), (fun h => by rw [setB_other _ _ _ (by decide)] at h; rw [setV_other _ _ _ _ (by decide)]; exact ⟨(k8b h).1.turn h1 (by omega), (k8b h).2⟩), (fun h => by rw [setB_other _ _ _ (by decide)] at h ⊢; exact c8 h), keepE (by decide) k9, (fun h => by have := setB_self t 10; rw [h] at this; cases this), (fun _ => ⟨v 8, h2, d8.1.turn h1 (by omega), d8.2⟩), (fun _ => by rw [setB_other _ _ _ (by decide)]; exact hall ⟨8, .data⟩ (by simp) rfl)⟩
        · simp at ho_
      · simp only [full, Act.put, List.setIfInBounds_toArray, List.set_cons_succ, List.set_cons_zero, Nat.zero_add, Nat.reduceAdd]
        intro t v wz hS ht
        obtain ⟨hB8, hsz, hr, k0, k1, k2, k3, k4, k5, k6, k7, k8a, k8b, c8, k9, k10a, k10b, c10⟩ := hS
        obtain ⟨u, u1, u2, u3⟩ := k10b (ht 10 (by decide))
        clear ht k0 k1 k2 k3 k4 k5 k6 k7 k8a k8b c8 k9 k10a k10b c10
        generalize v 0 = y0
        generalize v 1 = y1
        generalize v 2 = y2
        generalize v 3 = y3
        generalize v 4 = y4
        generalize v 5 = y5
        generalize v 6 = y6
        generalize v 7 = y7
        generalize v 8 = y8
        generalize v 9 = y9
        generalize v 10 = y10
        go_wp2_with fail
        refine ⟨⟨k + 1, l ++ [x], u, by omega, by go_num, hr, u1, u2, by simp [hlk], Nat.le_trans hBs hsz, hBw.trans hB8, fun _ => u3, hv2⟩, ?_⟩
        simp [intOf]; omega
    · obtain rfl : k = 64 := by omega
      have hnn := hnn (by omega)
      have hvm : Hid (val l = m) := by show _ = _; have h := hv.out; rw [Nat.mod_eq_of_lt hm] at h; exact h
      have rdo := ho.rd hnn
      have b_r := hb_r
      have b_o := hb_o
      have hB := hBw
      have l_r : w.heap.size ≤ w.heap.size := Nat.le_refl _
      have l_o : w.heap.size ≤ w.heap.size + 1 := by omega
      have o_o : w.heap.size < w.heap.size + 1 := by omega
      have hlen : l.length ≤ 64 := by omega
      clear hv ho hb_r hb_o hBw hnn hk hk64 hBs
      have hz1 : Hid (iv false l = (m : Int)) := by show _ = _; rw [iv_false, hvm.out]
      clear hvm
      go_wp2_with fail
      refine (rof_any hi wr hhi).mono ?_
      rintro e w21 ⟨_, rfl, ⟨s_n24, v_n24, rfl, r_n24⟩, t_⟩
      replace rdo := rdo.below t_
      replace b_r := b_r.below t_ b_r.lt
      replace b_o := b_o.below t_ b_o.lt
      replace hB := hB.trans (t_.mono hB.size)
      clear t_
      go_wp2_with (first
        | ((with_reducible refine at_allocD 7 32 ?_); refine L_alloc 32 ([.bool false, .slice none 0 0]) zeroR ?_; intro w22 t_ b_h; have l_h : w.heap.size ≤ w21.heap.size := hB.size; have o_h := b_o.lt; replace rdo := rdo.below t_.toBelow; replace r_n24 := r_n24.below t_.toBelow; replace b_r := t_.blk b_r (by omega); replace b_o := t_.blk b_o (by omega); replace hB := t_.below hB l_h; clear t_)
        | ((with_reducible refine at_storeX 7 32 ?_); refine L_store_all 32 _ _ (w21.heap.size) ([.bool s_n24, v_n24]) _ 32 rfl rfl b_h (szR) (rfl) (one_rc _ _ r_n24.sl) ?_; have b0_h := b_h; clear b_h; intro w23 t_ b_h; replace rdo := rdo.turn t_ b0_h (by decide); replace r_n24 := r_n24.turn t_ b0_h (by decide); replace b_r := t_.blk b_r (by omega); replace b_o := t_.blk b_o (by omega); replace hB := t_.below hB l_h; clear t_ b0_h)
        | ((with_reducible refine stop_region 7 ?_); intro X7 hX7))
      refine hX7.out ?_
      clear hX7
      obtain ⟨lh, rdh, hch, hvh⟩ := r_n24.list
      have hsg := r_n24.sign
      obtain ⟨hlh, hz2⟩ := from_h hi zh s_n24 lh hhi hch hvh hsg hzh
      have rdo_ := rdo.toL
      have rdh_ := rdh.toL
      clear rdo r_n24 rdh
      have s0 := b_r.lt
      have s1 := b_o.lt
      have s_h := b_h.lt
      refine wp_region_inv (by kernel_rfl) (by kernel_rfl) (fun t v wx => Below w.heap.size w23 wx ∧ w23.heap.size ≤ wx.heap.size ∧ Blk wx (w.heap.size) ([.bool false, .slice none 0 0]) 32 ∧ Blk wx (w.heap.size + 1) ([.bool false, sv]) 32 ∧ RdL wx w23.heap.size sv l ∧ RdL wx w23.heap.size v_n24 lh ∧ (t 0 = true → t 3 = false → Own wx (w23.heap.size) (v 0) (List.replicate 64 false) ∧ v 0 ≠ .slice none 0 0) ∧ (t 1 = true → v 1 = .pointer (some ⟨w21.heap.size, 1, none⟩)) ∧ (t 2 = true → v 2 = v_n24) ∧ (t 3 = true → Own wx (w23.heap.size) (v 3) (List.replicate 64 false ++ lh) ∧ v 3 ≠ .slice none 0 0) ∧ (t 4 = true → v 4 = .pointer (some ⟨w21.heap.size, 1, none⟩)) ∧ (t 5 = false → Blk wx (w21.heap.size) [.bool s_n24, v_n24] 32) ∧ (t 5 = true → ∃ u, Blk wx (w21.heap.size) [.bool s_n24, u] 32 ∧ Own wx (w23.heap.size) u (List.replicate 64 false ++ lh) ∧ u ≠ .slice none 0 0) ∧ (t 3 = true → t 2 = true) ∧ (t 5 = true → t 3 = true)) ?_ ?_ ?_
      · exact ⟨(Below.refl _ _).drew, Nat.le_refl _, b_r, b_o, rdo_.below (Below.refl _ _).drew, rdh_.below (Below.refl _ _).drew, (fun h => by cases h), (fun h => by cases h), (fun h => by cases h), (fun h => by cases h), (fun h => by cases h), (fun _ => b_h), (fun h => by cases h), (fun h => by cases h), (fun h => by cases h)⟩
      · simp only [full, Act.put, List.setIfInBounds_toArray, List.set_cons_succ, List.set_cons_zero, Nat.zero_add, Nat.reduceAdd]
        intro i o ho_ t v wx hS hti hall
        obtain ⟨hC, hsz, q0, q1, g0, g1, k0, k1, k2, k3, k4, k5a, k5b, c3, c5⟩ := hS
        rcases i with _ | _ | _ | _ | _ | _ | i
        · obtain rfl := Option.some.inj ho_
          refine g_make _ _ 64 (w23.heap.size) rfl rfl (by omega) hsz (fun w' h2 hb => ?_)
          exact ⟨hC.trans (hb.mono (Nat.le_trans hB.size hsz)), Nat.le_trans hsz hb.size, q0.below hb q0.lt, q1.below hb q1.lt, g0.below (hb.mono hsz), g1.below (hb.mono hsz), (fun _ _ => by rw [setV_self]; exact ⟨h2, by simp⟩), keepE (by decide) k1, keepE (by decide) k2, (fun h => by rw [setB_other _ _ _ (by decide)] at h; rw [setV_other _ _ _ _ (by decide)]; exact ⟨(k3 h).1.below hb, (k3 h).2⟩), keepE (by decide) k4, (fun h => by rw [setB_other _ _ _ (by decide)] at h; exact (k5a h).below hb (k5a h).lt), (fun h => by rw [setB_other _ _ _ (by decide)] at h; obtain ⟨u, u1, u2, u3⟩ := k5b h; exact ⟨u, u1.below hb u1.lt, u2.below hb, u3⟩), (fun h => by rw [setB_other _ _ _ (by decide)] at h ⊢; exact c3 h), (fun h => by rw [setB_other _ _ _ (by decide)] at h ⊢; exact c5 h)⟩
        · obtain rfl := Option.some.inj ho_
          refine g_fieldR_1 _ _ rfl ?_
          exact ⟨hC, hsz, q0, q1, g0, g1, (fun h h' => by rw [setB_other _ _ _ (by decide)] at h h'; rw [setV_other _ _ _ _ (by decide)]; exact k0 h h'), newE rfl, keepE (by decide) k2, (fun h => by rw [setB_other _ _ _ (by decide)] at h; rw [setV_other _ _ _ _ (by decide)]; exact k3 h), keepE (by decide) k4, (fun h => by rw [setB_other _ _ _ (by decide)] at h; exact k5a h), (fun h => by rw [setB_other _ _ _ (by decide)] at h; obtain ⟨u, u1, u2, u3⟩ := k5b h; exact ⟨u, u1, u2, u3⟩), (fun h => by rw [setB_other _ _ _ (by decide)] at h ⊢; exact c3 h), (fun h => by rw [setB_other _ _ _ (by decide)] at h ⊢; exact c5 h)⟩
        · obtain rfl := Option.some.inj ho_
          have d1 := k1 (hall ⟨1, .data⟩ (by simp) rfl)
          have h5 : t 5 = false := by
            cases h : t 5
            · rfl
            · have := c3 (c5 h); rw [hti] at this; cases this
          refine g_cell30 _ (w21.heap.size) 1 _ 32 _ (show v 1 = _ from d1) (k5a h5) rfl ?_
          exact ⟨hC, hsz, q0, q1, g0, g1, (fun h h' => by rw [setB_other _ _ _ (by decide)] at h h'; rw [setV_other _ _ _ _ (by decide)]; exact k0 h h'), keepE (by decide) k1, newE rfl, (fun h => by rw [setB_other _ _ _ (by decide)] at h; rw [setV_other _ _ _ _ (by decide)]; exact k3 h), keepE (by decide) k4, (fun h => by rw [setB_other _ _ _ (by decide)] at h; exact k5a h), (fun h => by rw [setB_other _ _ _ (by decide)] at h; obtain ⟨u, u1, u2, u3⟩ := k5b h; exact ⟨u, u1, u2, u3⟩), (fun _ => setB_self _ _), (fun h => by rw [setB_other _ _ _ (by decide)] at h ⊢; exact c5 h)⟩
        · obtain rfl := Option.some.inj ho_
          have d0 := k0 (hall ⟨0, .data⟩ (by simp) rfl) hti
          have d2 := k2 (hall ⟨2, .data⟩ (by simp) rfl)
          refine g_app _ _ (w23.heap.size) (v 0) _ (List.replicate 64 false) (lh) rfl (show v 2 = _ from d2) d0.1 g1.rd (by rw [List.length_replicate]; omega) hsz (fun v' w' h2 hb h3 => ?_)
          exact ⟨hC.trans (hb.mono hB.size), Nat.le_trans hsz hb.size, q0.below hb s0, q1.below hb s1, g0.below hb, g1.below hb, (fun _ h => by have := setB_self t 3; rw [h] at this; cases this), keepE (by decide) k1, keepE (by decide) k2, (fun _ => by rw [setV_self]; exact ⟨h2, h3 (.inl d0.2)⟩), keepE (by decide) k4, (fun h => by rw [setB_other _ _ _ (by decide)] at h; exact (k5a h).below hb s_h), (fun h => by rw [setB_other _ _ _ (by decide)] at h; have := c5 h; rw [hti] at this; cases this), (fun _ => by rw [setB_other _ _ _ (by decide)]; exact hall ⟨2, .data⟩ (by simp) rfl), (fun _ => setB_self _ _)⟩
        · obtain rfl := Option.some.inj ho_
          refine g_fieldR_1 _ _ rfl ?_
          exact ⟨hC, hsz, q0, q1, g0, g1, (fun h h' => by rw [setB_other _ _ _ (by decide)] at h h'; rw [setV_other _ _ _ _ (by decide)]; exact k0 h h'), keepE (by decide) k1, keepE (by decide) k2, (fun h => by rw [setB_other _ _ _ (by decide)] at h; rw [setV_other _ _ _ _ (by decide)]; exact k3 h), newE rfl, (fun h => by rw [setB_other _ _ _ (by decide)] at h; exact k5a h), (fun h => by rw [setB_other _ _ _ (by decide)] at h; obtain ⟨u, u1, u2, u3⟩ := k5b h; exact ⟨u, u1, u2, u3⟩), (fun h => by rw [setB_other _ _ _ (by decide)] at h ⊢; exact c3 h), (fun h => by rw [setB_other _ _ _ (by decide)] at h ⊢; exact c5 h)⟩
        · obtain rfl := Option.some.inj ho_
          have d3 := k3 (hall ⟨3, .data⟩ (by simp) rfl)
          have d4 := k4 (hall ⟨4, .data⟩ (by simp) rfl)
          refine g_store32 _ _ (w21.heap.size) 1 _ 32 _ _ d3.1.sl (show v 4 = _ from d4) rfl (k5a hti) rfl (fun w' h1 h2 => ?_)
          exact ⟨h1.below hC l_h, Nat.le_trans hsz h1.size, h1.blk q0 (by omega), h1.blk q1 (by omega), g0.turn h1 (k5a hti) (by decide), g1.turn h1 (k5a hti) (by decide), (fun h h' => by rw [setB_other _ _ _ (by decide)] at h h'; rw [setV_other _ _ _ _ (by decide)]; exact ⟨(k0 h h').1.turn h1 s_h, (k0 h h').2⟩), keepE (by decide) k1, keepE (by decide) k2, (fun h => by rw [setB_other _ _ _ (by decide)] at h; rw [setV_other _ _ _ _ (by decide)]; exact ⟨(k3 h).1.turn h1 s_h, (k3 h).2⟩), keepE (by decide) k4, (fun h => by have := setB_self t 5; rw [h] at this; cases this), (fun _ => ⟨v 3, h2, d3.1.turn h1 s_h, d3.2⟩), (fun h => by rw [setB_other _ _ _ (by decide)] at h ⊢; exact c3 h), (fun _ => by rw [setB_other _ _ _ (by decide)]; exact hall ⟨3, .data⟩ (by simp) rfl)⟩
        · simp at ho_
      · simp only [full, Act.put, List.setIfInBounds_toArray, List.set_cons_succ, List.set_cons_zero, Nat.zero_add, Nat.reduceAdd]
        intro t v wz hS ht
        obtain ⟨hC, hsz, q0, q1, g0, g1, k0, k1, k2, k3, k4, k5a, k5b, c3, c5⟩ := hS
        obtain ⟨u, u1, u2, u3⟩ := k5b (ht 5 (by decide))
        clear ht k0 k1 k2 k3 k4 k5a k5b c3 c5
        generalize v 0 = z0
        generalize v 1 = z1
        generalize v 2 = z2
        generalize v 3 = z3
        generalize v 4 = z4
        generalize v 5 = z5
        replace b_r := q0
        replace b_o := q1
        replace b_h := u1
        have rdo := g0.rd
        have rdu := u2.rd u3
        replace hB := hB.trans hC
        clear rdo_ rdh_ g0 g1 hsz u2 u3 s0 s1 s_h
        go_wp2_with (first
          | ((with_reducible refine stop_region 8 ?_); intro X8 hX8))
        refine hX8.out ?_
        clear hX8
        have hB0 := hB.size
        refine wp_region_pred (by kernel_rfl) (by kernel_rfl) [.eq (.agg #[.bool false, sv]), .rn ((m : Nat)), .eq (.agg #[.bool s_n24, u]), .rn (zh), .rn (z), .at (w.heap.size) (z)] ([none, none, none, none, none, some (w.heap.size)]) (fun wx => Below w.heap.size wz wx ∧ Blk wx (w.heap.size + 1) ([.bool false, sv]) 32 ∧ Blk wx (w21.heap.size) ([.bool s_n24, u]) 32 ∧ (Rd wx sv l) ∧ (Rd wx u (List.replicate 64 false ++ lh)) ∧ (∃ x y, Blk wx (w.heap.size) [x, y] 32)) ?_ ?_ ?_ ?_
        · exact nobs1 _ _ 5 rfl rfl
        · exact ⟨(Below.refl _ _).drew, b_o.drew, b_h.drew, rdo.below (Below.refl _ _).drew, rdu.below (Below.refl _ _).drew, ⟨_, _, b_r.drew⟩⟩
        · simp only [full, Act.put, List.setIfInBounds_toArray, List.set_cons_succ, List.set_cons_zero, Nat.zero_add, Nat.reduceAdd]
          intro i o ho v wx hC hall
          obtain ⟨hC1, q_o, q_h, g_rdo, g_rdu, ⟨x_5, y_5, p_5⟩⟩ := id hC
          rcases i with _ | _ | _ | _ | _ | _ | i
          · obtain rfl := Option.some.inj ho
            refine gw rfl (g_load_all 32 _ (w.heap.size + 1) ([.bool false, sv]) 32 _ rfl q_o Try.underlying32 rfl (szR) ?_)
            exact ⟨own_pd _ rfl rfl, hC, Below.refl _ _⟩
          · obtain rfl := Option.some.inj ho
            have d0 : v 0 = .agg #[.bool false, sv] := hall ⟨0, .data⟩ (by simp) rfl _ rfl
            refine gw rfl (g_call 41 _ _ [.agg #[.bool false, sv]] (kf41 _ _) (by show ([v 0] : List Value) = _; rw [d0]; (try rfl)) ((bare_n false sv l (m : Int) wx g_rdo (by omega) hz1).mono ?_))
            rintro e w' ⟨u_, rfl, hp, hb⟩
            exact ⟨_, rfl, own_pd _ rfl hp, ⟨hC.1.trans (hb.mono (Nat.le_trans hB0 hC.1.size)), q_o.below hb q_o.lt, q_h.below hb q_h.lt, g_rdo.below hb, g_rdu.below hb, ⟨x_5, y_5, p_5.below hb p_5.lt⟩⟩, hb⟩
          · obtain rfl := Option.some.inj ho
            refine gw rfl (g_load_all 32 _ (w21.heap.size) ([.bool s_n24, u]) 32 _ rfl q_h Try.underlying32 rfl (szR) ?_)
            exact ⟨own_pd _ rfl rfl, hC, Below.refl _ _⟩
          · obtain rfl := Option.some.inj ho
            have d2 : v 2 = .agg #[.bool s_n24, u] := hall ⟨2, .data⟩ (by simp) rfl _ rfl
            refine gw rfl (g_call 41 _ _ [.agg #[.bool s_n24, u]] (kf41 _ _) (by show ([v 2] : List Value) = _; rw [d2]; (try rfl)) ((bare_n s_n24 u (List.replicate 64 false ++ lh) zh wx g_rdu (by rw [List.length_append, List.length_replicate]; omega) hz2).mono ?_))
            rintro e w' ⟨u_, rfl, hp, hb⟩
            exact ⟨_, rfl, own_pd _ rfl hp, ⟨hC.1.trans (hb.mono (Nat.le_trans hB0 hC.1.size)), q_o.below hb q_o.lt, q_h.below hb q_h.lt, g_rdo.below hb, g_rdu.below hb, ⟨x_5, y_5, p_5.below hb p_5.lt⟩⟩, hb⟩
          · obtain rfl := Option.some.inj ho
            have d1 : RN wx (v 1) ((m : Nat)) := hall ⟨1, .data⟩ (by simp) rfl _ rfl
            have d3 : RN wx (v 3) (zh) := hall ⟨3, .data⟩ (by simp) rfl _ rfl
            refine gw rfl (g_call 37 _ _ [v 1, v 3] (kf37 _ _) (rfl) ((radd_any _ _ (m : Int) zh z wx d1 d3 fm fh hz3).mono ?_))
            rintro e w' ⟨u_, rfl, hp, hb⟩
            exact ⟨_, rfl, own_pd _ rfl hp, ⟨hC.1.trans (hb.mono (Nat.le_trans hB0 hC.1.size)), q_o.below hb q_o.lt, q_h.below hb q_h.lt, g_rdo.below hb, g_rdu.below hb, ⟨x_5, y_5, p_5.below hb p_5.lt⟩⟩, hb⟩
          · obtain rfl := Option.some.inj ho
            have d4 : RN wx (v 4) (z) := hall ⟨4, .data⟩ (by simp) rfl _ rfl
            obtain ⟨s8, b8, e8, r8⟩ := d4
            refine gw rfl (g_store_all 32 _ _ (w.heap.size) [.bool s8, b8] _ 32 rfl (show v 4 = _ from e8) p_5 szR rfl (one_rc _ _ r8.sl) (fun w' h1 h2 => ?_))
            exact ⟨own_pd _ rfl ⟨_, _, h2, r8.turn h1 p_5 (by decide)⟩, ⟨h1.below hC.1 l_r, h1.blk q_o (by omega), h1.blk q_h (by omega), g_rdo.turn h1 p_5 (by decide), g_rdu.turn h1 p_5 (by decide), ⟨_, _, h2⟩⟩, h1, _, p_5⟩
          · simp at ho
        · simp only [full, Act.put, List.setIfInBounds_toArray, List.set_cons_succ, List.set_cons_zero, Nat.zero_add, Nat.reduceAdd]
          intro v w24 hC hall
          have d0 : v 0 = .agg #[.bool false, sv] := hall 0 _ (by decide) rfl
          (try rw [d0])
          clear d0
          generalize v 1 = y8_1
          have d2 : v 2 = .agg #[.bool s_n24, u] := hall 2 _ (by decide) rfl
          (try rw [d2])
          clear d2
          generalize v 3 = y8_3
          generalize v 4 = y8_4
          obtain ⟨s_r8, v_r8, h_r, r_r8⟩ := (hall 5 _ (by decide) rfl : RA w24 (w.heap.size) (z))
          clear hall
          obtain ⟨hC, h_o, h_h, g_rdo, g_rdu, -⟩ := hC
          replace rdo := g_rdo
          replace rdu := g_rdu
          replace b_o := h_o
          replace b_h := h_h
          replace b_r := h_r
          replace hB := hB.trans hC
          clear hC hB0
          go_wp2_with fail
          (try simp only [Exit.inBlock, Exit.then])
          exact bodyPost_ret (results_blk rfl _ _ _ rfl b_r Try.underlying32 rfl szR) rfl ⟨_, rfl, ⟨_, _, rfl, r_r8⟩, hB⟩

end Go.Proofs.Ytpeiboehdjhimaa
