/- A moment's bytes and back, Parts of 24 bytes, whether a tag is right. -/
import Derived.Test.YtpenicjlpiechaaDoorQVo1
import Derived.WalkKit
import Derived.WalkSpells
import Derived.WalkLawsBesides
namespace Go.Proofs.YtpenicjlpiechaaDoor
set_option maxRecDepth 10000
open Go Go.RowKit
set_option linter.unusedVariables false
set_option linter.unusedSimpArgs false

section
variable {a : Act} {w w0 : World} {R : List HP} {dst : Option Tmp} {ty yt : TypeId} {pos : String} {aft : Array Edge} {gd : Option (Nat × Bool)} {K : Value → World → Prop}
theorem g_sl_h (x q : Operand) (s r : ByteArray) (h : Nat) (hx : a.eval x = .string s) (hh : a.eval q = .int .i64 h) (hs : h ≤ s.size) (hr : s.extract 0 h = r) (hk : K (.string r) w) : gives Tryd.prog ⟨dst, .slice 9 x none (some q) none, ty, pos, aft, gd⟩ a w K := by
  subst hr
  exact g_val _ w (by simp only [execOp, hx, Option.map_some, Option.map_none, hh]; go_simp) hk
theorem g_sl_l (x p : Operand) (s r : ByteArray) (l : Nat) (hx : a.eval x = .string s) (hl : a.eval p = .int .i64 l) (hs : l ≤ s.size) (hr : s.extract l s.size = r) (hk : K (.string r) w) : gives Tryd.prog ⟨dst, .slice 9 x (some p) none none, ty, pos, aft, gd⟩ a w K := by
  subst hr
  exact g_val _ w (by simp only [execOp, hx, Option.map_some, Option.map_none, hl]; go_simp) hk
theorem g_strN (x y : Operand) (p q : ByteArray) (b r : Bool) (hx : a.eval x = .string p) (hy : a.eval y = .string q) (hb : decide (p = q) = b) (hr : (!b) = r) (hk : K (.bool r) w) : gives Tryd.prog ⟨dst, .binOp .neq 9 x y yt, ty, pos, aft, gd⟩ a w K :=
  g_stne 9 x y p q b hx hy hb (by subst hr; exact hk)
theorem g_min (x y : Operand) (p q r : Int) (hx : a.eval x = .int .i64 p) (hy : a.eval y = .int .i64 q) (hr : min p q = r) (hk : K (.int .i64 r) w) : gives Tryd.prog ⟨dst, .call { callee := .builtin .min, args := #[x, y], argTypes := #[3, 3] }, ty, pos, aft, gd⟩ a w K :=
  g_val (.int .i64 r) w (by simp only [execOp, resolve, invoke, builtin, List.map_toArray, List.map_cons, List.map_nil, hx, hy]; go_simp; try exact hr) hk
theorem g_mkS (x y : Operand) (d : Nat) (n : Int) (hx : a.eval x = .int .i64 n) (hy : a.eval y = .int .i64 n) (hn : n = d) (hd : d ≤ 1000)
    (hk : ∀ w', Turn w.heap.size w w' → Blk w' w.heap.size (List.replicate d (.string ⟨#[]⟩)) 9 → K (.slice (some ⟨w.heap.size, 0, none⟩) d d) w') : gives Tryd.prog ⟨dst, .makeSlice 95 x y, ty, pos, aft, gd⟩ a w K := by
  subst hn
  obtain ⟨i, hi, he⟩ : ∃ i, Tryd.prog.info? 9 = some i ∧ (i.zero, i.size, i.bytes) = (some (.string ⟨#[]⟩), 1, 16) := by
    have h : (Tryd.prog.info? 9).map (fun i => (i.zero, i.size, i.bytes)) = some (some (.string ⟨#[]⟩), 1, 16) := by kernel_rfl
    cases hi : Tryd.prog.info? 9 with
    | none => rw [hi] at h; cases h
    | some i => rw [hi] at h; exact ⟨i, rfl, Option.some.inj h⟩
  have hsz : i.size = 1 := congrArg (·.2.1) he
  have hby : i.bytes = 16 := congrArg (·.2.2) he
  have hr := run_make (P := Tryd.prog) w 95 9 i (.string ⟨#[]⟩) Tryd.underlying95 hi (congrArg (·.1) he) .i64 .i64 (d : Int) (d : Int) (by omega) (Int.le_refl _) (by rw [hby]; omega) (by omega)
  simp only [Int.toNat_natCast, hsz, Nat.mul_one] at hr
  obtain ⟨h1, h2⟩ := turn_alloc w (List.replicate d (.string ⟨#[]⟩)) 9
  have e : madeCells (Value.string ⟨#[]⟩).cells d = (List.replicate d (Value.string ⟨#[]⟩)).toArray := by
    apply Array.toList_inj.1
    apply List.ext_getElem
    · simp [madeCells]
    · intro j h1 h2
      simp [madeCells, Value.cells, Nat.mod_one]
  rw [e] at hr
  exact g_val _ _ (by simp only [execOp, hx, hy, Sem.run_bind, hr, Result.andThen_ok, Sem.run_pure]) (hk _ h1 h2)
end
set_option maxHeartbeats 8000000 in
theorem vput_any (t : Int) (w : World) : Calls Tryd.prog 45 #[.int .i64 t] w fun e w' => e = .returned (.string (mb t)) ∧ Below w.heap.size w w' := by
  have hM := Ms.refl w
  go_enter Tryd.func45, Tryd.ntmps45
  refine wp_seq_k fun _ κ1 => wl_region (wl_fare kn ?_)
  simp (disch := omega) only [fx, pv, kx]
  refine wl_nil (κ1 _ _ ?_)
  refine wp_seq_k fun _ κ2 => wl_region (wl_fare kn ?_)
  simp (disch := omega) only [fx, pv, kx]
  refine wl_give rfl (g_cv2U _ (t) (((t % 18446744073709551616).toNat : Nat) : Int) rfl (by omega) ?_)
  try simp only [nz]
  refine wl_give rfl (g_cM hM (kf66 _ _) (put_any (t % 18446744073709551616).toNat 8 8 w (.inr (.inl ⟨by decide, by decide, rfl⟩))) rfl fun w3 hM => wl_fare kn ?_)
  simp (disch := omega) only [fx, pv, kx]
  refine wl_nil (κ2 _ _ ?_)
  refine wp_ret ?_
  go_ret
  exact ⟨rfl, hM.below⟩
theorem take_b (s : ByteArray) (w : World) (h8 : s.size ≤ 8) : Calls Tryd.prog 69 #[.string s] w fun e w' => e = .returned (.tuple #[.int .u64 (num s.data.toList), .int .i64 0]) ∧ Below w.heap.size w w' :=
  (take_any s w h8).mono fun e w' ⟨h1, h2⟩ => ⟨h1, by rw [h2]; exact Below.refl _ _⟩
set_option maxHeartbeats 8000000 in
theorem vtake_any (s : ByteArray) (w : World) (h8 : s.size ≤ 8) : Calls Tryd.prog 49 #[.string s] w fun e w' => e = .returned (.int .i64 (tm s)) ∧ Below w.heap.size w w' := by
  have hM := Ms.refl w
  go_enter Tryd.func49, Tryd.ntmps49
  refine wp_seq_k fun _ κ1 => wl_region (wl_fare kn ?_)
  simp (disch := omega) only [fx, pv, kx]
  refine wl_nil (κ1 _ _ ?_)
  refine wp_seq_k fun _ κ2 => wl_region (wl_fare kn ?_)
  simp (disch := omega) only [fx, pv, kx]
  refine wl_give rfl (g_cM hM (kf69 _ _) (take_b s w h8) rfl fun w3 hM => wl_fare kn ?_)
  simp (disch := omega) only [fx, pv, kx]
  refine wl_nil (κ2 _ _ ?_)
  refine wp_seq_k fun _ κ4 => wl_region (wl_fare kn ?_)
  simp (disch := omega) only [fx, pv, kx]
  refine wl_give rfl (g_cvU2 _ ((num s.data.toList : Nat) : Int) (tm s) rfl rfl ?_)
  refine wl_fare kn ?_
  simp (disch := omega) only [fx, pv, kx]
  refine wl_nil (κ4 _ _ ?_)
  refine wp_ret ?_
  go_ret
  exact ⟨rfl, hM.below⟩
/-- A part of 8 bytes. -/
def pcs (s : ByteArray) (j : Nat) : ByteArray := (s.extract (8 * j) s.size).extract 0 8
/-- What is told of three parts behind k rounds. -/
def fl (s : ByteArray) : Nat → List Value
  | 0 => [.string ⟨#[]⟩, .string ⟨#[]⟩, .string ⟨#[]⟩]
  | 1 => [.string (pcs s 0), .string ⟨#[]⟩, .string ⟨#[]⟩]
  | 2 => [.string (pcs s 0), .string (pcs s 1), .string ⟨#[]⟩]
  | _ => [.string (pcs s 0), .string (pcs s 1), .string (pcs s 2)]
theorem ext_size (s : ByteArray) (l n : Nat) (h : s.size = n) : (s.extract l s.size).size = n - l := by rw [ByteArray.size_extract]; omega
theorem ne_empty {s : ByteArray} {n : Nat} (h : s.size = n) (h0 : n ≠ 0) : s ≠ ⟨#[]⟩ := by
  rintro rfl
  exact h0 h.symm
set_option maxHeartbeats 8000000 in
theorem parts_any (s : ByteArray) (w : World) (hs : s.size = 24) : Calls Tryd.prog 48 #[.string s, .int .i64 8] w fun e w' => ∃ g : Nat, e = .returned (.slice (some ⟨g, 0, none⟩) 3 3) ∧ Ms w w' [blk g [.string (pcs s 0), .string (pcs s 1), .string (pcs s 2)] 9] := by
  have hM := Ms.refl w
  go_enter Tryd.func48, Tryd.ntmps48
  refine wp_seq_k fun _ κ1 => wl_region (wl_fare kn ?_)
  simp (disch := omega) only [fx, pv, kx]
  refine wl_nil (κ1 _ _ ?_)
  refine wp_seq_k fun _ κ2 => wp_seq_k fun _ κ3 => wl_region (wl_fare kn ?_)
  simp (disch := omega) only [fx, pv, kx]
  refine wl_give rfl (g_steq 9 _ _ (s) (⟨#[]⟩) false rfl rfl (decide_eq_false (ne_empty hs (by decide))) ?_)
  refine wl_fare kn ?_
  simp (config := { maxSteps := 10000000 }) (disch := omega) only [fx, pv, kx]
  refine wl_nil (κ3 _ _ ?_)
  refine wp_cond_false rfl (wp_skip ?_)
  refine κ2 _ _ (wp_seq_k fun _ κ4 => ?_)
  refine wl_region (wl_fare kn ?_)
  simp (disch := omega) only [fx, pv, kx]
  refine wl_give rfl (g_lenT _ (s) (24) rfl (by rw [hs]; rfl) ?_)
  refine wl_fare kn ?_
  simp (disch := omega) only [fx, pv, kx]
  refine wl_give rfl (g_iquo 3 _ _ .i64 (23) (8) (2) rfl rfl (by decide) (by decide) ?_)
  refine wl_fare kn ?_
  simp (disch := omega) only [fx, pv, kx]
  refine wl_nil (κ4 _ _ ?_)
  refine wp_seq_k fun _ κ5 => wl_region (wl_fare kn ?_)
  simp (disch := omega) only [fx, pv, kx]
  refine wl_give rfl (g_mkS _ _ (3) (3) rfl rfl rfl (by decide) fun w6 t_ b_ => ?_)
  replace hM := hM.new t_ b_
  clear t_ b_
  refine wl_fare kn ?_
  simp (disch := omega) only [fx, pv, kx]
  refine wl_nil (κ5 _ _ ?_)
  refine wp_seq_k fun _ κ7 => wp_seq_k fun _ κ8 => wl_region (wl_fare kn ?_)
  simp (disch := omega) only [fx, pv, kx]
  refine wl_nil (κ8 _ _ ?_)
  refine wp_block ?_
  go_loopw [24] (fun v24 wr => ∃ k : Nat, k ≤ 3 ∧ v24 = .int .i64 ((k : Nat) : Int) ∧ Ms w wr [blk (w.heap.size) (fl s k) 9]) (fun v24 _ => (3 - intOf v24).toNat)
  case atStart => exact ⟨0, by decide, rfl, hM⟩
  case round =>
    clear hM
    obtain ⟨k, hk, rfl, hM⟩ := hrel
    rcases (by omega : k = 0 ∨ k = 1 ∨ k = 2 ∨ k = 3) with rfl | rfl | rfl | rfl
    · skip
      replace hM : Ms w wr [blk (w.heap.size) ([.string (⟨#[]⟩), .string (⟨#[]⟩), .string (⟨#[]⟩)]) 9] := hM
      refine wp_seq_k (fun K9 hK9 => ?_)
      refine wl_region (wl_give rfl (g_ilss 3 _ _ .i64 (0) (3) true rfl rfl (by decide) ?_))
      try simp only [nz]
      refine wl_nil ?_
      refine hK9 _ _ ?_
      (try clear hK9 K9)
      refine wp_seq_k (fun K10 hK10 => ?_)
      refine wp_cond_true rfl (wp_skip ?_)
      refine hK10 _ _ ?_
      (try clear hK10 K10)
      refine wp_seq_k (fun K11 hK11 => ?_)
      refine wp_block (wp_seq_k (fun K12 hK12 => ?_))
      refine wl_region (wl_give rfl (g_move _ (.int .i64 (0)) rfl ?_))
      try simp only [nz]
      refine wl_give rfl (g_assign _ (.int .i64 (0)) rfl ?_)
      try simp only [nz]
      refine wl_nil ?_
      refine hK12 _ _ ?_
      (try clear hK12 K12)
      refine wp_seq_k (fun K13 hK13 => ?_)
      refine wl_region (wl_give rfl (g_move _ (.string (s)) rfl ?_))
      try simp only [nz]
      refine wl_give rfl (g_move _ (.int .i64 (0)) rfl ?_)
      try simp only [nz]
      refine wl_give rfl (g_move _ (.int .i64 (8)) rfl ?_)
      try simp only [nz]
      refine wl_give rfl (g_imul 3 _ _ .i64 (0) (8) (0) rfl rfl (by decide) ?_)
      try simp only [nz]
      refine wl_give rfl (g_sl_l _ _ (s) (s.extract 0 s.size) 0 rfl rfl (by rw [hs]; decide) rfl ?_)
      try simp only [nz]
      refine wl_give rfl (g_assign _ (.string (s.extract 0 s.size)) rfl ?_)
      try simp only [nz]
      refine wl_nil ?_
      refine hK13 _ _ ?_
      (try clear hK13 K13)
      refine wl_region (wl_give rfl (g_move _ (.slice (some ⟨w.heap.size, 0, none⟩) (3) (3)) rfl ?_))
      try simp only [nz]
      refine wl_give rfl (g_move _ (.int .i64 (0)) rfl ?_)
      try simp only [nz]
      refine wl_give rfl (g_move _ (.string (s.extract 0 s.size)) rfl ?_)
      try simp only [nz]
      refine wl_give rfl (g_move _ (.int .i64 (8)) rfl ?_)
      try simp only [nz]
      refine wl_give rfl (g_move _ (.string (s.extract 0 s.size)) rfl ?_)
      try simp only [nz]
      refine wl_give rfl (g_lenT _ (s.extract 0 s.size) (24) rfl (by rw [ext_size s 0 24 hs]; rfl) ?_)
      try simp only [nz]
      refine wl_give rfl (g_min _ _ (8) (24) (8) rfl rfl (by decide) ?_)
      try simp only [nz]
      refine wl_give rfl (g_sl_h _ _ (s.extract 0 s.size) (pcs s 0) 8 rfl rfl (by rw [ext_size s 0 24 hs]; decide) rfl ?_)
      try simp only [nz]
      refine wl_give rfl (g_ix _ _ 95 9 1 Tryd.underlying95 (fun w => Tryd.sizeOf9 w) (w.heap.size) 0 3 3 0 (0) (0) rfl rfl rfl (by decide) (by decide) ?_)
      try simp only [nz]
      refine wl_give rfl (g_st1 9 _ _ (w.heap.size) 0 (.string (pcs s 0)) _ 9 rfl rfl (hM.get 0 rfl) (show 0 < 3 by decide) rfl rfl size9 fun w14 t_ b_ => ?_)
      replace hM : Ms w w14 [blk (w.heap.size) ([.string (pcs s 0), .string (⟨#[]⟩), .string (⟨#[]⟩)]) 9] := hM.put 0 rfl t_ b_
      clear t_ b_
      try simp only [nz]
      refine wl_nil ?_
      refine hK11 _ _ ?_
      (try clear hK11 K11)
      refine wl_region (wl_give rfl (g_ia 3 _ _ .i64 (0) (1) (1) rfl rfl (by decide) ?_))
      try simp only [nz]
      refine wl_give rfl (g_move _ (.int .i64 (1)) rfl ?_)
      try simp only [nz]
      refine wl_nil ?_
      (try simp only [Exit.then, Exit.inBlock, ↓reduceIte, Nat.reduceEqDiff])
      go_roundw
      case rel => exact ⟨1, by decide, rfl, (hM.up 0 rfl)⟩
      case measure => simp [intOf]
    · skip
      replace hM : Ms w wr [blk (w.heap.size) ([.string (pcs s 0), .string (⟨#[]⟩), .string (⟨#[]⟩)]) 9] := hM
      refine wp_seq_k (fun K15 hK15 => ?_)
      refine wl_region (wl_give rfl (g_ilss 3 _ _ .i64 (1) (3) true rfl rfl (by decide) ?_))
      try simp only [nz]
      refine wl_nil ?_
      refine hK15 _ _ ?_
      (try clear hK15 K15)
      refine wp_seq_k (fun K16 hK16 => ?_)
      refine wp_cond_true rfl (wp_skip ?_)
      refine hK16 _ _ ?_
      (try clear hK16 K16)
      refine wp_seq_k (fun K17 hK17 => ?_)
      refine wp_block (wp_seq_k (fun K18 hK18 => ?_))
      refine wl_region (wl_give rfl (g_move _ (.int .i64 (1)) rfl ?_))
      try simp only [nz]
      refine wl_give rfl (g_assign _ (.int .i64 (1)) rfl ?_)
      try simp only [nz]
      refine wl_nil ?_
      refine hK18 _ _ ?_
      (try clear hK18 K18)
      refine wp_seq_k (fun K19 hK19 => ?_)
      refine wl_region (wl_give rfl (g_move _ (.string (s)) rfl ?_))
      try simp only [nz]
      refine wl_give rfl (g_move _ (.int .i64 (1)) rfl ?_)
      try simp only [nz]
      refine wl_give rfl (g_move _ (.int .i64 (8)) rfl ?_)
      try simp only [nz]
      refine wl_give rfl (g_imul 3 _ _ .i64 (1) (8) (8) rfl rfl (by decide) ?_)
      try simp only [nz]
      refine wl_give rfl (g_sl_l _ _ (s) (s.extract 8 s.size) 8 rfl rfl (by rw [hs]; decide) rfl ?_)
      try simp only [nz]
      refine wl_give rfl (g_assign _ (.string (s.extract 8 s.size)) rfl ?_)
      try simp only [nz]
      refine wl_nil ?_
      refine hK19 _ _ ?_
      (try clear hK19 K19)
      refine wl_region (wl_give rfl (g_move _ (.slice (some ⟨w.heap.size, 0, none⟩) (3) (3)) rfl ?_))
      try simp only [nz]
      refine wl_give rfl (g_move _ (.int .i64 (1)) rfl ?_)
      try simp only [nz]
      refine wl_give rfl (g_move _ (.string (s.extract 8 s.size)) rfl ?_)
      try simp only [nz]
      refine wl_give rfl (g_move _ (.int .i64 (8)) rfl ?_)
      try simp only [nz]
      refine wl_give rfl (g_move _ (.string (s.extract 8 s.size)) rfl ?_)
      try simp only [nz]
      refine wl_give rfl (g_lenT _ (s.extract 8 s.size) (16) rfl (by rw [ext_size s 8 24 hs]; rfl) ?_)
      try simp only [nz]
      refine wl_give rfl (g_min _ _ (8) (16) (8) rfl rfl (by decide) ?_)
      try simp only [nz]
      refine wl_give rfl (g_sl_h _ _ (s.extract 8 s.size) (pcs s 1) 8 rfl rfl (by rw [ext_size s 8 24 hs]; decide) rfl ?_)
      try simp only [nz]
      refine wl_give rfl (g_ix _ _ 95 9 1 Tryd.underlying95 (fun w => Tryd.sizeOf9 w) (w.heap.size) 0 3 3 1 (1) (1) rfl rfl rfl (by decide) (by decide) ?_)
      try simp only [nz]
      refine wl_give rfl (g_st1 9 _ _ (w.heap.size) 1 (.string (pcs s 1)) _ 9 rfl rfl (hM.get 0 rfl) (show 1 < 3 by decide) rfl rfl size9 fun w20 t_ b_ => ?_)
      replace hM : Ms w w20 [blk (w.heap.size) ([.string (pcs s 0), .string (pcs s 1), .string (⟨#[]⟩)]) 9] := hM.put 0 rfl t_ b_
      clear t_ b_
      try simp only [nz]
      refine wl_nil ?_
      refine hK17 _ _ ?_
      (try clear hK17 K17)
      refine wl_region (wl_give rfl (g_ia 3 _ _ .i64 (1) (1) (2) rfl rfl (by decide) ?_))
      try simp only [nz]
      refine wl_give rfl (g_move _ (.int .i64 (2)) rfl ?_)
      try simp only [nz]
      refine wl_nil ?_
      (try simp only [Exit.then, Exit.inBlock, ↓reduceIte, Nat.reduceEqDiff])
      go_roundw
      case rel => exact ⟨2, by decide, rfl, (hM.up 0 rfl)⟩
      case measure => simp [intOf]
    · skip
      replace hM : Ms w wr [blk (w.heap.size) ([.string (pcs s 0), .string (pcs s 1), .string (⟨#[]⟩)]) 9] := hM
      refine wp_seq_k (fun K21 hK21 => ?_)
      refine wl_region (wl_give rfl (g_ilss 3 _ _ .i64 (2) (3) true rfl rfl (by decide) ?_))
      try simp only [nz]
      refine wl_nil ?_
      refine hK21 _ _ ?_
      (try clear hK21 K21)
      refine wp_seq_k (fun K22 hK22 => ?_)
      refine wp_cond_true rfl (wp_skip ?_)
      refine hK22 _ _ ?_
      (try clear hK22 K22)
      refine wp_seq_k (fun K23 hK23 => ?_)
      refine wp_block (wp_seq_k (fun K24 hK24 => ?_))
      refine wl_region (wl_give rfl (g_move _ (.int .i64 (2)) rfl ?_))
      try simp only [nz]
      refine wl_give rfl (g_assign _ (.int .i64 (2)) rfl ?_)
      try simp only [nz]
      refine wl_nil ?_
      refine hK24 _ _ ?_
      (try clear hK24 K24)
      refine wp_seq_k (fun K25 hK25 => ?_)
      refine wl_region (wl_give rfl (g_move _ (.string (s)) rfl ?_))
      try simp only [nz]
      refine wl_give rfl (g_move _ (.int .i64 (2)) rfl ?_)
      try simp only [nz]
      refine wl_give rfl (g_move _ (.int .i64 (8)) rfl ?_)
      try simp only [nz]
      refine wl_give rfl (g_imul 3 _ _ .i64 (2) (8) (16) rfl rfl (by decide) ?_)
      try simp only [nz]
      refine wl_give rfl (g_sl_l _ _ (s) (s.extract 16 s.size) 16 rfl rfl (by rw [hs]; decide) rfl ?_)
      try simp only [nz]
      refine wl_give rfl (g_assign _ (.string (s.extract 16 s.size)) rfl ?_)
      try simp only [nz]
      refine wl_nil ?_
      refine hK25 _ _ ?_
      (try clear hK25 K25)
      refine wl_region (wl_give rfl (g_move _ (.slice (some ⟨w.heap.size, 0, none⟩) (3) (3)) rfl ?_))
      try simp only [nz]
      refine wl_give rfl (g_move _ (.int .i64 (2)) rfl ?_)
      try simp only [nz]
      refine wl_give rfl (g_move _ (.string (s.extract 16 s.size)) rfl ?_)
      try simp only [nz]
      refine wl_give rfl (g_move _ (.int .i64 (8)) rfl ?_)
      try simp only [nz]
      refine wl_give rfl (g_move _ (.string (s.extract 16 s.size)) rfl ?_)
      try simp only [nz]
      refine wl_give rfl (g_lenT _ (s.extract 16 s.size) (8) rfl (by rw [ext_size s 16 24 hs]; rfl) ?_)
      try simp only [nz]
      refine wl_give rfl (g_min _ _ (8) (8) (8) rfl rfl (by decide) ?_)
      try simp only [nz]
      refine wl_give rfl (g_sl_h _ _ (s.extract 16 s.size) (pcs s 2) 8 rfl rfl (by rw [ext_size s 16 24 hs]; decide) rfl ?_)
      try simp only [nz]
      refine wl_give rfl (g_ix _ _ 95 9 1 Tryd.underlying95 (fun w => Tryd.sizeOf9 w) (w.heap.size) 0 3 3 2 (2) (2) rfl rfl rfl (by decide) (by decide) ?_)
      try simp only [nz]
      refine wl_give rfl (g_st1 9 _ _ (w.heap.size) 2 (.string (pcs s 2)) _ 9 rfl rfl (hM.get 0 rfl) (show 2 < 3 by decide) rfl rfl size9 fun w26 t_ b_ => ?_)
      replace hM : Ms w w26 [blk (w.heap.size) ([.string (pcs s 0), .string (pcs s 1), .string (pcs s 2)]) 9] := hM.put 0 rfl t_ b_
      clear t_ b_
      try simp only [nz]
      refine wl_nil ?_
      refine hK23 _ _ ?_
      (try clear hK23 K23)
      refine wl_region (wl_give rfl (g_ia 3 _ _ .i64 (2) (1) (3) rfl rfl (by decide) ?_))
      try simp only [nz]
      refine wl_give rfl (g_move _ (.int .i64 (3)) rfl ?_)
      try simp only [nz]
      refine wl_nil ?_
      (try simp only [Exit.then, Exit.inBlock, ↓reduceIte, Nat.reduceEqDiff])
      go_roundw
      case rel => exact ⟨3, by decide, rfl, (hM.up 0 rfl)⟩
      case measure => simp [intOf]
    · skip
      replace hM : Ms w wr [blk (w.heap.size) ([.string (pcs s 0), .string (pcs s 1), .string (pcs s 2)]) 9] := hM
      refine wp_seq_k (fun K27 hK27 => ?_)
      refine wl_region (wl_give rfl (g_ilss 3 _ _ .i64 (3) (3) false rfl rfl (by decide) ?_))
      try simp only [nz]
      refine wl_nil ?_
      refine hK27 _ _ ?_
      (try clear hK27 K27)
      refine wp_seq_k (fun K28 hK28 => ?_)
      refine wp_cond_false rfl ?_
      refine wp_exit (κ7 _ _ ?_)
      refine wp_seq_k (fun K29 hK29 => ?_)
      refine wl_region (wl_give rfl (g_move _ (.slice (some ⟨w.heap.size, 0, none⟩) (3) (3)) rfl ?_))
      try simp only [nz]
      refine wl_give rfl (g_assign _ (.slice (some ⟨w.heap.size, 0, none⟩) (3) (3)) rfl ?_)
      try simp only [nz]
      refine wl_nil ?_
      refine hK29 _ _ ?_
      (try clear hK29 K29)
      refine wp_ret ?_
      go_ret
      exact ⟨_, rfl, (hM.up 0 rfl)⟩
/-- Is a tag right? -/
def rgt (k t g : ByteArray) : Bool := decide (8 ≤ g.size ∧ g = fst k t g.size)
set_option maxHeartbeats 8000000 in
theorem right_n (k t g : ByteArray) (w : World) (hT : Tabs w) (hk : k.size ≤ 549755813888) (ht : t.size ≤ 274877906944) (hg : g.size ≤ maxLen) (h8 : ¬ 8 ≤ g.size) : Calls Tryd.prog 47 #[.string k, .string t, .string g] w fun e w' => e = .returned (.bool false) ∧ Below w.heap.size w w' := by
  have hM := Ms.refl w
  go_enter Tryd.func47, Tryd.ntmps47
  refine wp_seq_k fun _ κ1 => wl_region (wl_fare kn ?_)
  simp (disch := omega) only [fx, pv, kx]
  refine wl_nil (κ1 _ _ ?_)
  refine wp_seq_k fun _ κ2 => wl_region (wl_fare kn ?_)
  simp (disch := omega) only [fx, pv, kx]
  refine wl_give rfl (g_lenT _ (g) ((((g).size : Nat) : Int)) rfl (rfl) ?_)
  refine wl_fare kn ?_
  simp (config := { maxSteps := 10000000 }) (disch := omega) only [fx, pv, kx, ((decide_eq_false (by omega)) : decide ((8) ≤ ((((g).size : Nat) : Int))) = false)]
  refine wl_nil (κ2 _ _ ?_)
  refine wp_ret ?_
  go_ret
  exact ⟨rfl, hM.below⟩
set_option maxHeartbeats 8000000 in
theorem right_y (k t g : ByteArray) (w : World) (hT : Tabs w) (hk : k.size ≤ 549755813888) (ht : t.size ≤ 274877906944) (hg : g.size ≤ maxLen) (h8 : 8 ≤ g.size) : Calls Tryd.prog 47 #[.string k, .string t, .string g] w fun e w' => e = .returned (.bool (decide (g = fst k t ((g.size : Nat) : Int)))) ∧ Below w.heap.size w w' := by
  have hM := Ms.refl w
  go_enter Tryd.func47, Tryd.ntmps47
  refine wp_seq_k fun _ κ1 => wl_region (wl_fare kn ?_)
  simp (disch := omega) only [fx, pv, kx]
  refine wl_nil (κ1 _ _ ?_)
  refine wp_seq_k fun _ κ2 => wl_region (wl_fare kn ?_)
  simp (disch := omega) only [fx, pv, kx]
  refine wl_give rfl (g_lenT _ (g) ((((g).size : Nat) : Int)) rfl (rfl) ?_)
  refine wl_fare kn ?_
  simp (disch := omega) only [fx, pv, kx, ((decide_eq_true (by omega)) : decide ((8) ≤ ((((g).size : Nat) : Int))) = true)]
  refine wl_give rfl (g_lenT _ (g) ((((g).size : Nat) : Int)) rfl (rfl) ?_)
  try simp only [nz]
  refine wl_give rfl (g_cM hM (kf46 _ _) (short_any k t ((g.size : Nat) : Int) hk ht w (hM.tabs hT)) rfl fun w3 hM => ?_)
  try simp only [nz]
  refine wl_give rfl (g_cM hM (kf68 _ _) (same_any g (fst k t ((g.size : Nat) : Int)) w3 hg (by rw [fst_size]; have := cutN_le ((g.size : Nat) : Int); unfold maxLen; omega)) rfl fun w4 hM => wl_fare kn ?_)
  simp (disch := omega) only [fx, pv, kx]
  refine wl_nil (κ2 _ _ ?_)
  refine wp_ret ?_
  go_ret
  exact ⟨rfl, hM.below⟩
theorem right_any (k t g : ByteArray) (w : World) (hT : Tabs w) (hk : k.size ≤ 549755813888) (ht : t.size ≤ 274877906944) (hg : g.size ≤ maxLen) (B : Bool) (hB : rgt k t g = B) : Calls Tryd.prog 47 #[.string k, .string t, .string g] w fun e w' => e = .returned (.bool B) ∧ Below w.heap.size w w' := by
  subst hB
  unfold rgt
  by_cases h8 : 8 ≤ g.size
  · rw [show decide (8 ≤ g.size ∧ g = fst k t g.size) = decide (g = fst k t ((g.size : Nat) : Int)) from decide_eq_decide.2 ⟨fun h => h.2, fun h => ⟨h8, h⟩⟩]
    exact right_y k t g w hT hk ht hg h8
  · rw [decide_eq_false fun h => h8 h.1]
    exact right_n k t g w hT hk ht hg h8
end Go.Proofs.YtpenicjlpiechaaDoor
