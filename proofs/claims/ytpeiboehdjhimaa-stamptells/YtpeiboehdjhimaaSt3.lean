/- What the library's MinFunc answers for the program's two eras. -/
import Derived.Test.YtpeiboehdjhimaaSt2
namespace Go.Proofs.Ytpeiboehdjhimaa
open Go Go.RowKit
set_option linter.unusedVariables false
set_option maxHeartbeats 2000000 in
theorem min_lt (a b R : Int) (w : World) (p : Nat) (hp : Blk w p [.int .i64 0, .int .i64 (-1)] 2) (ha : 0 ≤ a) (ha2 : a < 18446744073709551616) (hb : Hid (18446744073709551616 - a = b)) (hR : Hid (cmpI b a = R)) (hn : R < 0) :
    Calls Try.prog 33 #[.slice (some ⟨p, 0, none⟩) 2 2, .func (.func 34) #[.agg (vl a).toArray] #[]] w fun e w' => e = .returned (.int .i64 (-1)) ∧ Below w.heap.size w w' := by
  have hc0 := hp.cell 0 _ rfl
  go_enter Try.func33, Try.ntmps33
  go_wp2
  go_loopw [5, 6] (fun m i wr => ∃ k : Nat, 1 ≤ k ∧ k ≤ 2 ∧ i = .int .i64 k ∧ m = .int .i64 (1 - k) ∧ Below w.heap.size w wr) (fun _ i _ => 2 - (intOf i).toNat)
  case atStart => exact ⟨1, by omega, by omega, rfl, rfl, Below.refl _ _⟩
  case round =>
    obtain ⟨k, hk1, hk2, rfl, rfl, hB⟩ := hrel
    have hp2 := hp.below hB hp.lt
    have hd1 := hp2.cell 1 _ rfl
    have hkk : k = 1 ∨ k = 2 := by omega
    rcases hkk with rfl | rfl
    · go_wp2_with fail
      refine (nearer_any a b R wr ha ha2 hb hR).mono ?_
      rintro e w1 ⟨rfl, t_⟩
      have hd2 := (hp2.below t_ hp2.lt).cell 1 _ rfl
      have hB1 := hB.trans (t_.mono hB.size)
      clear t_
      go_wp2
      go_roundw
      case rel => exact ⟨2, by omega, by omega, by go_num, by go_num, hB1⟩
      case measure => simp [intOf]
    · go_wp2
      go_ret
      exact ⟨rfl, hB⟩
set_option maxHeartbeats 2000000 in
theorem min_ge (a b R : Int) (w : World) (p : Nat) (hp : Blk w p [.int .i64 0, .int .i64 (-1)] 2) (ha : 0 ≤ a) (ha2 : a < 18446744073709551616) (hb : Hid (18446744073709551616 - a = b)) (hR : Hid (cmpI b a = R)) (hn : ¬ R < 0) :
    Calls Try.prog 33 #[.slice (some ⟨p, 0, none⟩) 2 2, .func (.func 34) #[.agg (vl a).toArray] #[]] w fun e w' => e = .returned (.int .i64 0) ∧ Below w.heap.size w w' := by
  have hc0 := hp.cell 0 _ rfl
  go_enter Try.func33, Try.ntmps33
  go_wp2
  go_loopw [5, 6] (fun m i wr => ∃ k : Nat, 1 ≤ k ∧ k ≤ 2 ∧ i = .int .i64 k ∧ m = .int .i64 0 ∧ Below w.heap.size w wr) (fun _ i _ => 2 - (intOf i).toNat)
  case atStart => exact ⟨1, by omega, by omega, rfl, rfl, Below.refl _ _⟩
  case round =>
    obtain ⟨k, hk1, hk2, rfl, rfl, hB⟩ := hrel
    have hp2 := hp.below hB hp.lt
    have hd1 := hp2.cell 1 _ rfl
    have hkk : k = 1 ∨ k = 2 := by omega
    rcases hkk with rfl | rfl
    · go_wp2_with fail
      refine (nearer_any a b R wr ha ha2 hb hR).mono ?_
      rintro e w1 ⟨rfl, t_⟩
      have hd2 := (hp2.below t_ hp2.lt).cell 1 _ rfl
      have hB1 := hB.trans (t_.mono hB.size)
      clear t_
      go_wp2
      go_roundw
      case rel => exact ⟨2, by omega, by omega, by go_num, rfl, hB1⟩
      case measure => simp [intOf]
    · go_wp2
      go_ret
      exact ⟨rfl, hB⟩
theorem run_bI (w : World) : (Instr.buildSlice 65 2 #[(0, .int .i64 0), (1, .int .i64 (-1))]).run Try.prog w = .ok (.slice (some ⟨w.heap.size, 0, none⟩) 2 2) (w.alloc (.cells #[.int .i64 0, .int .i64 (-1)] 2)) := by
  go_simp
section
variable {P : Program} {ops : Array Oper} {rest : List Oper} {a : Act} {w : World} {Q : Exit → Act → World → Prop} {dst : Option Tmp} {ty yt : TypeId} {pos : String} {aft : Array Edge} {gd : Option (Nat × Bool)} {K : Value → World → Prop}
theorem at_buildD {t : TypeId} {ps : Array (Nat × Operand)} {n : Nat} (d : Tmp) (h : wpList P ops Q (⟨some d, .buildSlice t n ps, ty, pos, aft, none⟩ :: rest) a w) : wpList P ops Q (⟨some d, .buildSlice t n ps, ty, pos, aft, none⟩ :: rest) a w := h
theorem g_bI (x y : Operand) (hx : a.eval x = .int .i64 0) (hy : a.eval y = .int .i64 (-1))
    (h : ∀ w', Turn w.heap.size w w' → Blk w' w.heap.size [.int .i64 0, .int .i64 (-1)] 2 → K (.slice (some ⟨w.heap.size, 0, none⟩) 2 2) w') : gives Try.prog ⟨dst, .buildSlice 65 2 #[(0, x), (1, y)], ty, pos, aft, gd⟩ a w K := by
  have ht := turn_alloc w [.int .i64 0, .int .i64 (-1)] 2
  refine g_val _ (w.alloc (.cells #[.int .i64 0, .int .i64 (-1)] 2)) ?_ (h _ ht.1 ht.2)
  simp only [execOp, hx, hy, List.map_toArray, List.map_cons, List.map_nil, Sem.run_bind, run_bI, Result.andThen_ok, Sem.run_pure]
end
end Go.Proofs.Ytpeiboehdjhimaa
