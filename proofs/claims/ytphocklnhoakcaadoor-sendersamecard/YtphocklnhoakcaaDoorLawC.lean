/- What the laws over rows of calls share. -/
import Derived.Test.YtphocklnhoakcaaDoorArgs
import Derived.Test.YtphocklnhoakcaaDoorRegP
import Derived.WalkKit
import Derived.WalkSpells
import Derived.WalkLawsBesides
namespace Go.Proofs.YtphocklnhoakcaaDoor
set_option maxRecDepth 10000
open Go Go.RowKit
set_option linter.unusedVariables false
set_option linter.unusedSimpArgs false

set_option maxHeartbeats 4000000 in
theorem large_yes (t : Int) (y : ByteArray) (w : World) (h : 1100 < y.size) : Calls Tryd.prog 12 #[.agg (cac t y).toArray] w fun e w' => e = .returned (.bool true) ∧ Below w.heap.size w w' := by
  have hM := Ms.refl w
  go_enter Tryd.func12, Tryd.ntmps12
  refine wp_seq_k (fun K1 hK1 => ?_)
  refine wl_region ?_
  refine wl_give rfl (g_box 39 _ (cac (t) (y)) rfl ?_)
  intro w2 t_ b_
  replace hM := hM.new t_ b_
  clear t_ b_
  (try simp only [Act.put, st_a, st_0, st_s])
  refine wl_give rfl (g_assign _ (.bool false) rfl ?_)
  (try simp only [Act.put, st_a, st_0, st_s])
  refine wl_nil ?_
  refine hK1 _ _ ?_
  (try clear hK1 K1)
  refine wp_seq_k (fun K3 hK3 => ?_)
  refine wl_region ?_
  refine wl_give rfl (g_fa 39 _ (w.heap.size) (0) (1) 1 rfl (faCa1 _ _ _) ?_)
  (try simp only [Act.put, st_a, st_0, st_s])
  refine wl_give rfl (g_ld1 9 _ (w.heap.size) (1) _ rfl (ld9 _ _ _ _ ((hM.get 0 rfl).cell (1) _ (rfl))) ?_)
  (try simp only [Act.put, st_a, st_0, st_s])
  refine wl_give rfl (g_lenT _ (y) ((((y).size : Nat) : Int)) rfl (rfl) ?_)
  (try simp only [Act.put, st_a, st_0, st_s])
  refine wl_give rfl (g_igtr 3 _ _ .i64 ((((y).size : Nat) : Int)) (1100) true rfl rfl (decide_eq_true (by omega)) ?_)
  (try simp only [Act.put, st_a, st_0, st_s])
  refine wl_give rfl (g_assign _ (.bool true) rfl ?_)
  (try simp only [Act.put, st_a, st_0, st_s])
  refine wl_nil ?_
  refine hK3 _ _ ?_
  (try clear hK3 K3)
  refine wp_ret ?_
  go_ret
  exact ⟨rfl, hM.below⟩
set_option maxHeartbeats 4000000 in
theorem large_no (t : Int) (y : ByteArray) (w : World) (h : ¬ 1100 < y.size) : Calls Tryd.prog 12 #[.agg (cac t y).toArray] w fun e w' => e = .returned (.bool false) ∧ Below w.heap.size w w' := by
  have hM := Ms.refl w
  go_enter Tryd.func12, Tryd.ntmps12
  refine wp_seq_k (fun K1 hK1 => ?_)
  refine wl_region ?_
  refine wl_give rfl (g_box 39 _ (cac (t) (y)) rfl ?_)
  intro w2 t_ b_
  replace hM := hM.new t_ b_
  clear t_ b_
  (try simp only [Act.put, st_a, st_0, st_s])
  refine wl_give rfl (g_assign _ (.bool false) rfl ?_)
  (try simp only [Act.put, st_a, st_0, st_s])
  refine wl_nil ?_
  refine hK1 _ _ ?_
  (try clear hK1 K1)
  refine wp_seq_k (fun K3 hK3 => ?_)
  refine wl_region ?_
  refine wl_give rfl (g_fa 39 _ (w.heap.size) (0) (1) 1 rfl (faCa1 _ _ _) ?_)
  (try simp only [Act.put, st_a, st_0, st_s])
  refine wl_give rfl (g_ld1 9 _ (w.heap.size) (1) _ rfl (ld9 _ _ _ _ ((hM.get 0 rfl).cell (1) _ (rfl))) ?_)
  (try simp only [Act.put, st_a, st_0, st_s])
  refine wl_give rfl (g_lenT _ (y) ((((y).size : Nat) : Int)) rfl (rfl) ?_)
  (try simp only [Act.put, st_a, st_0, st_s])
  refine wl_give rfl (g_igtr 3 _ _ .i64 ((((y).size : Nat) : Int)) (1100) false rfl rfl (decide_eq_false (by omega)) ?_)
  (try simp only [Act.put, st_a, st_0, st_s])
  refine wl_give rfl (g_assign _ (.bool false) rfl ?_)
  (try simp only [Act.put, st_a, st_0, st_s])
  refine wl_nil ?_
  refine hK3 _ _ ?_
  (try clear hK3 K3)
  refine wp_ret ?_
  go_ret
  exact ⟨rfl, hM.below⟩
def tls (l : List Value) (i : Nat) : Value := l.getD i undef
theorem cell_on {u w : World} {L : List HP} (hM : Ms u w L) {b k : Nat} {v : Value} (h : u.cell? ⟨b, k, none⟩ = some v) : w.cell? ⟨b, k, none⟩ = some v :=
  (hM.below.cell (p := ⟨b, k, none⟩) (World.block_lt_of_cell? u _ h)).trans h
theorem g_sneq {P : Program} {a : Act} {w : World} {dst : Option Tmp} {ty yt : TypeId} {pos : String} {aft : Array Edge} {gd : Option (Nat × Bool)} {K : Value → World → Prop} (t : TypeId) (x y : Operand) (s : ByteArray) (hx : a.eval x = .string s) (hy : a.eval y = .string s) (hk : K (.bool false) w) : gives P ⟨dst, .binOp .neq t x y yt, ty, pos, aft, gd⟩ a w K :=
  g_val (.bool false) w (by simp [execOp, hx, hy, eqGuard, binOp, Op.stringOp]) hk
/-- What Send tells: an error and no packet, or a packet of an interval that is no elder one. -/
theorem sd_cases {P : Pl} (hP : POk P) (s : Ky) (l t : Int) (y : ByteArray) : (∃ E, E ≠ 0 ∧ sdA s P l t y = ((pk0, E), l)) ∨
    ∃ i : Nat, 1 ≤ i ∧ (i : Int) ≤ P.ct ∧ l ≤ i ∧ y.size ≤ 1000 ∧ sdA s P l t y = ((⟨i, y, tgs (kyk s P i) i y, pte P i, if 0 < pte P i then kyk s P (pte P i) else zk⟩, 0), (i : Int)) := by
  rcases pat_cases hP t with ⟨e, _⟩ | ⟨e, _⟩ | ⟨i, i1, i2, e, _⟩
  · exact .inl ⟨15, by decide, sdA_err s P l t 0 15 y e (by decide)⟩
  · exact .inl ⟨10, by decide, sdA_err s P l t 0 10 y e (by decide)⟩
  · by_cases hl : (i : Int) < l
    · exact .inl ⟨14, by decide, sdA_late s P l t i y e hl⟩
    · by_cases hy : 1000 < y.size
      · exact .inl ⟨5, by decide, sdA_size s P l t i y e hl hy⟩
      · exact .inr ⟨i, i1, i2, by omega, by omega, sdA_ok s P l t i _ y e (by omega) (by omega) rfl⟩
end Go.Proofs.YtphocklnhoakcaaDoor
