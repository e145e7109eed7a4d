/- What the program's sha.reached answers. -/
import Derived.Test.YtpenicjlpiechaaDoorRows
import Derived.WalkKit
import Derived.WalkSpells
import Derived.WalkLawsBesides
import Derived.RegionTactic
import Derived.BigRegion
import Derived.Deep.QuietTactic
import Derived.BigQuiet
import Derived.Test.YtpenicjlpiechaaDoorBas
import Derived.Test.YtpenicjlpiechaaDoorShaMath
namespace Go.Proofs.YtpenicjlpiechaaDoor
set_option maxRecDepth 10000
open Go.RowKit
set_option linter.unusedVariables false
/-- Numbers of 32 bits as cells. -/
def c32 (l : List (BitVec 32)) : List Value := l.map fun x => .int .u32 x.toNat
theorem c32_length (l : List (BitVec 32)) : (c32 l).length = l.length := by simp [c32]
theorem c32_one (l : List (BitVec 32)) : ∀ v ∈ c32 l, v.oneCell' = true := by
  intro v hv; obtain ⟨_, _, rfl⟩ := List.mem_map.1 hv; rfl
theorem c32_at (l : List (BitVec 32)) (i : Nat) (h : i < l.length) : (c32 l)[i]? = some (.int .u32 ((l.getD i 0).toNat : Int)) := by
  simp [c32, h]
/-- The two tables, as the program's text lays them. -/
structure Tabs (w : World) : Prop where
  s : ∀ i, i < 8 → w.cell? ⟨1, i, none⟩ = some (.int .u32 ((start0.getD i 0).toNat : Int))
  k : ∀ i, i < 64 → w.cell? ⟨0, i, none⟩ = some (.int .u32 ((kon.getD i 0).toNat : Int))
theorem Tabs.below {B : Nat} {w w' : World} (h : Tabs w) (hb : Below B w w') (hB : 2 ≤ B) : Tabs w' :=
  ⟨fun i hi => (hb.cell (p := ⟨1, i, none⟩) (show 1 < B by omega)).trans (h.s i hi), fun i hi => (hb.cell (p := ⟨0, i, none⟩) (show 0 < B by omega)).trans (h.k i hi)⟩
theorem Tabs.size {w : World} (h : Tabs w) : 2 ≤ w.heap.size := World.block_lt_of_cell? w _ (h.s 0 (by decide))
theorem size134 : (Tryd.prog.info? 134).map (·.size) = some 8 := by kernel_rfl
theorem zero134 (w : World) : (zeroValue 134).run Tryd.prog w = .ok (.agg (c32 (List.replicate 8 0)).toArray) w := Tryd.zeroValue134 w
theorem add32 (a b : BitVec 32) : ((a.toNat : Int) + (b.toNat : Int)) % 4294967296 = ((ad a b).toNat : Int) := by
  rw [ad, BitVec.toNat_add]; omega
/-- What reached has laid after k rounds. -/
def prt (g : List (BitVec 32)) (k : Nat) : List (BitVec 32) := (reach g).take k ++ g.drop k
theorem prt_length (g : List (BitVec 32)) (k : Nat) (hg : g.length = 8) (hk : k ≤ 8) : (prt g k).length = 8 := by
  have := reach_length g hg
  simp [prt]; omega
theorem prt_at (g : List (BitVec 32)) (k : Nat) (hg : g.length = 8) (hk : k < 8) : (prt g k).getD k 0 = g.getD k 0 := by
  have := reach_length g hg
  simp only [prt, List.getD_eq_getElem?_getD]
  rw [List.getElem?_append_right (by simp; omega)]
  simp [show k - min k 8 = 0 by omega, this]
theorem prt_step (g : List (BitVec 32)) (k : Nat) (hg : g.length = 8) (hk : k < 8) : (prt g k).set k (ad (g.getD k 0) (start0.getD k 0)) = prt g (k + 1) := by
  have h1 := reach_length g hg
  have h2 := start0_length
  have e : ad (g.getD k 0) (start0.getD k 0) = (reach g)[k] := by
    simp [reach, hg, h2, hk]
  rw [e, prt, prt, List.set_append_right _ _ (by simp; omega), List.take_succ_eq_append_getElem (l := reach g) (by omega)]
  simp only [List.length_take, h1, show k - min k 8 = 0 by omega]
  rw [List.drop_eq_getElem_cons (by omega), List.set_cons_zero, List.append_assoc, List.singleton_append]
theorem prt_end (g : List (BitVec 32)) (hg : g.length = 8) : prt g 8 = reach g := by
  have h1 := reach_length g hg
  rw [prt, List.take_of_length_le (by omega), List.drop_eq_nil_of_le (by omega), List.append_nil]
theorem c32_set (l : List (BitVec 32)) (k : Nat) (x : BitVec 32) : (c32 l).set k (.int .u32 x.toNat) = c32 (l.set k x) := by
  simp [c32]
set_option maxHeartbeats 1000000 in
theorem reached_any (g : List (BitVec 32)) (hg : g.length = 8) (w : World) (hT : Tabs w) :
    Calls Tryd.prog 92 #[.agg (c32 g).toArray] w fun e w' => e = .returned (.agg (c32 (reach g)).toArray) ∧ Below w.heap.size w w' := by
  have hts := hT.size
  go_enter Tryd.func92, Tryd.ntmps92
  go_wp2_with (first
    | ((with_reducible refine at_box 134 ?_); refine L_box 134 _ (c32 g) rfl ?_; intro w1 h1 hb1)
    | ((with_reducible refine at_alloc 134 ?_); refine L_alloc 134 _ zero134 ?_; intro w2 h2 hb2))
  have hB : Below w.heap.size w w2 := h2.below (h1.below (Below.refl _ _) (Nat.le_refl _)) h1.size
  have hne : w.heap.size < w1.heap.size := hb1.lt
  have hb1' := h2.blk hb1 (by omega)
  go_loopw [4] (fun i wr => ∃ k : Nat, k ≤ 8 ∧ i = .int .i64 k ∧ Blk wr w.heap.size (c32 (prt g k)) 134 ∧ Blk wr w1.heap.size (c32 (List.replicate 8 0)) 134 ∧ Below w.heap.size w wr) (fun i _ => 8 - (intOf i).toNat)
  case atStart => exact ⟨0, by omega, rfl, by simpa [prt] using hb1', hb2, hB⟩
  case round =>
    obtain ⟨k, hk, rfl, hg1, hg2, hbw⟩ := hrel
    clear hb1' hb2 hb1 hB h1 h2
    by_cases hlt : k < 8
    · have hc1 := hg1.cell k _ (c32_at _ k (by rw [prt_length g k hg hk]; exact hlt))
      rw [prt_at g k hg hlt] at hc1
      have hf1 := hg1.frozen k
      have hc2 := (hT.below hbw hts).s k hlt
      obtain ⟨x, hx⟩ : ∃ x, g.getD k 0 = x := ⟨_, rfl⟩
      obtain ⟨y, hy⟩ : ∃ y, start0.getD k 0 = y := ⟨_, rfl⟩
      rw [hx] at hc1
      rw [hy] at hc2
      have hst : Hid ((prt g k).set k (ad x y) = prt g (k + 1)) := by rw [← hx, ← hy]; exact prt_step g k hg hlt
      clear hx hy
      have hadd := add32 x y
      go_wp2
      go_region
      go_wp2
      go_roundw
      case rel =>
        obtain ⟨t1, t2⟩ := turn_setCell wr.drew w.heap.size k (.int .u32 ((ad x y).toNat : Int)) _ 134 hg1.drew
        refine ⟨k + 1, by omega, by go_num, ?_, t1.blk hg2.drew (by omega), t1.below hbw.drew (Nat.le_refl _)⟩
        rw [c32_set, hst.out] at t2
        exact t2
      case measure => simp [intOf]; omega
    · obtain rfl : k = 8 := by omega
      rw [prt_end g hg] at hg1
      have hl8 : (c32 (reach g)).length = 8 := by rw [c32_length, reach_length g hg]
      have hz : Hid ((Tryd.prog.info? 134).map (·.size) = some (c32 (reach g)).length) := by rw [hl8]; exact size134
      have HL : Hid ((c32 (reach g)).length = (c32 (List.replicate 8 0)).length) := hl8
      clear hl8
      go_wp2_with (first
        | ((with_reducible refine at_load 134 ?_); refine L_load_all 134 _ w.heap.size _ 134 _ rfl hg1 Tryd.underlying134 rfl hz.out ?_)
        | ((with_reducible refine at_store 134 ?_); refine L_store_all 134 _ _ w1.heap.size (c32 (reach g)) _ 134 rfl rfl hg2 hz.out HL.out (c32_one _) ?_; intro w3 h3 hb3))
      (try simp only [Exit.inBlock, Exit.then])
      refine bodyPost_ret (results_blk rfl w1.heap.size (c32 (reach g)) _ rfl hb3 Tryd.underlying134 rfl hz.out) rfl ⟨rfl, h3.below hbw (by omega)⟩
end Go.Proofs.YtpenicjlpiechaaDoor
