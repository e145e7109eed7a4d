/- What the program's sha.Walk and Hex answer. -/
import Derived.Test.YthbnlidfgjgncaaDoorShaW5
import Derived.Test.YthbnlidfgjgncaaDoorEqual
namespace Go.Proofs.YthbnlidfgjgncaaDoor
open Go.RowKit
set_option linter.unusedVariables false
/-- The digest of the digest, so many times. -/
def walkF : Nat → List UInt8 → List UInt8
  | 0, k => k
  | n + 1, k => sum (walkF n k)
theorem walkF_length (n : Nat) (k : List UInt8) (hk : k.length = 32) : (walkF n k).length = 32 := by
  cases n with
  | zero => exact hk
  | succ n => exact sum_length _
theorem walkF_add (m n : Nat) (k : List UInt8) : walkF m (walkF n k) = walkF (n + m) k := by
  induction m with
  | zero => rfl
  | succ m ih => rw [walkF, ih]; rfl
set_option maxRecDepth 100000 in
set_option maxHeartbeats 1000000 in
theorem walk_min (k : List UInt8) (st m : Int) (hk : k.length = 32) (w : World) (hT : Tabs w) (hm : min st 4096 = m) :
    Calls Tryd.prog 15 #[.agg (bc k).toArray, .int .i64 st] w fun e w' => e = .returned (.agg (bc (walkF m.toNat k)).toArray) ∧ Below w.heap.size w w' := by
  have hts := hT.size
  have hl32 : (bc (walkF m.toNat k)).length = 32 := by rw [bc_length, walkF_length _ _ hk]
  have hz : Hid ((Tryd.prog.info? 24).map (·.size) = some (bc (walkF m.toNat k)).length) := by rw [hl32]; exact size24
  have HL : Hid ((bc (walkF m.toNat k)).length = (bc (List.replicate 32 0)).length) := by rw [hl32]; rfl
  have hm2 : m ≤ 4096 := by omega
  clear hl32
  go_enter Tryd.func15, Tryd.ntmps15
  go_wp2_with (first
    | ((with_reducible refine at_box 24 ?_); refine L_box 24 _ (bc k) rfl ?_; intro w1 h1 hb1)
    | ((with_reducible refine at_alloc 24 ?_); refine L_alloc 24 _ zero24 ?_; intro w2 h2 hb2))
  have n1 : w.heap.size < w1.heap.size := hb1.lt
  have hB : Below w.heap.size w w2 := h2.below (h1.below (Below.refl _ _) (Nat.le_refl _)) h1.size
  have b1 := h2.blk hb1 (by omega)
  clear h1 h2 hb1 hm
  go_loopw [7] (fun i wr => ∃ j : Nat, (j : Int) ≤ max m 0 ∧ i = .int .i64 j ∧ Blk wr w.heap.size (bc (walkF j k)) 24 ∧ Blk wr w1.heap.size (bc (List.replicate 32 0)) 24 ∧ Below w.heap.size w wr) (fun i _ => m.toNat - (intOf i).toNat)
  case atStart => exact ⟨0, by omega, rfl, b1, hb2, hB⟩
  case round =>
    clear b1 hb2 hB
    obtain ⟨j, hj, rfl, b1, b2, hbw⟩ := hrel
    have hj2 : (j : Int) ≤ 4096 := by omega
    by_cases hlt : (j : Int) < m
    · obtain ⟨x, hx⟩ : ∃ x, walkF j k = x := ⟨_, rfl⟩
      have hxl : x.length = 32 := by rw [← hx]; exact walkF_length _ _ hk
      rw [hx] at b1
      have hsl := run_slice_all wr w.heap.size 0 32 24 5 Tryd.underlying24 Tryd.sizeOf5
      have hcv := blk_string (o := 0) (n := 32) (cap := 32) b1 x hxl (by rw [List.drop_zero, List.take_of_length_le (by rw [bc_length]; omega)])
      have hl32 : (bc (sum x)).length = 32 := by rw [bc_length, sum_length]
      have hz1 : Hid ((Tryd.prog.info? 24).map (·.size) = some (bc (sum x)).length) := by rw [hl32]; exact size24
      have HL1 : Hid ((bc (sum x)).length = (bc x).length) := by rw [hl32, bc_length, hxl]; rfl
      have HX : Hid (walkF (j + 1) k = sum x) := by show _ = _; rw [walkF, hx]
      have HXS : Hid ((⟨x.toArray⟩ : ByteArray).size ≤ 549755813888) := by show x.toArray.size ≤ _; simp [hxl]
      clear hx hxl hl32
      have n8 := b1.lt
      have n9 := b2.lt
      go_wp2_with fail
      refine (sum_any ⟨x.toArray⟩ wr (hT.below hbw hts) HXS.out).mono ?_; rintro e w5 ⟨rfl, hb5⟩
      have c1 := b1.below hb5 n8
      have c2 := b2.below hb5 n9
      have hB5 := hbw.trans (hb5.mono (by omega))
      clear b1 b2 hb5 hcv hsl
      rw [show (⟨x.toArray⟩ : ByteArray).data.toList = x from rfl]
      go_wp2_with (first
        | ((with_reducible refine at_store 24 ?_); refine L_store_all 24 _ _ w.heap.size (bc (sum x)) _ 24 rfl rfl c1 hz1.out HL1.out (bc_one _) ?_; intro w6 h6 hb6))
      go_roundw
      case rel =>
        refine ⟨j + 1, by omega, by go_num, ?_, h6.blk c2 (by omega), h6.below hB5 (Nat.le_refl _)⟩
        rw [HX.out]; exact hb6
      case measure => simp [intOf]; omega
    · have hjm : j = m.toNat := by omega
      have b3 : Blk wr w.heap.size (bc (walkF m.toNat k)) 24 := by rw [← hjm]; exact b1
      clear hjm
      go_wp2_with (first
        | ((with_reducible refine at_load 24 ?_); refine L_load_all 24 _ w.heap.size _ 24 _ rfl b3 Tryd.underlying24 rfl hz.out ?_)
        | ((with_reducible refine at_store 24 ?_); refine L_store_all 24 _ _ w1.heap.size (bc (walkF m.toNat k)) _ 24 rfl rfl b2 hz.out HL.out (bc_one _) ?_; intro w8 h8 hb8))
      (try simp only [Exit.inBlock, Exit.then])
      exact bodyPost_ret (results_blk rfl w1.heap.size (bc (walkF m.toNat k)) _ rfl hb8 Tryd.underlying24 rfl hz.out) rfl ⟨rfl, h8.below hbw (by omega)⟩
theorem walk_nat (k : List UInt8) (n : Nat) (hk : k.length = 32) (w : World) (hT : Tabs w) (hn : n ≤ 4096) :
    Calls Tryd.prog 15 #[.agg (bc k).toArray, .int .i64 n] w fun e w' => e = .returned (.agg (bc (walkF n k)).toArray) ∧ Below w.heap.size w w' := by
  have h := walk_min k n n hk w hT (by omega)
  rw [Int.toNat_natCast] at h
  exact h
theorem walk_low (k : List UInt8) (n : Int) (hk : k.length = 32) (w : World) (hT : Tabs w) (hn : n ≤ 0) :
    Calls Tryd.prog 15 #[.agg (bc k).toArray, .int .i64 n] w fun e w' => e = .returned (.agg (bc k).toArray) ∧ Below w.heap.size w w' := by
  have h := walk_min k n n hk w hT (by omega)
  rw [show n.toNat = 0 by omega] at h
  exact h
/-! ### Hex -/
def dgs : List UInt8 := [48, 49, 50, 51, 52, 53, 54, 55, 56, 57, 97, 98, 99, 100, 101, 102]
/-- A byte in sixteens. -/
def hx2 (b : UInt8) : List UInt8 := [dgs.getD (b.toNat / 16) 0, dgs.getD (b.toNat % 16) 0]
def hexL (k : List UInt8) : List UInt8 := k.flatMap hx2
theorem hexL_length (k : List UInt8) : (hexL k).length = 2 * k.length := by
  induction k with
  | nil => rfl
  | cons b k ih => rw [hexL, List.flatMap_cons, List.length_append]; unfold hexL at ih; rw [ih]; simp [hx2]; omega
/-- What Hex has laid after j rounds. -/
def hpl (k : List UInt8) (j : Nat) : List UInt8 := hexL (k.take j) ++ List.replicate (64 - 2 * j) 0
theorem hpl_length (k : List UInt8) (j : Nat) (hk : k.length = 32) (hj : j ≤ 32) : (hpl k j).length = 64 := by
  rw [hpl, List.length_append, hexL_length, List.length_take, List.length_replicate]; omega
theorem hpl_end (k : List UInt8) (hk : k.length = 32) : hpl k 32 = hexL k := by rw [hpl, List.take_of_length_le (by omega)]; simp
theorem hpl_step (k : List UInt8) (j : Nat) (hk : k.length = 32) (hj : j < 32) (b : UInt8) (hb : k.getD j 0 = b) :
    ((hpl k j).set (2 * j) (dgs.getD (b.toNat / 16) 0)).set (2 * j + 1) (dgs.getD (b.toNat % 16) 0) = hpl k (j + 1) := by
  have hb2 : k[j]'(by omega) = b := by rw [← hb]; simp [show j < k.length by omega]
  have hl : (hexL (k.take j)).length = 2 * j := by rw [hexL_length, List.length_take]; omega
  rw [hpl, hpl, List.set_append_right _ _ (by omega), List.set_append_right _ _ (by omega), hl, Nat.sub_self, show 2 * j + 1 - 2 * j = 1 by omega, show 64 - 2 * j = (64 - 2 * (j + 1)) + 1 + 1 by omega, List.replicate_succ, List.replicate_succ]
  rw [List.set_cons_zero, List.set_cons_succ, List.set_cons_zero, List.take_succ_eq_append_getElem (by omega), hb2]
  simp [hexL, hx2]
theorem bc_set (l : List UInt8) (i : Nat) (b : UInt8) : (bc l).set i (.int .u8 b.toNat) = bc (l.set i b) := by simp [bc]
theorem bc_at (l : List UInt8) (i : Nat) (h : i < l.length) : (bc l)[i]? = some (.int .u8 ((l.getD i 0).toNat : Int)) := by simp [bc, h]
theorem and15 (b : UInt8) : bits .and .u8 (b.toNat : Int) 15 = ((b.toNat % 16 : Nat) : Int) := by
  have h := u8_and_nat b.toNat 15 b.toNat_lt (by decide)
  rw [show ((15 : Nat) : Int) = 15 from rfl] at h
  rw [h]
  have : b.toNat &&& 15 = b.toNat % 16 := Nat.and_two_pow_sub_one_eq_mod b.toNat 4
  rw [this]
theorem run_digit (w : World) (n : Nat) (i : Int) (hi : i = n) (hn : n < 16) : (Instr.index 9 (.string ⟨#[48, 49, 50, 51, 52, 53, 54, 55, 56, 57, 97, 98, 99, 100, 101, 102]⟩) (.int .u8 i)).run Tryd.prog w = .ok (.int .u8 ((dgs.getD n 0).toNat : Int)) w := by
  subst hi
  have h : (⟨#[48, 49, 50, 51, 52, 53, 54, 55, 56, 57, 97, 98, 99, 100, 101, 102]⟩ : ByteArray)[n]? = some (dgs.getD n 0) := by
    have : ∀ m, m < 16 → (⟨#[48, 49, 50, 51, 52, 53, 54, 55, 56, 57, 97, 98, 99, 100, 101, 102]⟩ : ByteArray)[m]? = some (dgs.getD m 0) := by decide
    exact this n hn
  simp [Instr.index, asIntOf, h]
set_option maxRecDepth 100000 in
set_option maxHeartbeats 1000000 in
theorem hex_any (k : List UInt8) (hk : k.length = 32) (w : World) :
    Calls Tryd.prog 13 #[.agg (bc k).toArray] w fun e w' => e = .returned (.string ⟨(hexL k).toArray⟩) ∧ Below w.heap.size w w' := by
  have hz : Hid ((Tryd.prog.info? 24).map (·.size) = some (bc k).length) := by show _ = _; rw [bc_length, hk]; exact size24
  have hz33 : ∀ w, (zeroValue 33).run Tryd.prog w = .ok (.agg (bc (List.replicate 64 0)).toArray) w := Tryd.zeroValue33
  have HZ : Hid (∀ w, (zeroValue 33).run Tryd.prog w = .ok (.agg (bc (List.replicate 64 0)).toArray) w) := hz33
  clear hz33
  go_enter Tryd.func13, Tryd.ntmps13
  go_wp2_with (first
    | ((with_reducible refine at_box 24 ?_); refine L_box 24 _ (bc k) rfl ?_; intro w1 h1 hb1)
    | ((with_reducible refine at_alloc 33 ?_); refine L_alloc 33 _ HZ.out ?_; intro w2 h2 hb2)
    | ((with_reducible refine at_load 24 ?_); refine L_load_all 24 _ w.heap.size _ 24 _ rfl (h2.blk hb1 (by have := hb1.lt; omega)) Tryd.underlying24 rfl hz.out ?_))
  have n1 : w.heap.size < w1.heap.size := hb1.lt
  have hB : Below w.heap.size w w2 := h2.below (h1.below (Below.refl _ _) (Nat.le_refl _)) h1.size
  clear h1 h2 hb1
  go_loopw [7] (fun i wr => ∃ j : Nat, j ≤ 32 ∧ i = .int .i64 j ∧ Blk wr w1.heap.size (bc (hpl k j)) 33 ∧ Below w.heap.size w wr) (fun i _ => 32 - (intOf i).toNat)
  case atStart => exact ⟨0, by omega, rfl, hb2, hB⟩
  case round =>
    clear hb2 hB
    obtain ⟨j, hj, rfl, b2, hbw⟩ := hrel
    by_cases hlt : j < 32
    · have hix := run_index_arr wr 24 5 32 j j (bc k) _ Tryd.underlying24 Tryd.isAgg5 Tryd.sizeOf5 rfl hlt (bc_at k j (by omega))
      have hst : Hid (∀ b, k.getD j 0 = b → ((hpl k j).set (2 * j) (dgs.getD (b.toNat / 16) 0)).set (2 * j + 1) (dgs.getD (b.toNat % 16) 0) = hpl k (j + 1)) := hpl_step k j hk hlt
      obtain ⟨b, hb⟩ : ∃ b, k.getD j 0 = b := ⟨_, rfl⟩
      have hst2 : Hid (((hpl k j).set (2 * j) (dgs.getD (b.toNat / 16) 0)).set (2 * j + 1) (dgs.getD (b.toNat % 16) 0) = hpl k (j + 1)) := hst.out b hb
      rw [hb] at hix
      clear hb hst
      have hbt := b.toNat_lt
      have hdiv : (b.toNat : Int) / 16 = ((b.toNat / 16 : Nat) : Int) := by omega
      have hand := and15 b
      have hd1 : ∀ w, (Instr.index 9 (.string ⟨#[48, 49, 50, 51, 52, 53, 54, 55, 56, 57, 97, 98, 99, 100, 101, 102]⟩) (.int .u8 ((b.toNat : Int) / 16))).run Tryd.prog w = .ok (.int .u8 ((dgs.getD (b.toNat / 16) 0).toNat : Int)) w := fun w => run_digit w _ _ hdiv (by omega)
      have hd2 : ∀ w, (Instr.index 9 (.string ⟨#[48, 49, 50, 51, 52, 53, 54, 55, 56, 57, 97, 98, 99, 100, 101, 102]⟩) (.int .u8 ((b.toNat : Int) % 16))).run Tryd.prog w = .ok (.int .u8 ((dgs.getD (b.toNat % 16) 0).toNat : Int)) w := fun w => run_digit w _ _ (by omega) (by omega)
      clear hdiv
      generalize dgs.getD (b.toNat / 16) 0 = d1 at *
      generalize dgs.getD (b.toNat % 16) 0 = d2 at *
      have hl := hpl_length k j hk hj
      have c1 := b2.cell (2 * j) _ (bc_at _ (2 * j) (by omega))
      have c2 := b2.cell (2 * j + 1) _ (bc_at _ (2 * j + 1) (by omega))
      have f1 := b2.frozen (2 * j)
      have f2 := b2.frozen (2 * j + 1)
      clear hl
      go_wp2_with fail
      obtain ⟨t1, g1⟩ := turn_setCell wr w1.heap.size (2 * j) (.int .u8 (d1.toNat : Int)) _ 33 b2
      obtain ⟨t2, g2⟩ := turn_setCell _ w1.heap.size (2 * j + 1) (.int .u8 (d2.toNat : Int)) _ 33 g1
      rw [bc_set, bc_set, hst2.out] at g2
      exact ⟨⟨j + 1, by omega, by go_num, g2, t2.below (t1.below hbw (by omega)) (by omega)⟩, by simp [intOf]; omega⟩
    · obtain rfl : j = 32 := by omega
      rw [hpl_end k hk] at b2
      have hhl : (hexL k).length = 64 := by rw [hexL_length, hk]
      have hsl := run_slice_all wr w1.heap.size 0 64 33 5 Tryd.underlying33 Tryd.sizeOf5
      have hcv := blk_string (o := 0) (n := 64) (cap := 64) b2 (hexL k) hhl (by rw [List.drop_zero, List.take_of_length_le (by rw [bc_length]; omega)])
      clear hhl
      go_wp2_with fail
      go_ret
      exact ⟨rfl, hbw⟩
end Go.Proofs.YthbnlidfgjgncaaDoor
