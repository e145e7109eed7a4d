/- What the program's octet.Put answers, at every argument; nothing that was there is changed. -/
import Derived.Test.YtdfpnicpcndkjaaDoorRows
import Derived.WalkKit
import Derived.WalkSpells
import Derived.WalkLawsBesides
import Derived.Laws.IdiomStrings
import Derived.Test.YtdfpnicpcndkjaaDoorMath
namespace Go.Proofs.YtdfpnicpcndkjaaDoor
set_option maxRecDepth 10000
open Go.RowKit
theorem Tryd.info5 : (Tryd.prog.info? 5).map (fun i => (i.zero, i.size, i.bytes)) = some (some (.int .u8 0), 1, 1) := by kernel_rfl

theorem own_cell {w : World} {B g n cap : Nat} {l : List UInt8} (h : w.ownsRow B 5 1 (.slice (some ⟨g, 0, none⟩) n cap) n (bc l)) (hl : l.length = n) (j : Nat) (hj : j < n) :
    w.cell? ⟨g, j, none⟩ = some (.int .u8 ((l[j]'(by omega)).toNat : Int)) := by
  rw [h.cellAt j (by omega)]
  simp [bc, hl, hj]

theorem own_string {w : World} {B g n cap : Nat} {l : List UInt8} (h : w.ownsRow B 5 1 (.slice (some ⟨g, 0, none⟩) n cap) n (bc l)) (hl : l.length = n) :
    (convert 57 9 (.slice (some ⟨g, 0, none⟩) n cap)).run Tryd.prog w = .ok (.string ⟨l.toArray⟩) w := by
  subst hl
  refine run_convert_bytes_back w 57 9 5 _ cap l Tryd.underlying57 Tryd.underlying5 Tryd.underlying9 (fun j hj => ?_)
  have e : (⟨g, 0, none⟩ : Addr).add j = ⟨g, j, none⟩ := by unfold Addr.add; split <;> simp_all
  rw [e]; exact own_cell h rfl j hj

/-- How many bytes are told. -/
def Told (b : Int) (c : Nat) : Prop := (b < 0 ∧ c = 0) ∨ (0 ≤ b ∧ b ≤ 8 ∧ b = c) ∨ (8 < b ∧ c = 8)

theorem made_row {n c : Nat} {B : Nat} {w1 : World} {v : Value} (hown : w1.ownsRow B 5 1 v c (madeCells (Value.int IntKind.u8 0).cells (c * 1)).toList) : w1.ownsRow B 5 1 v c (bc (rowP n c 0)) := by
  rw [rowP_zero]
  have e : (madeCells (Value.int IntKind.u8 0).cells (c * 1)).toList = List.replicate c (.int .u8 0) := by
    rw [Nat.mul_one]; exact toList_madeCells_one _ _
  rw [← e]; exact hown

theorem step_row (n c k : Nat) (hlt : k < c) {w : World} {B g : Nat} (hown : w.ownsRow B 5 1 (.slice (some ⟨g, 0, none⟩) c c) c (bc (rowP n c k))) :
    (w.setCell ⟨g, c - 1 - k, none⟩ (.int .u8 (↑n / 2 ^ (8 * k) % 256))).ownsRow B 5 1 (.slice (some ⟨g, 0, none⟩) c c) c (bc (rowP n c (k + 1))) := by
  have e : ((n : Int) / 2 ^ (8 * k) % 256) = ((n / 256 ^ k % 256 : Nat) : Int) := by
    rw [Int.natCast_emod, Int.natCast_ediv, Int.natCast_pow]
    have : ((2 : Int) ^ (8 * k)) = ((256 : Nat) : Int) ^ k := by rw [Int.pow_mul]; rfl
    rw [this]; rfl
  rw [e, ← rowP_step n c k hlt]
  exact (hown.stored _ _).1

set_option maxHeartbeats 1000000 in
theorem put_mid (n c : Nat) (w : World) (hc : c ≤ 8) :
    Calls Tryd.prog 43 #[.int .u64 n, .int .i64 c] w fun e w' => e = .returned (.string ⟨(putL n c).toArray⟩) ∧ Below w.heap.size w w' := by
  obtain ⟨i0, hi, hz0, hz1, hz2⟩ := info_parts Tryd.info5
  go_enter Tryd.func43, Tryd.ntmps43
  go_wp2_with (at_make; refine wpList_make_full _ rfl (.tmp 11) (.tmp 11) 57 rfl w.heap.size 5 i0 (.int .u8 0) 1 Tryd.underlying57 hi hz0 hz1 .i64 .i64 _ _ c rfl rfl rfl rfl (by rw [hz2]; omega) (by unfold maxLen; omega) (Nat.le_refl _) ?_; intro w1 hown hgrow)
  have hown1 : w1.ownsRow w.heap.size 5 1 (.slice (some ⟨w.heap.size, 0, none⟩) c c) c (bc (rowP n c 0)) := made_row hown
  have hb1 : Below w.heap.size w w1 := (Below.refl _ _).grown hgrow (Nat.le_refl _) (by intro k h; cases h)
  clear hown hgrow
  go_loopw [14] (fun i wr => ∃ k : Nat, k ≤ c ∧ i = .int .i64 k ∧ wr.ownsRow w.heap.size 5 1 (.slice (some ⟨w.heap.size, 0, none⟩) c c) c (bc (rowP n c k)) ∧ Below w.heap.size w wr) (fun i _ => c - (intOf i).toNat)
  case atStart => exact ⟨0, Nat.zero_le _, rfl, hown1, hb1⟩
  case round =>
    obtain ⟨k, hk, rfl, hown, hb⟩ := hrel
    clear hown1 hb1
    by_cases hlt : k < c
    · have hfz := hown.frozenAt (c - 1 - k)
      have hcell := own_cell hown (rowP_length n c k hk) (c - 1 - k) (by omega)
      go_wp2
      go_roundw
      case rel => exact ⟨k + 1, by omega, by go_num, step_row n c k hlt hown, hb.setCell (Nat.le_refl _) _⟩
      case measure => simp [intOf]; omega
    · have e : k = c := by omega
      subst e
      rw [rowP_end] at hown
      have hcv := own_string hown (putL_length n k)
      go_wp2
      go_ret
      exact ⟨rfl, hb⟩
set_option maxHeartbeats 1000000 in
theorem put_none (n : Nat) (b : Int) (w : World) (h1 : b < 0) :
    Calls Tryd.prog 43 #[.int .u64 n, .int .i64 b] w fun e w' => e = .returned (.string ⟨(putL n 0).toArray⟩) ∧ Below w.heap.size w w' := by
  obtain ⟨i0, hi, hz0, hz1, hz2⟩ := info_parts Tryd.info5
  go_enter Tryd.func43, Tryd.ntmps43
  go_wp2_with (at_make; refine wpList_make_full _ rfl (.tmp 11) (.tmp 11) 57 rfl w.heap.size 5 i0 (.int .u8 0) 1 Tryd.underlying57 hi hz0 hz1 .i64 .i64 _ _ 0 rfl rfl rfl rfl (by rw [hz2]; omega) (by unfold maxLen; omega) (Nat.le_refl _) ?_; intro w1 hown hgrow)
  have hown1 : w1.ownsRow w.heap.size 5 1 (.slice (some ⟨w.heap.size, 0, none⟩) 0 0) 0 (bc (rowP n 0 0)) := made_row hown
  have hb1 : Below w.heap.size w w1 := (Below.refl _ _).grown hgrow (Nat.le_refl _) (by intro k h; cases h)
  clear hown hgrow
  go_loopw [14] (fun i wr => ∃ k : Nat, k ≤ 0 ∧ i = .int .i64 k ∧ wr.ownsRow w.heap.size 5 1 (.slice (some ⟨w.heap.size, 0, none⟩) 0 0) 0 (bc (rowP n 0 k)) ∧ Below w.heap.size w wr) (fun i _ => 0 - (intOf i).toNat)
  case atStart => exact ⟨0, Nat.zero_le _, rfl, hown1, hb1⟩
  case round =>
    obtain ⟨k, hk, rfl, hown, hb⟩ := hrel
    clear hown1 hb1
    by_cases hlt : k < 0
    · exact absurd hlt (Nat.not_lt_zero _)
    · have e : k = 0 := by omega
      subst e
      rw [rowP_end] at hown
      have hcv := own_string hown (putL_length n 0)
      go_wp2
      go_ret
      exact ⟨rfl, hb⟩
set_option maxHeartbeats 1000000 in
theorem put_all (n : Nat) (b : Int) (w : World) (h1 : 8 < b) :
    Calls Tryd.prog 43 #[.int .u64 n, .int .i64 b] w fun e w' => e = .returned (.string ⟨(putL n 8).toArray⟩) ∧ Below w.heap.size w w' := by
  obtain ⟨i0, hi, hz0, hz1, hz2⟩ := info_parts Tryd.info5
  go_enter Tryd.func43, Tryd.ntmps43
  go_wp2_with (at_make; refine wpList_make_full _ rfl (.tmp 11) (.tmp 11) 57 rfl w.heap.size 5 i0 (.int .u8 0) 1 Tryd.underlying57 hi hz0 hz1 .i64 .i64 _ _ 8 rfl rfl rfl rfl (by rw [hz2]; omega) (by unfold maxLen; omega) (Nat.le_refl _) ?_; intro w1 hown hgrow)
  have hown1 : w1.ownsRow w.heap.size 5 1 (.slice (some ⟨w.heap.size, 0, none⟩) 8 8) 8 (bc (rowP n 8 0)) := made_row hown
  have hb1 : Below w.heap.size w w1 := (Below.refl _ _).grown hgrow (Nat.le_refl _) (by intro k h; cases h)
  clear hown hgrow
  go_loopw [14] (fun i wr => ∃ k : Nat, k ≤ 8 ∧ i = .int .i64 k ∧ wr.ownsRow w.heap.size 5 1 (.slice (some ⟨w.heap.size, 0, none⟩) 8 8) 8 (bc (rowP n 8 k)) ∧ Below w.heap.size w wr) (fun i _ => 8 - (intOf i).toNat)
  case atStart => exact ⟨0, Nat.zero_le _, rfl, hown1, hb1⟩
  case round =>
    obtain ⟨k, hk, rfl, hown, hb⟩ := hrel
    clear hown1 hb1
    by_cases hlt : k < 8
    · have hfz := hown.frozenAt (8 - 1 - k)
      have hcell := own_cell hown (rowP_length n 8 k hk) (8 - 1 - k) (by omega)
      go_wp2
      go_roundw
      case rel => exact ⟨k + 1, by omega, by go_num, step_row n 8 k hlt hown, hb.setCell (Nat.le_refl _) _⟩
      case measure => simp [intOf]; omega
    · have e : k = 8 := by omega
      subst e
      rw [rowP_end] at hown
      have hcv := own_string hown (putL_length n 8)
      go_wp2
      go_ret
      exact ⟨rfl, hb⟩
theorem put_any (n c : Nat) (b : Int) (w : World) (hb : Told b c) :
    Calls Tryd.prog 43 #[.int .u64 n, .int .i64 b] w fun e w' => e = .returned (.string ⟨(putL n c).toArray⟩) ∧ Below w.heap.size w w' := by
  rcases hb with ⟨h1, rfl⟩ | ⟨h1, h2, rfl⟩ | ⟨h1, rfl⟩
  · exact put_none n b w h1
  · exact put_mid n c w (by omega)
  · exact put_all n b w h1
end Go.Proofs.YtdfpnicpcndkjaaDoor
