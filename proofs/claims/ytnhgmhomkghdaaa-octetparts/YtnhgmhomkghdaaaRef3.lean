/- What the reference's Parts answers: as many parts as the program's does, and the same. -/
import Derived.Test.YtnhgmhomkghdaaaJoinsW
namespace Go.Proofs.Ytnhgmhomkghdaaa
open Go.RowKit
set_option linter.unusedVariables false
def rowR (s : ByteArray) (b j : Nat) : List Value := (List.range j).map fun i => .string (part s b i)
theorem rowR_step (s : ByteArray) (b j : Nat) : rowR s b j ++ [.string (part s b j)] = rowR s b (j + 1) := by
  simp [rowR, List.range_succ]
set_option maxHeartbeats 400000 in
theorem rparts_low (s : ByteArray) (b : Int) (w : World) (h : b < 1) :
    Calls Try.prog 19 #[.string s, .int .i64 b] w fun e w' => e = .returned (.slice (some ⟨w.heap.size, 0, none⟩) 0 0) ∧ Below w.heap.size w w' := by
  go_enter Try.func19, Try.ntmps19
  go_wp2
  go_ret
  exact ⟨rfl, (Below.refl _ _).alloc (Nat.le_refl _) _⟩
set_option maxHeartbeats 400000 in
theorem rparts_empty (b : Int) (w : World) (h : 1 ≤ b) :
    Calls Try.prog 19 #[.string ByteArray.empty, .int .i64 b] w fun e w' => e = .returned (.slice (some ⟨w.heap.size, 0, none⟩) 0 0) ∧ Below w.heap.size w w' := by
  go_enter Try.func19, Try.ntmps19
  go_wp2
  refine wp_loop_rounds 1 ?_
  rw [rounds_succ]
  go_wp2
  go_ret
  exact ⟨rfl, (Below.refl _ _).alloc (Nat.le_refl _) _⟩
theorem inner_end (s A : ByteArray) (b j p κ x : Nat) (hp : p = min (j * b) s.size) (hps : p < s.size) (hx : x = p + κ) (hxs : x ≤ s.size) (hA : A.data.toList = (s.data.toList.drop p).take κ) (h : κ = b ∨ (κ ≤ b ∧ x = s.size)) :
    A = part s b j ∧ x = min ((j + 1) * b) s.size := by
  have hpj : p = j * b := by omega
  constructor
  · apply ByteArray.ext; apply Array.toList_inj.1
    rw [hA, part_list, ← hpj]
    rcases h with h | ⟨h1, h2⟩
    · rw [h]
    · have hl : (s.data.toList.drop p).length = κ := by rw [List.length_drop, ← Lib.size_eq]; omega
      rw [List.take_of_length_le (by omega), List.take_of_length_le (by omega)]
  · rw [Nat.add_mul, Nat.one_mul, ← hpj]
    rcases h with h | ⟨h1, h2⟩ <;> omega
theorem inner_step (s A : ByteArray) (p κ x : Nat) (hx : x = p + κ) (hxs : x < s.size) (hA : A.data.toList = (s.data.toList.drop p).take κ) :
    (A ++ s.extract x (x + 1)).data.toList = (s.data.toList.drop p).take (κ + 1) := by
  rw [ByteArray.data_append, Array.toList_append, hA, Lib.extract_data, hx, show p + κ + 1 - (p + κ) = 1 from by omega, List.take_add, List.drop_drop]
theorem Try.info9' : (Try.prog.info? 9).map (fun i => (i.zero, i.size, i.bytes)) = some (some (.string ByteArray.empty), 1, 16) := by kernel_rfl
theorem grow_below {B j : Nat} {w wr w2 : World} {v : Value} {xs : List Value} {o : Obj} (hown : wr.ownsRow B 9 1 v j xs) (hbel : Below B w wr) (hgrow : (wr.alloc o).grownBy w2 v.ownBlock) (hB : B ≤ wr.heap.size) : Below B w w2 :=
  (hbel.alloc hB o).grown hgrow (Nat.le_trans hB (by simp)) (fun k hk => (hown.lt k hk).1)
theorem row_grow {B j b : Nat} {w2 : World} {v : Value} {s A : ByteArray} (h : w2.ownsRow B 9 1 v (j + 1) (rowR s b j ++ [.string A])) (hA : A = part s b j) : w2.ownsRow B 9 1 v (j + 1) (rowR s b (j + 1)) := by
  rw [hA, rowR_step] at h
  exact h
set_option maxHeartbeats 2000000 in
theorem rparts_some (s : ByteArray) (b q : Nat) (w : World) (h0 : 1 ≤ s.size) (hb : 1 ≤ b) (hb2 : b ≤ 9223372036854775807) (hs : s.size ≤ 1024) (hq : (s.size - 1) / b = q) :
    Calls Try.prog 19 #[.string s, .int .i64 b] w fun e w' => ∃ v, e = .returned v ∧ w'.ownsRow w.heap.size 9 1 v (q + 1) (rowR s b (q + 1)) ∧ Below w.heap.size w w' := by
  obtain ⟨i0, hi, hz0, hz1, hz2⟩ := info_parts Try.info9'
  obtain ⟨hq1, hq2⟩ := quo_le s.size b q h0 hb hq
  have HQ1 : Hid (q * b ≤ s.size - 1) := hq1
  have HQ2 : Hid (s.size - 1 < (q + 1) * b) := hq2
  have hqs : q ≤ 1024 := Nat.le_trans (Nat.le_mul_of_pos_right q hb) (by omega)
  clear hq hq1 hq2
  have hown0 := World.ownsRow_made (base := w.heap.size) (e := 9) (size := 1) w #[] 0 (Nat.le_refl _) (by decide) rfl
  have hbel0 : Below w.heap.size w (w.alloc (.cells #[] 9)) := (Below.refl _ _).alloc (Nat.le_refl _) _
  go_enter Try.func19, Try.ntmps19
  go_wp2
  go_loopw [5, 6] (fun v i wr => ∃ (j p : Nat), j ≤ q + 1 ∧ i = .int .i64 p ∧ p ≤ s.size ∧ Hid (p = min (j * b) s.size) ∧ wr.ownsRow w.heap.size 9 1 v j (rowR s b j) ∧ Below w.heap.size w wr) (fun _ i _ => s.size - (intOf i).toNat)
  case atStart => exact ⟨0, 0, Nat.zero_le _, rfl, Nat.zero_le _, by show _ = _; omega, hown0, hbel0⟩
  case round =>
    obtain ⟨j, p, hj, rfl, hp, HP, hown, hbel⟩ := hrel
    clear hown0 hbel0
    by_cases hlt : p < s.size
    · have hjq : j ≤ q := by
        have h1 := HP.out; have h2 := HQ2.out
        rcases Nat.lt_or_ge q j with h3 | h3
        · obtain rfl : j = q + 1 := by omega
          omega
        · exact h3
      go_wp2
      go_loop [6, 7, 8] (fun i a k => ∃ (x κ : Nat) (A : ByteArray), i = .int .i64 x ∧ a = .string A ∧ k = .int .i64 κ ∧ κ ≤ b ∧ x ≤ s.size ∧ Hid (x = p + κ) ∧ Hid (A.data.toList = (s.data.toList.drop p).take κ) ∧ A.size ≤ 1024) (fun i _ _ => s.size - (intOf i).toNat)
      case atStart => exact ⟨p, 0, ByteArray.empty, rfl, rfl, rfl, Nat.zero_le _, hp, rfl, by show _ = _; rw [List.take_zero]; rfl, by decide⟩
      case round =>
        obtain ⟨x, κ, A, rfl, rfl, rfl, hκ, hx, HX, HA, hAs⟩ := hrel
        by_cases hc : κ < b ∧ x < s.size
        · obtain ⟨hc1, hc2⟩ := hc
          obtain ⟨A', hA', HA'⟩ : ∃ A' : ByteArray, A ++ s.extract x (x + 1) = A' ∧ Hid (A'.data.toList = (s.data.toList.drop p).take (κ + 1)) := ⟨_, rfl, inner_step s A p κ x HX.out hc2 HA.out⟩
          have hA's : A'.size ≤ 1024 := by rw [Lib.size_eq, HA'.out, List.length_take, List.length_drop, ← Lib.size_eq]; omega
          go_wp2
          go_round
          case rel => exact ⟨x + 1, κ + 1, A', by go_num, rfl, by go_num, by omega, by omega, by show _ = _; rw [HX.out, Nat.add_assoc], HA', hA's⟩
          case measure => simp [intOf]; omega
        · obtain ⟨hA1, hx1⟩ := inner_end s A b j p κ x HP.out hlt HX.out hx HA.out (by omega)
          have HA1 : Hid (A = part s b j) := hA1
          have HX1 : Hid (x = min ((j + 1) * b) s.size) := hx1
          have hpx : p < x := by
            have h1 := HX.out
            omega
          clear hA1 hx1 HX HA
          by_cases hc1 : κ < b
          · have hc2 : ¬ x < s.size := by omega
            go_wp2_with (at_builtin; refine wpList_append_own _ rfl (.tmp 37) (.tmp 39) 31 rfl w.heap.size 9 i0 (.string ByteArray.empty) 1 16 Try.underlying31 hi hz0 hz1 hz2 rfl (by decide) _ _ _ rfl (hown.alloc _) ⟨wr.heap.size, 0, none⟩ 1 1 [.string A] rfl rfl (cell_one_new _ _ _) (by intro u hu; simp at hu; subst hu; rfl) (by unfold maxLen; omega) (by omega) (by have := hbel.size; simp; omega) ?_; intro v' w2 hown2 hgrow _)
            have hbel2 := grow_below hown hbel hgrow hbel.size
            have hown3 := row_grow hown2 HA1.out
            clear hgrow hown2 hown hbel
            go_roundw
            case rel => exact ⟨j + 1, x, by omega, rfl, hx, HX1, hown3, hbel2⟩
            case measure => simp [intOf]; omega
          · go_wp2_with (at_builtin; refine wpList_append_own _ rfl (.tmp 37) (.tmp 39) 31 rfl w.heap.size 9 i0 (.string ByteArray.empty) 1 16 Try.underlying31 hi hz0 hz1 hz2 rfl (by decide) _ _ _ rfl (hown.alloc _) ⟨wr.heap.size, 0, none⟩ 1 1 [.string A] rfl rfl (cell_one_new _ _ _) (by intro u hu; simp at hu; subst hu; rfl) (by unfold maxLen; omega) (by omega) (by have := hbel.size; simp; omega) ?_; intro v' w2 hown2 hgrow _)
            have hbel2 := grow_below hown hbel hgrow hbel.size
            have hown3 := row_grow hown2 HA1.out
            clear hgrow hown2 hown hbel
            go_roundw
            case rel => exact ⟨j + 1, x, by omega, rfl, hx, HX1, hown3, hbel2⟩
            case measure => simp [intOf]; omega
    · have hjq : j = q + 1 := by
        have h1 := HP.out; have h2 := HQ1.out
        rcases Nat.lt_or_ge q j with h3 | h3
        · omega
        · have h4 : j * b ≤ q * b := Nat.mul_le_mul_right b h3
          omega
      subst hjq
      go_wp2
      go_ret
      exact ⟨_, rfl, hown, hbel⟩
theorem rparts_cells (s : ByteArray) (b q : Nat) (w : World) (h0 : 1 ≤ s.size) (hb : 1 ≤ b) (hb2 : b ≤ 9223372036854775807) (hs : s.size ≤ 1024) (hq : (s.size - 1) / b = q) :
    Calls Try.prog 19 #[.string s, .int .i64 b] w fun e w' => ∃ g cap : Nat, e = .returned (.slice (some ⟨g, 0, none⟩) (q + 1) cap) ∧ q + 1 ≤ cap ∧ (∀ j, j < q + 1 → w'.cell? ⟨g, j, none⟩ = some (.string (part s b j))) ∧ Below w.heap.size w w' := by
  refine (rparts_some s b q w h0 hb hb2 hs hq).mono ?_
  rintro e w' ⟨v, rfl, hown, hbel⟩
  rcases hown.2 with ⟨h, h2⟩ | ⟨g, cap, cur, rfl, hbg, hg, hnc, hrest⟩
  · exact absurd h2 (Nat.succ_ne_zero q)
  · refine ⟨g, cap, rfl, hnc, fun j hj => ?_, hbel⟩
    rw [hown.cellAt j (by omega)]
    simp [rowR, hj]
end Go.Proofs.Ytnhgmhomkghdaaa
