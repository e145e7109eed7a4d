/- What the program's octet.Pad and octet.Parts answer; nothing that was there is changed. -/
import Derived.Test.YtnhgmhomkghdaaaRows
import Derived.WalkKit
import Derived.WalkSpells
import Derived.WalkLawsBesides
import Derived.Laws.IdiomStrings
import Derived.Test.YtnhgmhomkghdaaaMath
import Derived.Test.YtnhgmhomkghdaaaShelf
namespace Go.Proofs.Ytnhgmhomkghdaaa
open Go.RowKit
set_option linter.unusedVariables false
theorem Try.info9 : (Try.prog.info? 9).map (fun i => (i.zero, i.size, i.bytes)) = some (some (.string ByteArray.empty), 1, 16) := by kernel_rfl

set_option maxHeartbeats 400000 in
theorem pad_low (s : ByteArray) (t : Int) (w : World) (h : t < 1) :
    Calls Try.prog 20 #[.string s, .int .i64 t] w fun e w' => e = .returned (.string s) ∧ w' = w := by
  go_enter Try.func20, Try.ntmps20
  go_wp2
  go_ret
  exact ⟨rfl, rfl⟩
set_option maxHeartbeats 400000 in
theorem pad_full (s : ByteArray) (t : Nat) (w : World) (h : 1 ≤ t) (hs : s.size ≤ 1099511627776) (h0 : s.size % t = 0) :
    Calls Try.prog 20 #[.string s, .int .i64 t] w fun e w' => e = .returned (.string s) ∧ w' = w := by
  have h1 : ((s.size : Int) % (t : Int)) = 0 := by omega
  have hne : ((t : Int) == 0) = false := by simp; omega
  go_enter Try.func20, Try.ntmps20
  go_wp2
  go_ret
  exact ⟨rfl, rfl⟩
theorem ret_string {a b : ByteArray} (h : a = b) : Ending.returned (.string a) = .returned (.string b) := by rw [h]
theorem pad_append (s : ByteArray) (c : Nat) : s ++ (⟨Array.replicate c 0⟩ : ByteArray) = ⟨(s.data.toList ++ List.replicate c 0).toArray⟩ := by
  apply ByteArray.ext
  rw [ByteArray.data_append]
  apply Array.toList_inj.1
  simp
theorem repeat_zero (c : Nat) : Lib.repeatL [0] c = List.replicate c 0 := by
  induction c with
  | zero => rfl
  | succ c ih => rw [Lib.repeatL, ih, List.replicate_succ]; rfl
theorem repeat_any (c : Nat) (w : World) (h : c ≤ 1099511627776) :
    Calls Try.prog 24 #[.string ⟨#[0]⟩, .int .i64 c] w fun e w' => e = .returned (.string ⟨(List.replicate c 0).toArray⟩) ∧ Below w.heap.size w w' := by
  have h1 : (⟨#[0]⟩ : ByteArray).size = 1 := rfl
  have hB : (⟨#[0]⟩ : ByteArray).size * c ≤ 140737488355328 := by rw [h1]; omega
  have h := Try.strings_Repeat ⟨#[0]⟩ c w (by omega) hB
  have e : Lib.repeatL (⟨#[0]⟩ : ByteArray).data.toList c = List.replicate c 0 := repeat_zero c
  rw [e] at h
  exact h
set_option maxHeartbeats 400000 in
theorem pad_more (s : ByteArray) (t r c : Nat) (w : World) (hr : s.size % t = r) (h1 : 1 ≤ r) (h2 : 1 ≤ c) (hc : r + c = t) (ht : t ≤ 1099511627776) (hs : s.size ≤ 1099511627776) :
    Calls Try.prog 20 #[.string s, .int .i64 t] w fun e w' => e = .returned (.string ⟨(s.data.toList ++ List.replicate c 0).toArray⟩) ∧ Below w.heap.size w w' := by
  have hr' : ((s.size : Int) % (t : Int)) = r := by omega
  have hr0 : ((r : Int) == 0) = false := by simp; omega
  have hne : ((t : Int) == 0) = false := by simp; omega
  have ht1 : 1 ≤ t := by omega
  clear hr
  have HC : Hid (r + c = t) := hc
  have hcm : c ≤ 1099511627776 := by omega
  have hrt : r ≤ t := by omega
  clear hc
  go_enter Try.func20, Try.ntmps20
  go_wp2_with fail
  rw [show ((t : Int) - (r : Int)) = ((c : Nat) : Int) from by have := HC.out; omega]
  refine (repeat_any c w hcm).mono ?_
  rintro e w1 ⟨rfl, hb⟩
  go_wp2
  go_ret
  exact ⟨ret_string (pad_append s c), hb⟩

/-- The i-th part. -/
def part (s : ByteArray) (b i : Nat) : ByteArray := (s.extract (i * b) s.size).extract 0 (min b (s.size - i * b))
def rowS (s : ByteArray) (b c k : Nat) : List Value := (List.range c).map fun j => if j < k then .string (part s b j) else .string ByteArray.empty
theorem rowS_length (s : ByteArray) (b c k : Nat) : (rowS s b c k).length = c := by simp [rowS]
theorem rowS_zero (s : ByteArray) (b c : Nat) : rowS s b c 0 = List.replicate c (.string ByteArray.empty) := by
  apply List.ext_getElem
  · simp [rowS]
  · intro i h1 h2; simp [rowS]
theorem rowS_step (s : ByteArray) (b c k : Nat) (h : k < c) : (rowS s b c k).set k (.string (part s b k)) = rowS s b c (k + 1) := by
  apply List.ext_getElem
  · simp [rowS]
  · intro i h1 h2
    simp only [rowS, List.getElem_set, List.getElem_map, List.getElem_range]
    by_cases e : k = i
    · subst e; simp
    · simp only [e, if_false]
      have : (i < k) ↔ (i < k + 1) := by omega
      simp [this]
set_option maxHeartbeats 400000 in
theorem parts_none (s : ByteArray) (b : Int) (w : World) (h : s.size = 0 ∨ b < 1) :
    Calls Try.prog 18 #[.string s, .int .i64 b] w fun e w' => e = .returned (.slice none 0 0) ∧ w' = w := by
  by_cases h0 : s.size = 0
  · have e : s = ByteArray.empty := by apply ByteArray.ext; exact Array.size_eq_zero_iff.1 h0
    subst e
    go_enter Try.func18, Try.ntmps18
    go_wp2
    go_ret
    exact ⟨rfl, rfl⟩
  · have hb : b < 1 := by omega
    go_enter Try.func18, Try.ntmps18
    go_wp2
    all_goals (go_ret; exact ⟨rfl, rfl⟩)
theorem not_empty (s : ByteArray) (h0 : 1 ≤ s.size) : s.toList.isEmpty = false := by
  rw [List.isEmpty_eq_false_iff]
  intro e
  rw [Lib.toList_data] at e
  have h2 : s.data.toList.length = 0 := by rw [e]; rfl
  rw [← Lib.size_eq] at h2
  omega
theorem part_is (s : ByteArray) (b k p : Nat) (h : k * b = p) : (s.extract p s.size).extract 0 (min (b : Int) ((s.size - p : Nat) : Int)).toNat = part s b k := by
  unfold part
  rw [h, show (min (b : Int) ((s.size - p : Nat) : Int)).toNat = min b (s.size - p) from by omega]
set_option maxHeartbeats 1000000 in
theorem parts_some (s : ByteArray) (b q : Nat) (w : World) (h0 : 1 ≤ s.size) (hb : 1 ≤ b) (hb2 : b ≤ 9223372036854775807) (hs : s.size ≤ 1099511627776) (hq : (s.size - 1) / b = q) :
    Calls Try.prog 18 #[.string s, .int .i64 b] w fun e w' => e = .returned (.slice (some ⟨w.heap.size, 0, none⟩) (q + 1) (q + 1)) ∧ w'.ownsRow w.heap.size 9 1 (.slice (some ⟨w.heap.size, 0, none⟩) (q + 1) (q + 1)) (q + 1) (rowS s b (q + 1) (q + 1)) ∧ Below w.heap.size w w' := by
  obtain ⟨i0, hi, hz0, hz1, hz2⟩ := info_parts Try.info9
  have hem := not_empty s h0
  have hqb : q * b ≤ s.size - 1 := by rw [← hq]; exact Nat.div_mul_le_self _ _
  have HQB : Hid (q * b ≤ s.size - 1) := hqb
  have hqs : q ≤ s.size := Nat.le_trans (Nat.le_mul_of_pos_right q hb) (by omega)
  have hq' : ((s.size : Int) - 1) / (b : Int) = (q : Int) := by
    rw [← hq, Int.natCast_ediv, Int.natCast_sub h0]; rfl
  clear hq hqb
  go_enter Try.func18, Try.ntmps18
  go_wp2_with (at_make; refine wpList_make_full _ rfl (.tmp 21) (.tmp 21) 31 rfl w.heap.size 9 i0 (.string ByteArray.empty) 1 Try.underlying31 hi hz0 hz1 .i64 .i64 _ _ (q + 1) rfl rfl rfl rfl (by rw [hz2]; omega) (by unfold maxLen; omega) (Nat.le_refl _) ?_; intro w1 hown hgrow)
  have hown1 : w1.ownsRow w.heap.size 9 1 (.slice (some ⟨w.heap.size, 0, none⟩) (q + 1) (q + 1)) (q + 1) (rowS s b (q + 1) 0) := by
    rw [rowS_zero]
    have e : (madeCells (Value.string ByteArray.empty).cells ((q + 1) * 1)).toList = List.replicate (q + 1) (.string ByteArray.empty) := by
      rw [Nat.mul_one]; exact toList_madeCells_one _ _
    rw [← e]; exact hown
  have hb1 : Below w.heap.size w w1 := (Below.refl _ _).grown hgrow (Nat.le_refl _) (by intro k h; cases h)
  clear hown hgrow hq'
  go_loopw [24] (fun i wr => ∃ k : Nat, k ≤ q + 1 ∧ i = .int .i64 k ∧ wr.ownsRow w.heap.size 9 1 (.slice (some ⟨w.heap.size, 0, none⟩) (q + 1) (q + 1)) (q + 1) (rowS s b (q + 1) k) ∧ Below w.heap.size w wr) (fun i _ => q + 1 - (intOf i).toNat)
  case atStart => exact ⟨0, Nat.zero_le _, rfl, hown1, hb1⟩
  case round =>
    obtain ⟨k, hk, rfl, hown, hbw⟩ := hrel
    clear hown1 hb1
    by_cases hlt : k < q + 1
    · obtain ⟨p, hp⟩ : ∃ p, k * b = p := ⟨_, rfl⟩
      have hps : p < s.size := by
        have : k * b ≤ q * b := Nat.mul_le_mul_right b (by omega)
        have := HQB.out
        omega
      have hp' : ((k : Int) * (b : Int)) = (p : Int) := by rw [← hp]; simp
      have HP : Hid (k * b = p) := hp
      clear hp
      have hfz := hown.frozenAt k
      obtain ⟨v, hcell⟩ : ∃ v, wr.cell? ⟨w.heap.size, k, none⟩ = some v := by
        rw [hown.cellAt k (by omega)]
        exact ⟨_, List.getElem?_eq_getElem (by rw [rowS_length]; exact hlt)⟩
      go_wp2
      go_roundw
      case rel =>
        refine ⟨k + 1, by omega, by go_num, ?_, hbw.setCell (Nat.le_refl _) _⟩
        rw [part_is s b k p HP.out, ← rowS_step s b (q + 1) k hlt]
        exact (hown.stored _ _).1
      case measure => simp [intOf]; omega
    · have e : k = q + 1 := by omega
      subst e
      go_wp2
      go_ret
      exact ⟨rfl, hown, hbw⟩
end Go.Proofs.Ytnhgmhomkghdaaa
