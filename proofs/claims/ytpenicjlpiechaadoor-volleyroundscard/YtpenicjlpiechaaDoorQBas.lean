/- Bytes and numbers, octet's Take, Put and Same, blocks of memory, arrays of bytes as arguments. -/
import Derived.Laws.BitsLemmas
import Derived.Laws.BitsAllLaws
import Derived.Below
import Derived.Test.YtpenicjlpiechaaDoorRows
import Derived.WalkKit
import Derived.WalkSpells
import Derived.WalkLawsBesides
import Derived.Laws.IdiomStrings
import Derived.BigQuiet
import Derived.Deep.QuietTactic
import Derived.WalkSmall
import Derived.Deep.MidRow
import Derived.Tactics2
import Derived.Laws.Slices
import Derived.OpenShut
import Derived.ProofKit
namespace Go.Proofs.YtpenicjlpiechaaDoor
set_option maxRecDepth 10000
open Go

theorem wraps_u64 (n : Int) (h₀ : 0 ≤ n) (h₁ : n < 2 ^ 64) : IntKind.u64.wrap n = n := by
  simp [IntKind.wrap, IntKind.bits, IntKind.signed]; omega
theorem wraps_u32 (n : Int) (h₀ : 0 ≤ n) (h₁ : n < 2 ^ 32) : IntKind.u32.wrap n = n := by
  rw [IntKind.wrap_u32]; omega
theorem wrap_u64 (n : Int) : IntKind.u64.wrap n = n % 18446744073709551616 := by
  simp [IntKind.wrap, IntKind.bits, IntKind.signed]

theorem and31 (k : Int) : bits .and .u64 (IntKind.u64.wrap k) 31 = k % 32 := by
  have h := bits_mask .u64 64 (by decide) wraps_u64 5 (by decide) (IntKind.u64.wrap k) (by rw [wrap_u64]; omega) (by rw [wrap_u64]; omega)
  rw [show (31 : Int) = 2 ^ 5 - 1 from by decide, h, wrap_u64]; omega

theorem rot_or (N : BitVec 32) (s : Nat) (hs : s < 32) :
    bits .or .u32 (IntKind.u32.wrap (↑N.toNat * 2 ^ s)) (↑N.toNat / 2 ^ (32 - s)) = ((N.rotateLeft s).toNat : Int) := by
  have h1 : IntKind.u32.wrap (↑N.toNat * 2 ^ s) = ((N.toNat <<< s % 2 ^ 32 : Nat) : Int) := by
    rw [IntKind.wrap_u32, Nat.shiftLeft_eq, Int.natCast_emod, Int.natCast_mul, Int.natCast_pow, Int.natCast_pow]
    exact congrArg _ (by decide)
  have h2 : ((N.toNat : Int) / 2 ^ (32 - s)) = ((N.toNat >>> (32 - s) : Nat) : Int) := by
    rw [Nat.shiftRight_eq_div_pow, Int.natCast_ediv, Int.natCast_pow]; rfl
  rw [h1, h2, (bits_nat .u32 32 (by decide) wraps_u32 _ _ (Nat.mod_lt _ (by decide)) (Nat.lt_of_le_of_lt (Nat.shiftRight_le _ _) N.isLt)).2]
  rw [BitVec.toNat_rotateLeft, Nat.mod_eq_of_lt hs]

theorem snoc_ind {α : Type} {p : List α → Prop} (h0 : p []) (h1 : ∀ l c, p l → p (l ++ [c])) (l : List α) : p l := by
  have : ∀ r : List α, p r.reverse := by
    intro r
    induction r with
    | nil => exact h0
    | cons c r ih => rw [List.reverse_cons]; exact h1 _ _ ih
  have h := this l.reverse
  rwa [List.reverse_reverse] at h
/-- The number of bytes, the highest first. -/
def num (l : List UInt8) : Nat := l.foldl (fun a c => a * 256 + c.toNat) 0
theorem num_snoc (l : List UInt8) (c : UInt8) : num (l ++ [c]) = num l * 256 + c.toNat := by simp [num]
theorem num_lt (l : List UInt8) : num l < 256 ^ l.length := by
  induction l using snoc_ind with
  | h0 => simp [num]
  | h1 l c ih =>
    rw [num_snoc, List.length_append, List.length_singleton, Nat.pow_succ]
    have := c.toNat_lt
    omega
theorem take_snoc (s : ByteArray) (k : Nat) (h : k < s.size) : s.data.toList.take (k + 1) = s.data.toList.take k ++ [s[k]] := by
  rw [List.take_succ_eq_append_getElem (by simpa using h)]; rfl
theorem or_byte (m : Nat) (c : UInt8) (hm : m < 72057594037927936) :
    bits .or .u64 (IntKind.u64.wrap (↑m * 256)) (IntKind.u64.wrap ↑c.toNat) = ((m * 256 + c.toNat : Nat) : Int) := by
  have hc := c.toNat_lt
  rw [wraps_u64 _ (by omega) (by omega), wraps_u64 _ (by omega) (by omega)]
  rw [bits_join .u64 64 (by decide) wraps_u64 8 _ _ (by omega) (by omega) (by omega) (by omega) (by omega) (by omega)]
  omega
theorem num_take_lt (s : ByteArray) (k : Nat) (h : k < 8) : num (s.data.toList.take k) < 72057594037927936 := by
  have h1 := num_lt (s.data.toList.take k)
  have h2 : (s.data.toList.take k).length ≤ 7 := Nat.le_trans (List.length_take_le _ _) (by omega)
  exact Nat.lt_of_lt_of_le h1 (Nat.pow_le_pow_right (by decide) h2)

/-- The lowest k bytes of n, the highest of these first. -/
def putL (n : Nat) : Nat → List UInt8
  | 0 => []
  | k + 1 => putL (n / 256) k ++ [UInt8.ofNat (n % 256)]
theorem putL_length (n k : Nat) : (putL n k).length = k := by
  induction k generalizing n with
  | zero => rfl
  | succ k ih => simp [putL, ih]
theorem putL_cons (n k : Nat) : putL n (k + 1) = UInt8.ofNat (n / 256 ^ k % 256) :: putL n k := by
  induction k generalizing n with
  | zero => simp [putL]
  | succ k ih =>
    rw [putL, ih, putL, List.cons_append, Nat.pow_succ, Nat.mul_comm, Nat.div_div_eq_div_mul]
/-- Bytes as the cells of a slice. -/
def bc (l : List UInt8) : List Value := l.map fun b => .int .u8 b.toNat
theorem bc_length (l : List UInt8) : (bc l).length = l.length := by simp [bc]
/-- What Put has laid after k rounds. -/
def rowP (n c k : Nat) : List UInt8 := List.replicate (c - k) 0 ++ putL n k
theorem rowP_length (n c k : Nat) (h : k ≤ c) : (rowP n c k).length = c := by simp [rowP, putL_length]; omega
theorem rowP_zero (n c : Nat) : bc (rowP n c 0) = List.replicate c (.int .u8 0) := by simp [rowP, putL, bc]
theorem rowP_end (n c : Nat) : rowP n c c = putL n c := by simp [rowP]
theorem rowP_step (n c k : Nat) (h : k < c) :
    (bc (rowP n c k)).set (c - 1 - k) (.int .u8 ((n / 256 ^ k % 256 : Nat) : Int)) = bc (rowP n c (k + 1)) := by
  unfold rowP
  rw [putL_cons, show c - k = (c - (k + 1)) + 1 from by omega, List.replicate_succ', List.append_assoc]
  unfold bc
  rw [List.map_append, List.set_append_right _ _ (by simp; omega)]
  rw [List.map_append, List.length_map, List.length_replicate, show c - 1 - k - (c - (k + 1)) = 0 from by omega]
  have : n / 256 ^ k % 256 < 256 := Nat.mod_lt _ (by decide)
  simp
theorem xor_zero (x y : Nat) : x ^^^ y = 0 ↔ x = y := by
  constructor
  · intro h
    have : x ^^^ (x ^^^ y) = x := by rw [h]; simp
    rw [← Nat.xor_assoc, Nat.xor_self, Nat.zero_xor] at this
    exact this.symm
  · rintro rfl; exact Nat.xor_self _
theorem or_xor (u : Nat) (x y : UInt8) (hu : u < 256) :
    ∃ v : Nat, bits .or .u8 (u : Int) (bits .xor .u8 (x.toNat : Int) (y.toNat : Int)) = (v : Int) ∧ v < 256 ∧ (v = 0 ↔ u = 0 ∧ x = y) := by
  have hx := x.toNat_lt
  have hy := y.toNat_lt
  have h1 : x.toNat ^^^ y.toNat < 2 ^ 8 := Nat.xor_lt_two_pow hx hy
  refine ⟨u ||| (x.toNat ^^^ y.toNat), ?_, Nat.or_lt_two_pow (n := 8) hu h1, ?_⟩
  · rw [u8_xor_nat _ _ hx hy, u8_or_nat _ _ hu h1]
  · rw [Nat.or_eq_zero_iff, xor_zero, UInt8.toNat_inj]
theorem same_of_take (a b : ByteArray) (m : Nat) (ha : a.size = m) (hb : b.size = m) (h : a.data.toList.take m = b.data.toList.take m) : a = b := by
  rw [List.take_of_length_le (by simp; omega), List.take_of_length_le (by simp; omega)] at h
  apply ByteArray.ext
  exact Array.toList_inj.1 h
end Go.Proofs.YtpenicjlpiechaaDoor
namespace Go.Proofs.YtpenicjlpiechaaDoor
set_option maxRecDepth 10000
open Go.RowKit

theorem ret_int {k : IntKind} {a b : Int} (h : a = b) : Ending.returned (.int k a) = .returned (.int k b) := by rw [h]

set_option maxHeartbeats 400000 in
theorem rotate_any (N : BitVec 32) (k : Int) (w : World) :
    Calls Tryd.prog 96 #[.int .u32 N.toNat, .int .i64 k] w fun e w' => e = .returned (.int .u32 (N.rotateLeft (k % 32).toNat).toNat) ∧ w' = w := by
  obtain ⟨s, hs⟩ : ∃ s : Nat, k % 32 = s := ⟨(k % 32).toNat, by omega⟩
  have hlt : s < 32 := by omega
  have hb : bits .and .u64 (IntKind.u64.wrap k) 31 = s := by rw [and31]; exact hs
  rw [hs, Int.toNat_natCast]
  have HR : Hid (bits .or .u32 (↑N.toNat * 2 ^ s % 4294967296) (↑N.toNat / 2 ^ (32 - s)) = ((N.rotateLeft s).toNat : Int)) := by
    have h := rot_or N s hlt
    rw [IntKind.wrap_u32] at h
    exact h
  clear hs
  go_enter Tryd.func96, Tryd.ntmps96
  go_wp2
  go_ret
  exact ⟨ret_int HR.out, rfl⟩

set_option maxHeartbeats 400000 in
theorem left_any (N : BitVec 32) (k : Int) (w : World) :
    Calls Tryd.prog 94 #[.int .u32 N.toNat, .int .i64 k] w fun e w' => e = .returned (.int .u32 (N.rotateLeft (k % 32).toNat).toNat) ∧ w' = w := by
  go_enter Tryd.func94, Tryd.ntmps94
  go_wp2_with (go_at_call 96; refine (rotate_any _ _ _).mono ?_; rintro e w' ⟨rfl, rfl⟩)
  go_ret
  exact ⟨rfl, rfl⟩

set_option maxHeartbeats 400000 in
theorem take_any (s : ByteArray) (w : World) (h8 : s.size ≤ 8) :
    Calls Tryd.prog 69 #[.string s] w fun e w' => e = .returned (.tuple #[.int .u64 (num s.data.toList), .int .i64 0]) ∧ w' = w := by
  go_enter Tryd.func69, Tryd.ntmps69
  go_wp2
  go_loop [4, 11] (fun n i => ∃ k m : Nat, k ≤ s.size ∧ i = .int .i64 k ∧ n = .int .u64 m ∧ Hid (m = num (s.data.toList.take k))) (fun _ i => s.size - (intOf i).toNat)
  case atStart => exact ⟨0, 0, Nat.zero_le _, rfl, rfl, rfl⟩
  case round =>
    obtain ⟨k, m, hk, rfl, rfl, hm⟩ := hrel
    by_cases hlt : k < s.size
    · have hstep : Hid (bits .or .u64 (IntKind.u64.wrap (↑m * 256)) (IntKind.u64.wrap ↑s[k].toNat) = ((num (s.data.toList.take (k + 1)) : Nat) : Int)) := by
        show _ = _
        rw [take_snoc s k hlt, num_snoc, ← hm.out]
        exact or_byte m s[k] (by rw [hm.out]; exact num_take_lt s k (by omega))
      go_wp2
      go_round
      case rel => exact ⟨k + 1, _, by omega, by go_num, congrArg _ hstep.out, rfl⟩
      case measure => simp [intOf]; omega
    · go_wp2
      go_ret2
      refine ⟨?_, rfl⟩
      have e : s.data.toList.take k = s.data.toList := List.take_of_length_le (by simp; omega)
      have hm' := hm.out
      rw [e] at hm'
      rw [← hm']
      rfl
end Go.Proofs.YtpenicjlpiechaaDoor
namespace Go.Proofs.YtpenicjlpiechaaDoor
set_option maxRecDepth 10000
open Go.RowKit
theorem Tryd.info5 : (Tryd.prog.info? 5).map (fun i => (i.zero, i.size, i.bytes)) = some (some (.int .u8 0), 1, 1) := by kernel_rfl

theorem own_cell {w : World} {B g n cap : Nat} {l : List UInt8} (h : w.ownsRow B 5 1 (.slice (some ⟨g, 0, none⟩) n cap) n (bc l)) (hl : l.length = n) (j : Nat) (hj : j < n) :
    w.cell? ⟨g, j, none⟩ = some (.int .u8 ((l[j]'(by omega)).toNat : Int)) := by
  rw [h.cellAt j (by omega)]
  simp [bc, hl, hj]

theorem own_string {w : World} {B g n cap : Nat} {l : List UInt8} (h : w.ownsRow B 5 1 (.slice (some ⟨g, 0, none⟩) n cap) n (bc l)) (hl : l.length = n) :
    (convert 48 9 (.slice (some ⟨g, 0, none⟩) n cap)).run Tryd.prog w = .ok (.string ⟨l.toArray⟩) w := by
  subst hl
  refine run_convert_bytes_back w 48 9 5 _ cap l Tryd.underlying48 Tryd.underlying5 Tryd.underlying9 (fun j hj => ?_)
  have e : (⟨g, 0, none⟩ : Addr).add j = ⟨g, j, none⟩ := by unfold Addr.add; split <;> simp_all
  rw [e]; exact own_cell h rfl j hj

/-- How many bytes are told. -/
def Told (b : Int) (c : Nat) : Prop := (b < 0 ∧ c = 0) ∨ (0 ≤ b ∧ b ≤ 8 ∧ b = c) ∨ (8 < b ∧ c = 8)

theorem made_row {n c : Nat} {B : Nat} {w1 : World} {v : Value} (hown : w1.ownsRow B 5 1 v c (madeCells (Value.int IntKind.u8 0).cells (c * 1)).toList) : w1.ownsRow B 5 1 v c (bc (rowP n c 0)) := by
  rw [rowP_zero]
  have e : (madeCells (Value.int IntKind.u8 0).cells (c * 1)).toList = List.replicate c (.int .u8 0) := by
    rw [Nat.mul_one]; exact toList_madeCells_one _ _
  rw [← e]; exact hown

theorem step_row (n c k : Nat) (hlt : k < c) {w : World} {B g : Nat} (hown : w.ownsRow B 5 1 (.slice (some ⟨g, 0, none⟩) c c) c (bc (rowP n c k))) :
    (w.setCell ⟨g, c - 1 - k, none⟩ (.int .u8 (↑n / 2 ^ (8 * k) % 256))).ownsRow B 5 1 (.slice (some ⟨g, 0, none⟩) c c) c (bc (rowP n c (k + 1))) := by
  have e : ((n : Int) / 2 ^ (8 * k) % 256) = ((n / 256 ^ k % 256 : Nat) : Int) := by
    rw [Int.natCast_emod, Int.natCast_ediv, Int.natCast_pow]
    have : ((2 : Int) ^ (8 * k)) = ((256 : Nat) : Int) ^ k := by rw [Int.pow_mul]; rfl
    rw [this]; rfl
  rw [e, ← rowP_step n c k hlt]
  exact (hown.stored _ _).1

set_option maxHeartbeats 1000000 in
theorem put_mid (n c : Nat) (w : World) (hc : c ≤ 8) :
    Calls Tryd.prog 66 #[.int .u64 n, .int .i64 c] w fun e w' => e = .returned (.string ⟨(putL n c).toArray⟩) ∧ Below w.heap.size w w' := by
  obtain ⟨i0, hi, hz0, hz1, hz2⟩ := info_parts Tryd.info5
  go_enter Tryd.func66, Tryd.ntmps66
  go_wp2_with (at_make; refine wpList_make_full _ rfl (.tmp 11) (.tmp 11) 48 rfl w.heap.size 5 i0 (.int .u8 0) 1 Tryd.underlying48 hi hz0 hz1 .i64 .i64 _ _ c rfl rfl rfl rfl (by rw [hz2]; omega) (by unfold maxLen; omega) (Nat.le_refl _) ?_; intro w1 hown hgrow)
  have hown1 : w1.ownsRow w.heap.size 5 1 (.slice (some ⟨w.heap.size, 0, none⟩) c c) c (bc (rowP n c 0)) := made_row hown
  have hb1 : Below w.heap.size w w1 := (Below.refl _ _).grown hgrow (Nat.le_refl _) (by intro k h; cases h)
  clear hown hgrow
  go_loopw [14] (fun i wr => ∃ k : Nat, k ≤ c ∧ i = .int .i64 k ∧ wr.ownsRow w.heap.size 5 1 (.slice (some ⟨w.heap.size, 0, none⟩) c c) c (bc (rowP n c k)) ∧ Below w.heap.size w wr) (fun i _ => c - (intOf i).toNat)
  case atStart => exact ⟨0, Nat.zero_le _, rfl, hown1, hb1⟩
  case round =>
    obtain ⟨k, hk, rfl, hown, hb⟩ := hrel
    clear hown1 hb1
    by_cases hlt : k < c
    · have hfz := hown.frozenAt (c - 1 - k)
      have hcell := own_cell hown (rowP_length n c k hk) (c - 1 - k) (by omega)
      go_wp2
      go_roundw
      case rel => exact ⟨k + 1, by omega, by go_num, step_row n c k hlt hown, hb.setCell (Nat.le_refl _) _⟩
      case measure => simp [intOf]; omega
    · have e : k = c := by omega
      subst e
      rw [rowP_end] at hown
      have hcv := own_string hown (putL_length n k)
      go_wp2
      go_ret
      exact ⟨rfl, hb⟩
set_option maxHeartbeats 1000000 in
theorem put_none (n : Nat) (b : Int) (w : World) (h1 : b < 0) :
    Calls Tryd.prog 66 #[.int .u64 n, .int .i64 b] w fun e w' => e = .returned (.string ⟨(putL n 0).toArray⟩) ∧ Below w.heap.size w w' := by
  obtain ⟨i0, hi, hz0, hz1, hz2⟩ := info_parts Tryd.info5
  go_enter Tryd.func66, Tryd.ntmps66
  go_wp2_with (at_make; refine wpList_make_full _ rfl (.tmp 11) (.tmp 11) 48 rfl w.heap.size 5 i0 (.int .u8 0) 1 Tryd.underlying48 hi hz0 hz1 .i64 .i64 _ _ 0 rfl rfl rfl rfl (by rw [hz2]; omega) (by unfold maxLen; omega) (Nat.le_refl _) ?_; intro w1 hown hgrow)
  have hown1 : w1.ownsRow w.heap.size 5 1 (.slice (some ⟨w.heap.size, 0, none⟩) 0 0) 0 (bc (rowP n 0 0)) := made_row hown
  have hb1 : Below w.heap.size w w1 := (Below.refl _ _).grown hgrow (Nat.le_refl _) (by intro k h; cases h)
  clear hown hgrow
  go_loopw [14] (fun i wr => ∃ k : Nat, k ≤ 0 ∧ i = .int .i64 k ∧ wr.ownsRow w.heap.size 5 1 (.slice (some ⟨w.heap.size, 0, none⟩) 0 0) 0 (bc (rowP n 0 k)) ∧ Below w.heap.size w wr) (fun i _ => 0 - (intOf i).toNat)
  case atStart => exact ⟨0, Nat.zero_le _, rfl, hown1, hb1⟩
  case round =>
    obtain ⟨k, hk, rfl, hown, hb⟩ := hrel
    clear hown1 hb1
    by_cases hlt : k < 0
    · exact absurd hlt (Nat.not_lt_zero _)
    · have e : k = 0 := by omega
      subst e
      rw [rowP_end] at hown
      have hcv := own_string hown (putL_length n 0)
      go_wp2
      go_ret
      exact ⟨rfl, hb⟩
set_option maxHeartbeats 1000000 in
theorem put_all (n : Nat) (b : Int) (w : World) (h1 : 8 < b) :
    Calls Tryd.prog 66 #[.int .u64 n, .int .i64 b] w fun e w' => e = .returned (.string ⟨(putL n 8).toArray⟩) ∧ Below w.heap.size w w' := by
  obtain ⟨i0, hi, hz0, hz1, hz2⟩ := info_parts Tryd.info5
  go_enter Tryd.func66, Tryd.ntmps66
  go_wp2_with (at_make; refine wpList_make_full _ rfl (.tmp 11) (.tmp 11) 48 rfl w.heap.size 5 i0 (.int .u8 0) 1 Tryd.underlying48 hi hz0 hz1 .i64 .i64 _ _ 8 rfl rfl rfl rfl (by rw [hz2]; omega) (by unfold maxLen; omega) (Nat.le_refl _) ?_; intro w1 hown hgrow)
  have hown1 : w1.ownsRow w.heap.size 5 1 (.slice (some ⟨w.heap.size, 0, none⟩) 8 8) 8 (bc (rowP n 8 0)) := made_row hown
  have hb1 : Below w.heap.size w w1 := (Below.refl _ _).grown hgrow (Nat.le_refl _) (by intro k h; cases h)
  clear hown hgrow
  go_loopw [14] (fun i wr => ∃ k : Nat, k ≤ 8 ∧ i = .int .i64 k ∧ wr.ownsRow w.heap.size 5 1 (.slice (some ⟨w.heap.size, 0, none⟩) 8 8) 8 (bc (rowP n 8 k)) ∧ Below w.heap.size w wr) (fun i _ => 8 - (intOf i).toNat)
  case atStart => exact ⟨0, Nat.zero_le _, rfl, hown1, hb1⟩
  case round =>
    obtain ⟨k, hk, rfl, hown, hb⟩ := hrel
    clear hown1 hb1
    by_cases hlt : k < 8
    · have hfz := hown.frozenAt (8 - 1 - k)
      have hcell := own_cell hown (rowP_length n 8 k hk) (8 - 1 - k) (by omega)
      go_wp2
      go_roundw
      case rel => exact ⟨k + 1, by omega, by go_num, step_row n 8 k hlt hown, hb.setCell (Nat.le_refl _) _⟩
      case measure => simp [intOf]; omega
    · have e : k = 8 := by omega
      subst e
      rw [rowP_end] at hown
      have hcv := own_string hown (putL_length n 8)
      go_wp2
      go_ret
      exact ⟨rfl, hb⟩
theorem put_any (n c : Nat) (b : Int) (w : World) (hb : Told b c) :
    Calls Tryd.prog 66 #[.int .u64 n, .int .i64 b] w fun e w' => e = .returned (.string ⟨(putL n c).toArray⟩) ∧ Below w.heap.size w w' := by
  rcases hb with ⟨h1, rfl⟩ | ⟨h1, h2, rfl⟩ | ⟨h1, rfl⟩
  · exact put_none n b w h1
  · exact put_mid n c w (by omega)
  · exact put_all n b w h1
end Go.Proofs.YtpenicjlpiechaaDoor
namespace Go.Proofs.YtpenicjlpiechaaDoor
open Go.RowKit
set_option linter.unusedVariables false
theorem ret_bool {a b : Bool} (h : a = b) : Ending.returned (.bool a) = .returned (.bool b) := by rw [h]
theorem fin_short (a b : ByteArray) (u k : Nat) (e : k = a.size) (hm : a.size ≤ b.size) (h : u = 0 ↔ a.data.toList.take k = b.data.toList.take k) : decide (a = b) = (decide (u = 0) && decide (a.size = b.size)) := by
  rw [Bool.eq_iff_iff]; simp only [Bool.and_eq_true, decide_eq_true_eq]
  constructor
  · rintro rfl; exact ⟨h.2 rfl, rfl⟩
  · rintro ⟨h1, h2⟩; exact same_of_take a b k e.symm (by omega) (h.1 h1)
theorem fin_long (a b : ByteArray) (u k : Nat) (e : k = b.size) (hm : b.size < a.size) (h : u = 0 ↔ a.data.toList.take k = b.data.toList.take k) : decide (a = b) = (decide (u = 0) && decide (a.size = b.size)) := by
  rw [Bool.eq_iff_iff]; simp only [Bool.and_eq_true, decide_eq_true_eq]
  constructor
  · rintro rfl; exact ⟨h.2 rfl, rfl⟩
  · rintro ⟨h1, h2⟩; exact same_of_take a b k (by omega) e.symm (h.1 h1)
set_option maxHeartbeats 1000000 in
theorem same_short (a b : ByteArray) (w : World) (ha : a.size ≤ maxLen) (hb : b.size ≤ maxLen) (hm : a.size ≤ b.size) :
    Calls Tryd.prog 68 #[.string a, .string b] w fun e w' => e = .returned (.bool (decide (a = b))) ∧ Below w.heap.size w w' := by
  unfold maxLen at ha hb
  go_enter Tryd.func68, Tryd.ntmps68
  go_wp2
  go_loopw [5, 12] (fun x i wr => ∃ k u : Nat, k ≤ a.size ∧ i = .int .i64 k ∧ x = .int .u8 u ∧ u < 256 ∧ Hid (u = 0 ↔ a.data.toList.take k = b.data.toList.take k) ∧ Below w.heap.size w wr) (fun _ i _ => a.size - (intOf i).toNat)
  case atStart => exact ⟨0, 0, Nat.zero_le _, rfl, rfl, by decide, by simp [Hid], Below.refl _ _⟩
  case round =>
    obtain ⟨k, u, hk, rfl, rfl, hu, hz, hbw⟩ := hrel
    by_cases hlt : k < a.size
    · have h1 : k < a.size := by omega
      have h2 : k < b.size := by omega
      obtain ⟨v, hv, hv2, hv3⟩ := or_xor u a[k] b[k] hu
      have hz2 : Hid (v = 0 ↔ a.data.toList.take (k + 1) = b.data.toList.take (k + 1)) := by
        show _ ↔ _
        rw [hv3, take_snoc a k h1, take_snoc b k h2, hz.out]
        constructor
        · rintro ⟨e1, e2⟩; rw [e1, e2]
        · intro e
          have e := List.append_inj' e rfl
          exact ⟨e.1, by simpa using e.2⟩
      clear hv3
      go_wp2
      go_quiet (fail)
      go_wp2
      go_roundw
      case rel => exact ⟨k + 1, v, by omega, by go_num, rfl, hv2, hz2, below_drewN hbw _⟩
      case measure => simp [intOf]; omega
    · have hfin := hz.out
      have e : k = a.size := by omega
      have HF : Hid (decide (a = b) = (decide (u = 0) && decide (a.size = b.size))) := fin_short a b u k e hm hfin
      clear hfin
      by_cases hu0 : u = 0
      · have h : ((a.size : Int) == (b.size : Int)) = decide (a = b) := by rw [HF.out, Bool.eq_iff_iff]; simp [hu0]; omega
        have H : Hid (((a.size : Int) == (b.size : Int)) = decide (a = b)) := h
        clear h
        go_wp2
        go_ret
        exact ⟨ret_bool H.out, hbw⟩
      · have H : Hid (false = decide (a = b)) := by show _ = _; rw [HF.out]; simp [hu0]
        go_wp2
        go_ret
        exact ⟨ret_bool H.out, hbw⟩
set_option maxHeartbeats 1000000 in
theorem same_long (a b : ByteArray) (w : World) (ha : a.size ≤ maxLen) (hb : b.size ≤ maxLen) (hm : b.size < a.size) :
    Calls Tryd.prog 68 #[.string a, .string b] w fun e w' => e = .returned (.bool (decide (a = b))) ∧ Below w.heap.size w w' := by
  unfold maxLen at ha hb
  go_enter Tryd.func68, Tryd.ntmps68
  go_wp2
  go_loopw [5, 12] (fun x i wr => ∃ k u : Nat, k ≤ b.size ∧ i = .int .i64 k ∧ x = .int .u8 u ∧ u < 256 ∧ Hid (u = 0 ↔ a.data.toList.take k = b.data.toList.take k) ∧ Below w.heap.size w wr) (fun _ i _ => b.size - (intOf i).toNat)
  case atStart => exact ⟨0, 0, Nat.zero_le _, rfl, rfl, by decide, by simp [Hid], Below.refl _ _⟩
  case round =>
    obtain ⟨k, u, hk, rfl, rfl, hu, hz, hbw⟩ := hrel
    by_cases hlt : k < b.size
    · have h1 : k < a.size := by omega
      have h2 : k < b.size := by omega
      obtain ⟨v, hv, hv2, hv3⟩ := or_xor u a[k] b[k] hu
      have hz2 : Hid (v = 0 ↔ a.data.toList.take (k + 1) = b.data.toList.take (k + 1)) := by
        show _ ↔ _
        rw [hv3, take_snoc a k h1, take_snoc b k h2, hz.out]
        constructor
        · rintro ⟨e1, e2⟩; rw [e1, e2]
        · intro e
          have e := List.append_inj' e rfl
          exact ⟨e.1, by simpa using e.2⟩
      clear hv3
      go_wp2
      go_quiet (fail)
      go_wp2
      go_roundw
      case rel => exact ⟨k + 1, v, by omega, by go_num, rfl, hv2, hz2, below_drewN hbw _⟩
      case measure => simp [intOf]; omega
    · have hfin := hz.out
      have e : k = b.size := by omega
      have HF : Hid (decide (a = b) = (decide (u = 0) && decide (a.size = b.size))) := fin_long a b u k e hm hfin
      clear hfin
      by_cases hu0 : u = 0
      · have h : ((a.size : Int) == (b.size : Int)) = decide (a = b) := by rw [HF.out, Bool.eq_iff_iff]; simp [hu0]; omega
        have H : Hid (((a.size : Int) == (b.size : Int)) = decide (a = b)) := h
        clear h
        go_wp2
        go_ret
        exact ⟨ret_bool (by rw [← H.out]), hbw⟩
      · have H : Hid (false = decide (a = b)) := by show _ = _; rw [HF.out]; simp [hu0]
        go_wp2
        go_ret
        exact ⟨ret_bool H.out, hbw⟩
theorem same_any (a b : ByteArray) (w : World) (ha : a.size ≤ maxLen) (hb : b.size ≤ maxLen) :
    Calls Tryd.prog 68 #[.string a, .string b] w fun e w' => e = .returned (.bool (decide (a = b))) ∧ Below w.heap.size w w' := by
  by_cases h : a.size ≤ b.size
  · exact same_short a b w ha hb h
  · exact same_long a b w ha hb (by omega)
end Go.Proofs.YtpenicjlpiechaaDoor
namespace Go.Proofs.YtpenicjlpiechaaDoor
set_option maxRecDepth 10000
open Go Go.RowKit
variable {P : Program}
/-- Block b holds these cells; none is frozen. -/
def Blk (w : World) (b : Nat) (cs : List Value) (t : TypeId) : Prop := w.heap[b]? = some (.cells cs.toArray t (0, 0))
/-- All but block b is as it was. -/
structure Turn (b : Nat) (w w' : World) : Prop where
  os : w'.os = w.os
  tape : w'.tape = w.tape
  output : w'.output = w.output
  size : w.heap.size ≤ w'.heap.size
  block : ∀ k, k ≠ b → w'.heap[k]? = w.heap[k]?
theorem Turn.below {B b : Nat} {w0 w w' : World} (h : Turn b w w') (hb : Below B w0 w) (hB : B ≤ b) : Below B w0 w' :=
  hb.trans ⟨h.os, h.tape, h.output, h.size, fun k hk => h.block k (by omega)⟩
theorem Turn.blk {b c : Nat} {w w' : World} {cs : List Value} {t : TypeId} (h : Turn b w w') (hc : Blk w c cs t) (hn : c ≠ b) : Blk w' c cs t := by
  unfold Blk; rw [h.block c hn]; exact hc
theorem Blk.lt {w : World} {b : Nat} {cs : List Value} {t : TypeId} (h : Blk w b cs t) : b < w.heap.size := by
  unfold Blk at h
  exact (Array.getElem?_eq_some_iff.1 h).1
theorem Blk.below {B b : Nat} {w w' : World} {cs : List Value} {t : TypeId} (h : Blk w b cs t) (hb : Below B w w') (hB : b < B) : Blk w' b cs t := by
  unfold Blk; rw [hb.block b hB]; exact h
theorem Blk.at {w : World} {b : Nat} {cs : List Value} {t : TypeId} (h : Blk w b cs t) (o : Nat) : w.cell? ⟨b, o, none⟩ = cs[o]? := by
  rw [cell_of_row w b o cs.toArray t (0, 0) h]; simp
theorem Blk.cell {w : World} {b : Nat} {cs : List Value} {t : TypeId} (h : Blk w b cs t) (o : Nat) (v : Value) (hv : cs[o]? = some v) : w.cell? ⟨b, o, none⟩ = some v := by
  rw [h.at, hv]
theorem Blk.frozen {w : World} {b : Nat} {cs : List Value} {t : TypeId} (h : Blk w b cs t) (o : Nat) : w.frozen? ⟨b, o, none⟩ = false := by
  unfold Blk at h
  simp [World.frozen?, h]
theorem Blk.drew {w : World} {b : Nat} {cs : List Value} {t : TypeId} (h : Blk w b cs t) : Blk w.drew b cs t := h
theorem Turn.drew {b : Nat} {w w' : World} (h : Turn b w w') : Turn b w w'.drew := ⟨h.os, h.tape, h.output, h.size, h.block⟩
theorem Turn.refl (b : Nat) (w : World) : Turn b w w := ⟨rfl, rfl, rfl, Nat.le_refl _, fun _ _ => rfl⟩
theorem Turn.trans {b : Nat} {w w' w'' : World} (h : Turn b w w') (k : Turn b w' w'') : Turn b w w'' :=
  ⟨k.os.trans h.os, k.tape.trans h.tape, k.output.trans h.output, Nat.le_trans h.size k.size, fun i hi => (k.block i hi).trans (h.block i hi)⟩
theorem turn_alloc (w : World) (cs : List Value) (t : TypeId) : Turn w.heap.size w (w.alloc (.cells cs.toArray t)) ∧ Blk (w.alloc (.cells cs.toArray t)) w.heap.size cs t := by
  refine ⟨⟨rfl, rfl, rfl, by simp, fun k hk => ?_⟩, ?_⟩
  · show (w.heap.push _)[k]? = _
    rw [Array.getElem?_push, if_neg hk]
  · show (w.heap.push _)[w.heap.size]? = _
    simp
theorem turn_setCell (w : World) (b o : Nat) (v : Value) (cs : List Value) (t : TypeId) (h : Blk w b cs t) : Turn b w (w.setCell ⟨b, o, none⟩ v) ∧ Blk (w.setCell ⟨b, o, none⟩ v) b (cs.set o v) t := by
  refine ⟨⟨rfl, rfl, rfl, by simp [World.setCell], fun k hk => Below.heap_setCell _ _ _ _ hk⟩, ?_⟩
  unfold Blk at *
  simp [World.setCell, Array.getElem?_modify, h]
theorem turn_setCells (b : Nat) (t : TypeId) : ∀ (vs : List Value) (o : Nat) (w : World) (cs : List Value), Blk w b cs t → o + vs.length ≤ cs.length →
    Turn b w (w.setCells b o vs) ∧ Blk (w.setCells b o vs) b (cs.take o ++ vs ++ cs.drop (o + vs.length)) t
  | [], o, w, cs, h, _ => by
    refine ⟨Turn.refl _ _, ?_⟩
    simpa [World.setCells] using h
  | v :: vs, o, w, cs, h, hl => by
    simp only [List.length_cons] at hl
    obtain ⟨h1, h2⟩ := turn_setCell w b o v cs t h
    obtain ⟨h3, h4⟩ := turn_setCells b t vs (o + 1) _ _ h2 (by simp; omega)
    rw [World.setCells]
    refine ⟨h1.trans h3, ?_⟩
    have e : (cs.set o v).take (o + 1) ++ vs ++ (cs.set o v).drop (o + 1 + vs.length) = cs.take o ++ (v :: vs) ++ cs.drop (o + (v :: vs).length) := by
      rw [List.drop_set_of_lt (by omega), List.length_cons, show o + 1 + vs.length = o + (vs.length + 1) by omega]
      have : (cs.set o v).take (o + 1) = cs.take o ++ [v] := by
        rw [List.take_add_one, List.getElem?_set_self (by omega)]
        simp [List.take_set_of_le]
      rw [this]; simp
    rw [← e]; exact h4
/-- A part of a block. -/
theorem Blk.range {w : World} {b : Nat} {cs : List Value} {t : TypeId} (h : Blk w b cs t) (o n : Nat) : w.rangeAt b o ((cs.drop o).take n) := fun j v hv => by
  rw [h.at]
  rw [List.getElem?_take] at hv
  split at hv
  · rw [List.getElem?_drop] at hv; exact hv
  · cases hv
theorem Blk.there {w : World} {b : Nat} {cs : List Value} {t : TypeId} (h : Blk w b cs t) (o n : Nat) (hn : o + n ≤ cs.length) : w.there b o n := fun j hj => by
  refine ⟨?_, h.frozen _⟩
  rw [h.at, List.getElem?_eq_getElem (by omega)]; rfl
theorem run_copy_blk {w : World} (dT sT ty e : TypeId) (b o dl dc k : Nat) (s : ByteArray) (cs : List Value) (bt : TypeId)
    (hu : P.underlying dT = some (.slice e)) (hs : ∀ w, (sizeOf e).run P w = .ok 1 w) (hb : Blk w b cs bt) (hl : o + dl ≤ cs.length) (hk : min s.size dl = k) :
    ∃ w', (Builtin.copy_ #[dT, sT] ty #[.slice (some ⟨b, o, none⟩) dl dc, .string s]).run P w = .ok (.int .i64 k) w' ∧ Turn b w w' ∧ Blk w' b (cs.take o ++ (s.data.toList.take k).map (fun c => Value.int .u8 c.toNat) ++ cs.drop (o + k)) bt := by
  have hsz : s.size = s.data.toList.length := by show s.data.size = _; simp
  have hvl : ((s.data.toList.take k).map (fun c => Value.int .u8 c.toNat)).length = k := by rw [List.length_map, List.length_take]; omega
  obtain ⟨h1, h2⟩ := turn_setCells b bt ((s.data.toList.take k).map (fun c => Value.int .u8 c.toNat)) o w cs hb (by omega)
  rw [hvl] at h2
  have hst := run_storeCells_cells (P := P) b o ((s.data.toList.take k).map (fun c => Value.int .u8 c.toNat)) 0 w
    (fun j hj => by rw [Nat.add_zero]; exact ((hb.there o k (by omega)) j (by omega)).1) (fun j hj => hb.frozen _)
    (fun v hv => by obtain ⟨_, _, rfl⟩ := List.mem_map.1 hv; rfl)
  have hcells : ((s.extract 0 k).data.map (fun c => Value.int .u8 c.toNat)).toList = (s.data.toList.take k).map (fun c => Value.int .u8 c.toNat) := by
    simp [ByteArray.data_extract]
  have hmin : Nat.min s.size dl = k := hk
  refine ⟨_, ?_, h1, h2⟩
  rw [Nat.add_zero] at hst
  simp only [Builtin.copy_, List.getElem?_toArray, List.getElem?_cons_zero, List.getElem?_cons_succ, Sem.run_bind, run_underlying hu, Builtin.lenOf, Builtin.firstCells, hs, Sem.run_pure, Result.andThen_ok, hmin, hcells, hst]
  rfl
/-! ### The operations, each written out: 'with_reducible refine' meets them where they stand, and nowhere else -/
section
variable {ops : Array Oper} {rest : List Oper} {a : Act} {w : World} {Q : Exit → Act → World → Prop} {dst : Option Tmp} {ty : TypeId} {pos : String} {aft : Array Edge}
/-- Guards: the goal is as it was. -/
theorem at_box {x : Operand} (t : TypeId) (h : wpList P ops Q (⟨dst, .box t x, ty, pos, aft, none⟩ :: rest) a w) : wpList P ops Q (⟨dst, .box t x, ty, pos, aft, none⟩ :: rest) a w := h
theorem at_load {x : Operand} (t : TypeId) (h : wpList P ops Q (⟨dst, .load t x, ty, pos, aft, none⟩ :: rest) a w) : wpList P ops Q (⟨dst, .load t x, ty, pos, aft, none⟩ :: rest) a w := h
theorem at_store {x y : Operand} (t : TypeId) (h : wpList P ops Q (⟨dst, .store t x y, ty, pos, aft, none⟩ :: rest) a w) : wpList P ops Q (⟨dst, .store t x y, ty, pos, aft, none⟩ :: rest) a w := h
theorem at_alloc (t : TypeId) (h : wpList P ops Q (⟨dst, .alloc t, ty, pos, aft, none⟩ :: rest) a w) : wpList P ops Q (⟨dst, .alloc t, ty, pos, aft, none⟩ :: rest) a w := h
theorem at_copy {x y : Operand} {ts : Array TypeId} (h : wpList P ops Q (⟨dst, .call { callee := .builtin .copy, args := #[x, y], argTypes := ts }, ty, pos, aft, none⟩ :: rest) a w) : wpList P ops Q (⟨dst, .call { callee := .builtin .copy, args := #[x, y], argTypes := ts }, ty, pos, aft, none⟩ :: rest) a w := h
theorem L_box (t : TypeId) (x : Operand) (cs : List Value) (hx : a.eval x = .agg cs.toArray)
    (h : ∀ w', Turn w.heap.size w w' → Blk w' w.heap.size cs t → wpList P ops Q rest (a.put dst (.pointer (some ⟨w.heap.size, 0, none⟩))) w') :
    wpList P ops Q (⟨dst, .box t x, ty, pos, aft, none⟩ :: rest) a w := by
  refine wpList_plain rfl fun K hK => ?_
  obtain ⟨h1, h2⟩ := turn_alloc w cs t
  unfold Oper.wp
  simp only [execOp, hx, Instr.box, newVar, newRow, Value.cells, Sem.run_bind, run_newObj, Result.andThen_ok, Sem.run_pure]
  exact hK _ _ (h _ h1 h2)
theorem L_alloc (t : TypeId) (cs : List Value) (hz : ∀ w, (zeroValue t).run P w = .ok (.agg cs.toArray) w)
    (h : ∀ w', Turn w.heap.size w w' → Blk w' w.heap.size cs t → wpList P ops Q rest (a.put dst (.pointer (some ⟨w.heap.size, 0, none⟩))) w') :
    wpList P ops Q (⟨dst, .alloc t, ty, pos, aft, none⟩ :: rest) a w := by
  refine wpList_plain rfl fun K hK => ?_
  obtain ⟨h1, h2⟩ := turn_alloc w cs t
  unfold Oper.wp
  simp only [execOp, Instr.alloc, hz, newVar, newRow, Value.cells, Sem.run_bind, run_newObj, Result.andThen_ok, Sem.run_pure]
  exact hK _ _ (h _ h1 h2)
theorem L_load (t : TypeId) (x : Operand) (b o n : Nat) (cs : List Value) (bt : TypeId) (d : TypeDesc) (hx : a.eval x = .pointer (some ⟨b, o, none⟩)) (hb : Blk w b cs bt)
    (hu : P.underlying t = some d) (hd : d.isRow = true) (hi : (P.info? t).map (·.size) = some n) (hl : o + n ≤ cs.length) (r : List Value) (hr : (cs.drop o).take n = r)
    (h : wpList P ops Q rest (a.put dst (.agg r.toArray)) w) :
    wpList P ops Q (⟨dst, .load t x, ty, pos, aft, none⟩ :: rest) a w := by
  subst hr
  exact wpList_load_mid rfl t x rfl b o hx _ d (hb.range o n) hu hd (by rw [hi]; simp; omega) h
theorem L_store (t : TypeId) (x y : Operand) (b o : Nat) (vs cs : List Value) (bt : TypeId) (hx : a.eval x = .pointer (some ⟨b, o, none⟩)) (hy : a.eval y = .agg vs.toArray) (hb : Blk w b cs bt)
    (hi : (P.info? t).map (·.size) = some vs.length) (hl : o + vs.length ≤ cs.length) (h1 : ∀ v ∈ vs, v.oneCell' = true) (r : List Value) (hr : cs.take o ++ vs ++ cs.drop (o + vs.length) = r)
    (h : ∀ w', Turn b w w' → Blk w' b r bt → wpList P ops Q rest (a.put dst undef) w') :
    wpList P ops Q (⟨dst, .store t x y, ty, pos, aft, none⟩ :: rest) a w := by
  subst hr
  obtain ⟨h2, h3⟩ := turn_setCells b bt vs o w cs hb hl
  exact wpList_store_mid rfl t x y rfl b o vs.toArray hx hy (hb.there o _ (by simpa using hl)) (by simpa using hi) (all_oneCell_toArray h1) (by simpa using h _ h2 h3)
theorem L_load_all (t : TypeId) (x : Operand) (b : Nat) (cs : List Value) (bt : TypeId) (d : TypeDesc) (hx : a.eval x = .pointer (some ⟨b, 0, none⟩)) (hb : Blk w b cs bt)
    (hu : P.underlying t = some d) (hd : d.isRow = true) (hi : (P.info? t).map (·.size) = some cs.length)
    (h : wpList P ops Q rest (a.put dst (.agg cs.toArray)) w) :
    wpList P ops Q (⟨dst, .load t x, ty, pos, aft, none⟩ :: rest) a w :=
  L_load t x b 0 cs.length cs bt d hx hb hu hd hi (by omega) cs (by simp) h
theorem L_store_all (t : TypeId) (x y : Operand) (b : Nat) (vs cs : List Value) (bt : TypeId) (hx : a.eval x = .pointer (some ⟨b, 0, none⟩)) (hy : a.eval y = .agg vs.toArray) (hb : Blk w b cs bt)
    (hi : (P.info? t).map (·.size) = some vs.length) (hl : vs.length = cs.length) (h1 : ∀ v ∈ vs, v.oneCell' = true)
    (h : ∀ w', Turn b w w' → Blk w' b vs bt → wpList P ops Q rest (a.put dst undef) w') :
    wpList P ops Q (⟨dst, .store t x y, ty, pos, aft, none⟩ :: rest) a w :=
  L_store t x y b 0 vs cs bt hx hy hb hi (by omega) h1 vs (by rw [List.take_zero, List.nil_append, List.drop_eq_nil_of_le (by omega), List.append_nil]) h
/-- 'copy(x, s)', x a slice of bytes in a block, s a text. -/
theorem L_copy (x y : Operand) (dT sT e : TypeId) (b o dl dc k : Nat) (s : ByteArray) (cs : List Value) (bt : TypeId) (hx : a.eval x = .slice (some ⟨b, o, none⟩) dl dc) (hy : a.eval y = .string s)
    (hu : P.underlying dT = some (.slice e)) (hs : ∀ w, (sizeOf e).run P w = .ok 1 w) (hb : Blk w b cs bt) (hl : o + dl ≤ cs.length) (hk : min s.size dl = k)
    (h : ∀ w', Turn b w w' → Blk w' b (cs.take o ++ (s.data.toList.take k).map (fun c => Value.int .u8 c.toNat) ++ cs.drop (o + k)) bt → wpList P ops Q rest (a.put dst (.int .i64 k)) w') :
    wpList P ops Q (⟨dst, .call { callee := .builtin .copy, args := #[x, y], argTypes := #[dT, sT] }, ty, pos, aft, none⟩ :: rest) a w := by
  obtain ⟨w', hrun, h1, h2⟩ := run_copy_blk dT sT ty e b o dl dc k s cs bt hu hs hb hl hk
  refine wpList_plain rfl fun K hK => ?_
  unfold Oper.wp
  simp only [execOp, resolve, invoke, builtin, List.map_toArray, List.map_cons, List.map_nil, hx, hy, Sem.run_bind, Sem.run_pure, Result.andThen_ok]
  rw [hrun]
  exact hK _ _ (h _ h1 h2)
end
/-- A variable of an array's or a struct's type at the head of a block, as a result. -/
theorem results_blk {fn : Func} {p : Tmp} {t : TypeId} (hf : fn.results = #[.cell p t]) {a : Act} {w : World} (b : Nat) (cs : List Value) (d : TypeDesc) (hp : a.tmps.getD p undef = .pointer (some ⟨b, 0, none⟩)) (hb : Blk w b cs t)
    (hu : P.underlying t = some d) (hd : d.isRow = true) (hi : (P.info? t).map (·.size) = some cs.length) : (results fn a.tmps).run P w = .ok (.agg cs.toArray) w := by
  have h := run_loadVar_mid (P := P) w b 0 t cs d (by simpa using hb.range 0 cs.length) hu hd hi
  have hp' : a.tmps[p]?.getD undef = .pointer (some ⟨b, 0, none⟩) := by simpa using hp
  simp [results, hf, asAddr, hp', h]
/-- 'x[lo:hi]', 'x[lo:]', 'x[:]', x an array of elements of one cell. -/
theorem run_slice_lh (w : World) (b o n lo hi : Nat) (l h : Int) (t e : TypeId) (hu : P.underlying t = some (.array n e)) (hs : ∀ w, (sizeOf e).run P w = .ok 1 w) (hl : l = lo) (hh : h = hi) (h1 : lo ≤ hi) (h2 : hi ≤ n) (h3 : lo < n) :
    (Instr.sliceAt t (.pointer (some ⟨b, o, none⟩)) (some (.int .i64 l)) (some (.int .i64 h)) none).run P w = .ok (.slice (some ⟨b, o + lo, none⟩) (hi - lo) (n - lo)) w := by
  subst hl; subst hh
  have e1 : ¬ n = lo := by omega
  simp [Instr.sliceAt, Instr.sureAddr, run_underlying hu, Instr.sliceBounds, run_sliceBound, hs, h1, h2, e1, Addr.add_mid]
theorem run_slice_l (w : World) (b o n lo : Nat) (l : Int) (t e : TypeId) (hu : P.underlying t = some (.array n e)) (hs : ∀ w, (sizeOf e).run P w = .ok 1 w) (hl : l = lo) (h3 : lo < n) :
    (Instr.sliceAt t (.pointer (some ⟨b, o, none⟩)) (some (.int .i64 l)) none none).run P w = .ok (.slice (some ⟨b, o + lo, none⟩) (n - lo) (n - lo)) w := by
  subst hl
  have e1 : ¬ n = lo := by omega
  simp [Instr.sliceAt, Instr.sureAddr, run_underlying hu, Instr.sliceBounds, run_sliceBound, hs, e1, Addr.add_mid, Nat.le_of_lt h3]
theorem run_slice_all (w : World) (b o n : Nat) (t e : TypeId) (hu : P.underlying t = some (.array n e)) (hs : ∀ w, (sizeOf e).run P w = .ok 1 w) :
    (Instr.sliceAt t (.pointer (some ⟨b, o, none⟩)) none none none).run P w = .ok (.slice (some ⟨b, o, none⟩) n n) w := by
  simp [Instr.sliceAt, Instr.sureAddr, run_underlying hu, Instr.sliceBounds, hs, Addr.add_mid]
/-- 'x[k]', x an array by value, of elements of one cell. -/
theorem run_index_arr (w : World) (t e : TypeId) (n k : Nat) (i : Int) (cs : List Value) (v : Value) (hu : P.underlying t = some (.array n e)) (ha : ∀ w, (isAgg e).run P w = .ok false w) (hs : ∀ w, (sizeOf e).run P w = .ok 1 w) (hi : i = k) (hk : k < n) (hv : cs[k]? = some v) :
    (Instr.index t (.agg cs.toArray) (.int .i64 i)).run P w = .ok v w := by
  subst hi
  simp [Instr.index, asIntOf, run_underlying hu, part, ha, hs, hk, hv]
end Go.Proofs.YtpenicjlpiechaaDoor
namespace Go.Proofs.YtpenicjlpiechaaDoor
set_option maxRecDepth 10000
open Go Go.ChangeShapes Go.WideShapes
variable {H : Type} {enc : TypeId × Value → H} {P : Program} {w : World} {base : Nat} {spare : Nat → Bool} {held : Bool}
end Go.Proofs.YtpenicjlpiechaaDoor
