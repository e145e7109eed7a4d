/- Tags as plain lists of bytes. -/
import Derived.Test.YtdfpnicpcndkjaaDoorSix
namespace Go.Proofs.YtdfpnicpcndkjaaDoor
set_option maxRecDepth 10000
open Go.RowKit
set_option linter.unusedVariables false

/-- A fact that no unfolding opens. -/
structure Shut (p : Prop) : Prop where
  out : p
/-- Each byte xored with m. -/
def xk (m : UInt8) (b : List UInt8) : List UInt8 := b.map (· ^^^ m)
/-- A key's bytes, or its digest's. -/
def cutK (k : List UInt8) : List UInt8 := if 64 < k.length then sum k else k
/-- And bytes 0 behind, up to 64. -/
def blkK (k : List UInt8) : List UInt8 := cutK k ++ List.replicate (64 - (cutK k).length) 0
/-- The state behind a key's block. -/
def nearSt (k : List UInt8) : St := more zeroSt (xk 54 (blkK k))
def farSt (k : List UInt8) : St := more zeroSt (xk 92 (blkK k))
def tag (k t : List UInt8) : List UInt8 := sum (xk 92 (blkK k) ++ sum (xk 54 (blkK k) ++ t))
theorem xk_length (m : UInt8) (b : List UInt8) : (xk m b).length = b.length := by simp [xk]
theorem cutK_length (k : List UInt8) : (cutK k).length ≤ 64 := by
  unfold cutK; split
  · rw [sum_length]; decide
  · omega
theorem blkK_length (k : List UInt8) : (blkK k).length = 64 := by
  have := cutK_length k
  rw [blkK, List.length_append, List.length_replicate]; omega
theorem tag_length (k t : List UInt8) : (tag k t).length = 32 := sum_length _
theorem near_ok (k : List UInt8) : (nearSt k).Ok := more_ok _ _ zeroSt_ok
theorem far_ok (k : List UInt8) : (farSt k).Ok := more_ok _ _ zeroSt_ok
theorem near_n (k : List UInt8) : (nearSt k).n = 64 := by rw [nearSt, more_n, xk_length, blkK_length]; rfl
theorem far_n (k : List UInt8) : (farSt k).n = 64 := by rw [farSt, more_n, xk_length, blkK_length]; rfl
theorem near_rep (k : List UInt8) : Rep (xk 54 (blkK k)) (nearSt k) := rep_more [] (xk 54 (blkK k)) _ rep_zero
theorem far_rep (k : List UInt8) : Rep (xk 92 (blkK k)) (farSt k) := rep_more [] (xk 92 (blkK k)) _ rep_zero
theorem near_key (k t : List UInt8) : key (more (nearSt k) t) = sum (xk 54 (blkK k) ++ t) := key_more _ _ _ (near_rep k)
theorem far_key (k t : List UInt8) : key (more (farSt k) (key (more (nearSt k) t))) = tag k t := by rw [near_key, key_more _ _ _ (far_rep k)]; rfl
/-- What masked has laid after j rounds. -/
def mpl (m : UInt8) (b : List UInt8) (j : Nat) : List UInt8 := xk m (b.take j) ++ b.drop j
theorem mpl_zero (m : UInt8) (b : List UInt8) : mpl m b 0 = b := by simp [mpl, xk]
theorem mpl_end (m : UInt8) (b : List UInt8) (h : b.length = 64) : mpl m b 64 = xk m b := by
  rw [mpl, List.take_of_length_le (by omega), List.drop_eq_nil_of_le (by omega), List.append_nil]
theorem mpl_length (m : UInt8) (b : List UInt8) (j : Nat) : (mpl m b j).length = b.length := by
  rw [mpl, List.length_append, xk_length, List.length_take, List.length_drop]; omega
theorem mpl_at (m : UInt8) (b : List UInt8) (j : Nat) (h : j < b.length) : (mpl m b j).getD j 0 = b.getD j 0 := by
  have hl : (xk m (b.take j)).length = j := by rw [xk_length, List.length_take]; omega
  rw [mpl, List.getD_eq_getElem?_getD, List.getElem?_append_right (by omega), hl, Nat.sub_self, List.getElem?_drop, Nat.add_zero, List.getD_eq_getElem?_getD]
theorem mpl_step (m : UInt8) (b : List UInt8) (j : Nat) (h : j < b.length) (x : UInt8) (hx : b.getD j 0 = x) : (mpl m b j).set j (x ^^^ m) = mpl m b (j + 1) := by
  have hl : (xk m (b.take j)).length = j := by rw [xk_length, List.length_take]; omega
  have hx2 : b[j] = x := by rw [← hx]; simp [h]
  rw [mpl, mpl, List.set_append_right _ _ (by omega), hl, Nat.sub_self, List.drop_eq_getElem_cons h, List.set_cons_zero, List.take_succ_eq_append_getElem h, hx2]
  simp [xk]
theorem xor8 (x m : UInt8) : bits .xor .u8 (x.toNat : Int) (m.toNat : Int) = ((x ^^^ m).toNat : Int) := by
  rw [u8_xor_nat _ _ x.toNat_lt m.toNat_lt, UInt8.toNat_xor]
/-- What 'copy' lays of a text of up to 64 bytes over 64 bytes 0. -/
theorem lay_key (k : List UInt8) (h : k.length ≤ 64) : (List.replicate 64 (0 : UInt8)).take 0 ++ k.take k.length ++ (List.replicate 64 (0 : UInt8)).drop (0 + k.length) = k ++ List.replicate (64 - k.length) 0 := by
  rw [List.take_zero, List.nil_append, List.take_length, Nat.zero_add, List.drop_replicate]
end Go.Proofs.YtdfpnicpcndkjaaDoor
