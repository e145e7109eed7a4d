/- A text turned into a slice of bytes, one byte changed, and turned back. -/
import Derived.Test.YtnhgmhomkghdaaaNamed
import Derived.Laws.BitsAllLaws
import Derived.Laws.IdiomStrings
namespace Go.Proofs.Ytnhgmhomkghdaaa
open Go.RowKit
set_option linter.unusedVariables false
theorem longer_le (a : ByteArray) (h : a.size ≤ 1024) : (a ++ (⟨#[0]⟩ : ByteArray)).size ≤ maxLen := by
  rw [ByteArray.size_append]; unfold maxLen
  have : (⟨#[0]⟩ : ByteArray).size = 1 := rfl
  omega
theorem longer_ne (a : ByteArray) : a ≠ a ++ (⟨#[0]⟩ : ByteArray) := by
  intro e
  have h := congrArg ByteArray.size e
  rw [ByteArray.size_append] at h
  have : (⟨#[0]⟩ : ByteArray).size = 1 := rfl
  omega
theorem conv_bytes (w : World) (s : ByteArray) : ∃ (W : World) (cap : Nat), (convert 9 41 (.string s)).run Try.prog w = .ok (.slice (some ⟨w.heap.size, 0, none⟩) s.size cap) W ∧
    (∀ j (h : j < s.size), W.cell? ⟨w.heap.size, j, none⟩ = some (.int .u8 (s[j].toNat : Int))) ∧ (∀ j, j < s.size → W.frozen? ⟨w.heap.size, j, none⟩ = false) ∧ Below w.heap.size w W ∧ w.heap.size < W.heap.size := by
  have hg : (w.drew.alloc (.cells (bytesRow s (grownCap w s.size 0 5)) 5 ((bytesRow s (grownCap w s.size 0 5)).size, (bytesRow s (grownCap w s.size 0 5)).size + 1))).heap[w.heap.size]? = some (.cells (bytesRow s (grownCap w s.size 0 5)) 5 ((bytesRow s (grownCap w s.size 0 5)).size, (bytesRow s (grownCap w s.size 0 5)).size + 1)) := heap_alloc_new w.drew _
  refine ⟨_, _, run_bytes_of_string w 9 41 5 s Try.underlying9 Try.underlying41 Try.underlying5, ?_, ?_, ((Below.refl _ _).drew).alloc (Nat.le_refl _) _, ?_⟩
  · intro j h
    rw [cell_of_row _ _ _ _ _ _ hg]
    unfold bytesRow
    have h' : j < s.data.size := h
    rw [Array.getElem?_append_left (by simpa using h')]
    rw [Array.getElem?_map, Array.getElem?_eq_getElem h']
    rfl
  · intro j h
    have : s.size ≤ (bytesRow s (grownCap w s.size 0 5)).size := by
      unfold bytesRow; simp
    simp only [World.frozen?, hg]
    simp; omega
  · show w.heap.size < (w.heap.push _).size
    simp
theorem turned (x : UInt8) : ∃ v : UInt8, bits .xor .u8 (x.toNat : Int) 1 = (v.toNat : Int) ∧ v ≠ x := by
  have hx := x.toNat_lt
  have h := u8_xor_nat x.toNat 1 hx (by decide)
  have h1 : x.toNat ^^^ 1 < 2 ^ 8 := Nat.xor_lt_two_pow hx (by decide)
  refine ⟨UInt8.ofNat (x.toNat ^^^ 1), ?_, ?_⟩
  · rw [UInt8.toNat_ofNat', Nat.mod_eq_of_lt h1]; exact h
  · intro e
    have e2 := congrArg UInt8.toNat e
    rw [UInt8.toNat_ofNat', Nat.mod_eq_of_lt h1] at e2
    have e3 : x.toNat ^^^ (x.toNat ^^^ 1) = x.toNat ^^^ x.toNat := by rw [e2]
    rw [← Nat.xor_assoc, Nat.xor_self, Nat.zero_xor] at e3
    exact absurd e3 (by decide)
theorem conv_back (W : World) (B cap : Nat) (s : ByteArray) (hcell : ∀ j (h : j < s.size), W.cell? ⟨B, j, none⟩ = some (.int .u8 (s[j].toNat : Int))) (j : Nat) (hj : j < s.size) (v : UInt8) (hne : v ≠ s[j]) :
    ∃ c : ByteArray, (convert 41 9 (.slice (some ⟨B, 0, none⟩) s.size cap)).run Try.prog (W.setCell ⟨B, j, none⟩ (.int .u8 (v.toNat : Int))) = .ok (.string c) (W.setCell ⟨B, j, none⟩ (.int .u8 (v.toNat : Int))) ∧ s ≠ c ∧ c.size = s.size := by
  have hlen : (s.data.toList.set j v).length = s.size := by rw [List.length_set]; exact (Lib.size_eq s).symm
  refine ⟨⟨(s.data.toList.set j v).toArray⟩, ?_, ?_, ?_⟩
  · rw [← hlen]
    refine run_convert_bytes_back _ 41 9 5 _ cap _ Try.underlying41 Try.underlying5 Try.underlying9 (fun i hi => ?_)
    have e : (⟨B, 0, none⟩ : Addr).add i = ⟨B, i, none⟩ := by unfold Addr.add; split <;> simp_all
    rw [e, List.getElem_set]
    rw [hlen] at hi
    by_cases h : j = i
    · subst h
      rw [World.cell?_setCell_same' _ _ _ (by rw [hcell j hj]; rfl), if_pos rfl]
    · rw [World.cell?_setCell_other W _ _ _ (by intro h2; exact h (congrArg Addr.off h2)), if_neg h, hcell i hi]
      rfl
  · intro e
    have e2 := congrArg (fun x => x.data.toList[j]?) e
    simp only [List.getElem?_set_self'] at e2
    have h' : j < s.data.toList.length := by rw [← Lib.size_eq]; exact hj
    rw [List.getElem?_eq_getElem h'] at e2
    simp at e2
    exact hne e2.symm
  · rw [Lib.size_eq]; exact hlen
end Go.Proofs.Ytnhgmhomkghdaaa
