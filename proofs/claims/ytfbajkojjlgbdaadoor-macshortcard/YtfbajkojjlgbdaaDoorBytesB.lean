/- A text turned into a slice of bytes, one byte changed, and turned back. -/
import Derived.Test.YtfbajkojjlgbdaaDoorMacW5
import Derived.Laws.BitsAllLaws
import Derived.Laws.IdiomStrings
namespace Go.Proofs.YtfbajkojjlgbdaaDoor
open Go.RowKit
set_option linter.unusedVariables false
theorem conv_bytes (w : World) (s : ByteArray) : ∃ (W : World) (cap : Nat), (convert 9 36 (.string s)).run Tryd.prog w = .ok (.slice (some ⟨w.heap.size, 0, none⟩) s.size cap) W ∧
    (∀ j (h : j < s.size), W.cell? ⟨w.heap.size, j, none⟩ = some (.int .u8 (s[j].toNat : Int))) ∧ (∀ j, j < s.size → W.frozen? ⟨w.heap.size, j, none⟩ = false) ∧ Below w.heap.size w W ∧ w.heap.size < W.heap.size := by
  have hg : (w.drew.alloc (.cells (bytesRow s (grownCap w s.size 0 5)) 5 ((bytesRow s (grownCap w s.size 0 5)).size, (bytesRow s (grownCap w s.size 0 5)).size + 1))).heap[w.heap.size]? = some (.cells (bytesRow s (grownCap w s.size 0 5)) 5 ((bytesRow s (grownCap w s.size 0 5)).size, (bytesRow s (grownCap w s.size 0 5)).size + 1)) := heap_alloc_new w.drew _
  refine ⟨_, _, run_bytes_of_string w 9 36 5 s Tryd.underlying9 Tryd.underlying36 Tryd.underlying5, ?_, ?_, ((Below.refl _ _).drew).alloc (Nat.le_refl _) _, ?_⟩
  · intro j h
    rw [cell_of_row _ _ _ _ _ _ hg]
    unfold bytesRow
    have h' : j < s.data.size := h
    rw [Array.getElem?_append_left (by simpa using h')]
    rw [Array.getElem?_map, Array.getElem?_eq_getElem h']
    rfl
  · intro j h
    have : s.size ≤ (bytesRow s (grownCap w s.size 0 5)).size := by
      unfold bytesRow; simp
    simp only [World.frozen?, hg]
    simp; omega
  · show w.heap.size < (w.heap.push _).size
    simp
theorem conv_back (W : World) (B cap : Nat) (s : ByteArray) (hcell : ∀ j (h : j < s.size), W.cell? ⟨B, j, none⟩ = some (.int .u8 (s[j].toNat : Int))) (j : Nat) (hj : j < s.size) (v : UInt8) (hne : v ≠ s[j]) :
    ∃ c : ByteArray, (convert 36 9 (.slice (some ⟨B, 0, none⟩) s.size cap)).run Tryd.prog (W.setCell ⟨B, j, none⟩ (.int .u8 (v.toNat : Int))) = .ok (.string c) (W.setCell ⟨B, j, none⟩ (.int .u8 (v.toNat : Int))) ∧ s ≠ c ∧ c.size = s.size := by
  have hlen : (s.data.toList.set j v).length = s.size := by rw [List.length_set]; exact (Lib.size_eq s).symm
  refine ⟨⟨(s.data.toList.set j v).toArray⟩, ?_, ?_, ?_⟩
  · rw [← hlen]
    refine run_convert_bytes_back _ 36 9 5 _ cap _ Tryd.underlying36 Tryd.underlying5 Tryd.underlying9 (fun i hi => ?_)
    have e : (⟨B, 0, none⟩ : Addr).add i = ⟨B, i, none⟩ := by unfold Addr.add; split <;> simp_all
    rw [e, List.getElem_set]
    rw [hlen] at hi
    by_cases h : j = i
    · subst h
      rw [World.cell?_setCell_same' _ _ _ (by rw [hcell j hj]; rfl), if_pos rfl]
    · rw [World.cell?_setCell_other W _ _ _ (by intro h2; exact h (congrArg Addr.off h2)), if_neg h, hcell i hi]
      rfl
  · intro e
    have e2 := congrArg (fun x => x.data.toList[j]?) e
    simp only [List.getElem?_set_self'] at e2
    have h' : j < s.data.toList.length := by rw [← Lib.size_eq]; exact hj
    rw [List.getElem?_eq_getElem h'] at e2
    simp at e2
    exact hne e2.symm
  · rw [Lib.size_eq]; exact hlen

theorem xor_ne (x c : UInt8) (hc : c.toNat ≠ 0) : x ^^^ c ≠ x := by
  intro e
  have e2 := congrArg UInt8.toNat e
  rw [UInt8.toNat_xor] at e2
  have e3 : x.toNat ^^^ (x.toNat ^^^ c.toNat) = x.toNat ^^^ x.toNat := by rw [e2]
  rw [← Nat.xor_assoc, Nat.xor_self, Nat.zero_xor] at e3
  exact hc e3
theorem not_empty8 (s : ByteArray) (h : 0 < s.size) : s.toList.isEmpty = false := by
  rw [Lib.toList_data]
  cases hl : s.data.toList with
  | nil => rw [Lib.size_eq, hl] at h; exact absurd h (by decide)
  | cons _ _ => rfl
theorem is_empty8 (s : ByteArray) (h : s.size = 0) : s.toList.isEmpty = true := by
  rw [List.isEmpty_iff, Lib.toList_data]; apply List.eq_nil_of_length_eq_zero; rw [← Lib.size_eq]; exact h
end Go.Proofs.YtfbajkojjlgbdaaDoor
