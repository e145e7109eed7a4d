/- What taking and believing do, step by step, and what bounds they keep: no program. -/
import Derived.Test.YtcclcemdodoiiaaGreatDoorQRcMath
namespace Go.Proofs.YtcclcemdodoiiaaGreatDoor
set_option maxRecDepth 10000
open Go Go.RowKit
set_option linter.unusedVariables false
theorem tkF_snoc (k : Ky) (i : Int) (B : List Thg) (cs : List ByteArray) (c : ByteArray) (r : List Thg × Int) : tkF k i B (cs ++ [c]) r = tkS k i B (tkF k i B cs r) c := by simp [tkF]
theorem tkF_cons (k : Ky) (i : Int) (B : List Thg) (cs : List ByteArray) (c : ByteArray) (r : List Thg × Int) : tkF k i B (c :: cs) r = tkF k i B cs (tkS k i B r c) := rfl
theorem tkS_wrong {k : Ky} {i : Int} {B : List Thg} {r : List Thg × Int} {c : ByteArray} (h : ¬ hd16 c = tgs k i (tl16 c)) : tkS k i B r c = (r.1, r.2 + 1) := by unfold tkS; rw [if_neg h]
theorem tkS_twice {k : Ky} {i : Int} {B : List Thg} {r : List Thg × Int} {c : ByteArray} (h : hd16 c = tgs k i (tl16 c)) (h2 : hasT i (tl16 c) (B ++ r.1) = true) : tkS k i B r c = r := by unfold tkS; rw [if_pos h, if_pos h2]
theorem tkS_new {k : Ky} {i : Int} {B : List Thg} {r : List Thg × Int} {c : ByteArray} (h : hd16 c = tgs k i (tl16 c)) (h2 : hasT i (tl16 c) (B ++ r.1) = false) : tkS k i B r c = (r.1 ++ [(i, tl16 c)], r.2) := by unfold tkS; rw [if_pos h, h2]; rfl
theorem tkS_cases (k : Ky) (i : Int) (B : List Thg) (r : List Thg × Int) (c : ByteArray) : tkS k i B r c = (r.1, r.2 + 1) ∨ tkS k i B r c = r ∨ (hd16 c = tgs k i (tl16 c) ∧ hasT i (tl16 c) (B ++ r.1) = false ∧ tkS k i B r c = (r.1 ++ [(i, tl16 c)], r.2)) := by
  by_cases h : hd16 c = tgs k i (tl16 c)
  · cases h2 : hasT i (tl16 c) (B ++ r.1) with
    | true => exact .inr (.inl (tkS_twice h h2))
    | false => exact .inr (.inr ⟨h, rfl, tkS_new h h2⟩)
  · exact .inl (tkS_wrong h)
/-- Told is believed besides what is believed. -/
theorem tkF_shift (k : Ky) (i : Int) (B : List Thg) : ∀ (cs : List ByteArray) (t u : List Thg) (w : Int), tkF k i B cs (t ++ u, w) = (t ++ (tkF k i (B ++ t) cs (u, w)).1, (tkF k i (B ++ t) cs (u, w)).2)
  | [], t, u, w => rfl
  | c :: cs, t, u, w => by
    rw [tkF_cons, tkF_cons]
    by_cases h : hd16 c = tgs k i (tl16 c)
    · cases h2 : hasT i (tl16 c) (B ++ (t ++ u)) with
      | true =>
        rw [tkS_twice h h2, tkS_twice h (by show hasT i _ (B ++ t ++ u) = true; rw [List.append_assoc]; exact h2)]
        exact tkF_shift k i B cs t u w
      | false =>
        rw [tkS_new h h2, tkS_new h (by show hasT i _ (B ++ t ++ u) = false; rw [List.append_assoc]; exact h2)]
        show tkF k i B cs (t ++ u ++ [(i, tl16 c)], w) = _
        rw [List.append_assoc]
        exact tkF_shift k i B cs t (u ++ [(i, tl16 c)]) w
    · rw [tkS_wrong h, tkS_wrong h]
      exact tkF_shift k i B cs t u (w + 1)
theorem tkF_bd (k : Ky) (i : Int) (B : List Thg) : ∀ (cs : List ByteArray) (r : List Thg × Int), (tkF k i B cs r).1.length ≤ r.1.length + cs.length ∧ r.2 ≤ (tkF k i B cs r).2 ∧ (tkF k i B cs r).2 ≤ r.2 + cs.length ∧ r.1.length ≤ (tkF k i B cs r).1.length
  | [], r => ⟨Nat.le_refl _, Int.le_refl _, by simp [tkF], Nat.le_refl _⟩
  | c :: cs, r => by
    have ih := tkF_bd k i B cs (tkS k i B r c)
    rw [tkF_cons, List.length_cons]
    rcases tkS_cases k i B r c with e | e | ⟨_, _, e⟩ <;> rw [e] at ih ⊢
    · obtain ⟨h1, h2, h3, h4⟩ := ih
      exact ⟨by dsimp only at h1 ⊢; omega, by dsimp only at h2 ⊢; omega, by dsimp only at h3 ⊢; omega, by dsimp only at h4 ⊢; omega⟩
    · obtain ⟨h1, h2, h3, h4⟩ := ih
      exact ⟨by omega, by omega, by omega, by omega⟩
    · obtain ⟨h1, h2, h3, h4⟩ := ih
      simp only [List.length_append, List.length_singleton] at h1 h2 h3 h4 ⊢
      exact ⟨by omega, by omega, by omega, by omega⟩
theorem blF_snoc (k : Ky) (n : Int) (B : List Thg) (is : List Int) (i : Int) (r : (List Thg × Int) × List Thg) : blF k n B (is ++ [i]) r = blS k n B (blF k n B is r) i := by simp [blF]
theorem blF_cons (k : Ky) (n : Int) (B : List Thg) (is : List Int) (i : Int) (r : (List Thg × Int) × List Thg) : blF k n B (i :: is) r = blF k n B is (blS k n B r i) := rfl
theorem blS_lo {k : Ky} {n : Int} {B : List Thg} {r : (List Thg × Int) × List Thg} {i : Int} (h : i ≤ n) : blS k n B r i = ((r.1.1 ++ (tkF (wl (n - i).toNat k) i (B ++ r.1.1) (ofI i r.2) ([], r.1.2)).1, (tkF (wl (n - i).toNat k) i (B ++ r.1.1) (ofI i r.2) ([], r.1.2)).2), notI i r.2) := by
  unfold blS
  rw [if_pos h]
  have e := tkF_shift (wl (n - i).toNat k) i B (ofI i r.2) r.1.1 [] r.1.2
  rw [List.append_nil] at e
  rw [← e]
theorem blS_hi {k : Ky} {n : Int} {B : List Thg} {r : (List Thg × Int) × List Thg} {i : Int} (h : ¬ i ≤ n) : blS k n B r i = r := by unfold blS; rw [if_neg h]
/-- What is told, wrong, and waits still: no more than waited. -/
theorem blF_bd (k : Ky) (n : Int) (B : List Thg) : ∀ (is : List Int) (r : (List Thg × Int) × List Thg), (blF k n B is r).1.1.length + (blF k n B is r).2.length ≤ r.1.1.length + r.2.length ∧ r.1.2 ≤ (blF k n B is r).1.2 ∧ (blF k n B is r).1.2 + (blF k n B is r).2.length ≤ r.1.2 + r.2.length ∧ ∀ t ∈ (blF k n B is r).2, t ∈ r.2
  | [], r => ⟨Nat.le_refl _, Int.le_refl _, Int.le_refl _, fun t h => h⟩
  | i :: is, r => by
    have ih := blF_bd k n B is (blS k n B r i)
    rw [blF_cons]
    by_cases h : i ≤ n
    · have h3 := tkF_bd (wl (n - i).toNat k) i (B ++ r.1.1) (ofI i r.2) ([], r.1.2)
      have h4 := notI_length i r.2
      have e1 : (blS k n B r i).1.1.length = r.1.1.length + (tkF (wl (n - i).toNat k) i (B ++ r.1.1) (ofI i r.2) ([], r.1.2)).1.length := by rw [blS_lo h]; simp
      have e2 : (blS k n B r i).1.2 = (tkF (wl (n - i).toNat k) i (B ++ r.1.1) (ofI i r.2) ([], r.1.2)).2 := by rw [blS_lo h]
      have e3 : (blS k n B r i).2 = notI i r.2 := by rw [blS_lo h]
      simp only [e1, e2, e3, List.length_nil] at ih h3
      obtain ⟨a1, a2, a3, a4⟩ := ih
      obtain ⟨b1, b2, b3, b4⟩ := h3
      refine ⟨by omega, by omega, by omega, fun t ht => ?_⟩
      have := a4 t ht
      unfold notI at this
      exact (List.mem_filter.1 this).1
    · rw [blS_hi h] at ih ⊢
      exact ih
end Go.Proofs.YtcclcemdodoiiaaGreatDoor
