/- Memory as a list of parts, each with blocks of its own: what one operation or one call turns leaves all other parts as they were. Over any program. -/
import Derived.Test.YtpkjocibgmjhdaaBlk
namespace Go.Proofs.Ytpkjocibgmjhdaa
open Go Go.RowKit
set_option linter.unusedVariables false
/-- A part of memory: which blocks are its own, and what they hold. -/
structure HP where
  P : (Nat → Prop) → World → Prop
  loc : ∀ F w w', P F w → (∀ k, F k → w'.heap[k]? = w.heap[k]?) → P F w'
  lt : ∀ F w, P F w → ∀ k, F k → k < w.heap.size
/-- One block. -/
def blk (b : Nat) (cs : List Value) (t : TypeId) : HP where
  P F w := (∀ k, F k ↔ k = b) ∧ Blk w b cs t
  loc F w w' h hk := ⟨h.1, by have e := hk b ((h.1 b).2 rfl); have h2 := h.2; unfold Blk at *; rw [e]; exact h2⟩
  lt F w h k hk := by obtain rfl := (h.1 k).1 hk; exact h.2.lt
/-- No block, but what holds. -/
def pu (p : Prop) : HP where
  P F w := (∀ k, ¬ F k) ∧ p
  loc F w w' h _ := h
  lt F w h k hk := absurd hk (h.1 k)
/-- All parts of a list, no two of which share a block. -/
def Star : List HP → (Nat → Prop) → World → Prop
  | [], F, _ => ∀ k, ¬ F k
  | A :: L, F, w => ∃ F1 F2, A.P F1 w ∧ Star L F2 w ∧ (∀ k, F k ↔ F1 k ∨ F2 k) ∧ ∀ k, F1 k → ¬ F2 k
theorem Star.loc : ∀ {L : List HP} {F : Nat → Prop} {w w' : World}, Star L F w → (∀ k, F k → w'.heap[k]? = w.heap[k]?) → Star L F w'
  | [], _, _, _, h, _ => h
  | A :: L, F, w, w', ⟨F1, F2, h1, h2, h3, h4⟩, hk =>
    ⟨F1, F2, A.loc F1 w w' h1 (fun k x => hk k ((h3 k).2 (.inl x))), h2.loc (fun k x => hk k ((h3 k).2 (.inr x))), h3, h4⟩
theorem Star.lt : ∀ {L : List HP} {F : Nat → Prop} {w : World}, Star L F w → ∀ k, F k → k < w.heap.size
  | [], _, _, h, k, hk => absurd hk (h k)
  | A :: L, F, w, ⟨F1, F2, h1, h2, h3, h4⟩, k, hk => by
    rcases (h3 k).1 hk with h | h
    · exact A.lt F1 w h1 k h
    · exact h2.lt k h
/-- A part that is there for some x. -/
def ex {α : Type} (f : α → List HP) : HP where
  P F w := ∃ x, Star (f x) F w
  loc F w w' h hk := by obtain ⟨x, h⟩ := h; exact ⟨x, h.loc hk⟩
  lt F w h k hk := by obtain ⟨x, h⟩ := h; exact h.lt k hk
theorem Star.swap {A B : HP} {L : List HP} {F : Nat → Prop} {w : World} (h : Star (A :: B :: L) F w) : Star (B :: A :: L) F w := by
  obtain ⟨F1, F2, h1, ⟨F3, F4, h2, h3, h4, h5⟩, h6, h7⟩ := h
  refine ⟨F3, fun k => F1 k ∨ F4 k, h2, ⟨F1, F4, h1, h3, fun k => Iff.rfl, fun k a b => h7 k a ((h4 k).2 (.inr b))⟩, fun k => ?_, fun k a b => ?_⟩
  · rw [h6 k, h4 k]
    constructor
    · rintro (h | h | h)
      · exact .inr (.inl h)
      · exact .inl h
      · exact .inr (.inr h)
    · rintro (h | h | h)
      · exact .inr (.inl h)
      · exact .inl h
      · exact .inr (.inr h)
  · rcases b with b | b
    · exact h7 k b ((h4 k).2 (.inl a))
    · exact h5 k a b
theorem Star.up {A : HP} : ∀ {L : List HP} {i : Nat} {F : Nat → Prop} {w : World}, L[i]? = some A → Star L F w → Star (A :: L.eraseIdx i) F w
  | [], _, _, _, hi, _ => by simp at hi
  | B :: L, 0, F, w, hi, h => by
    obtain rfl : B = A := by simpa using hi
    exact h
  | B :: L, i + 1, F, w, hi, h => by
    obtain ⟨F1, F2, h1, h2, h3, h4⟩ := h
    exact Star.swap ⟨F1, F2, h1, Star.up (by simpa using hi) h2, h3, h4⟩
theorem Star.down {A : HP} : ∀ {L : List HP} {i : Nat} {F : Nat → Prop} {w : World}, L[i]? = some A → Star (A :: L.eraseIdx i) F w → Star L F w
  | [], _, _, _, hi, _ => by simp at hi
  | B :: L, 0, F, w, hi, h => by
    obtain rfl : B = A := by simpa using hi
    exact h
  | B :: L, i + 1, F, w, hi, h => by
    obtain ⟨F1, F2, h1, h2, h3, h4⟩ := Star.swap h
    exact ⟨F1, F2, h1, Star.down (by simpa using hi) h2, h3, h4⟩
theorem star_append : ∀ {L M : List HP} {F : Nat → Prop} {w : World}, Star (L ++ M) F w ↔ ∃ F1 F2, Star L F1 w ∧ Star M F2 w ∧ (∀ k, F k ↔ F1 k ∨ F2 k) ∧ ∀ k, F1 k → ¬ F2 k
  | [], M, F, w => by
    constructor
    · intro h
      exact ⟨fun _ => False, F, fun _ h => h, h, fun k => ⟨.inr, fun h => h.elim (fun h => h.elim) id⟩, fun _ h => h.elim⟩
    · rintro ⟨F1, F2, h1, h2, h3, h4⟩
      have e : F = F2 := by
        funext k
        exact propext ⟨fun h => ((h3 k).1 h).elim (fun h => absurd h (h1 k)) id, fun h => (h3 k).2 (.inr h)⟩
      rw [e]; exact h2
  | A :: L, M, F, w => by
    constructor
    · rintro ⟨F1, F2, h1, h2, h3, h4⟩
      obtain ⟨F3, F4, h5, h6, h7, h8⟩ := star_append.1 h2
      refine ⟨fun k => F1 k ∨ F3 k, F4, ⟨F1, F3, h1, h5, fun k => Iff.rfl, fun k a b => h4 k a ((h7 k).2 (.inl b))⟩, h6, fun k => ?_, fun k a b => ?_⟩
      · rw [h3 k, h7 k, or_assoc]
      · rcases a with a | a
        · exact h4 k a ((h7 k).2 (.inr b))
        · exact h8 k a b
    · rintro ⟨F1, F2, ⟨F3, F4, h1, h2, h3, h4⟩, h5, h6, h7⟩
      refine ⟨F3, fun k => F4 k ∨ F2 k, h1, star_append.2 ⟨F4, F2, h2, h5, fun k => Iff.rfl, fun k a b => h7 k ((h3 k).2 (.inr a)) b⟩, fun k => ?_, fun k a b => ?_⟩
      · rw [h6 k, h3 k, or_assoc]
      · rcases b with b | b
        · exact h4 k a b
        · exact h7 k ((h3 k).2 (.inl a)) b
/-- The world w behind w0: what was there is as it was, and the parts of L are new. -/
structure Ms (w0 w : World) (L : List HP) : Prop where
  below : Below w0.heap.size w0 w
  mem : ∃ F, Star L F w ∧ ∀ k, F k → w0.heap.size ≤ k
namespace Ms
variable {w0 w w' : World} {L R : List HP} {A : HP}
theorem refl (w : World) : Ms w w [] := ⟨Below.refl _ _, fun _ => False, fun _ h => h, fun _ h => h.elim⟩
theorem get (h : Ms w0 w L) {b : Nat} {cs : List Value} {t : TypeId} (i : Nat) (hi : L[i]? = some (blk b cs t)) : Blk w b cs t := by
  obtain ⟨F, h1, _⟩ := h.mem
  obtain ⟨_, _, h2, _⟩ := h1.up hi
  exact h2.2
theorem lt (h : Ms w0 w L) {b : Nat} {cs : List Value} {t : TypeId} (i : Nat) (hi : L[i]? = some (blk b cs t)) : b < w.heap.size := (h.get i hi).lt
theorem up (h : Ms w0 w L) (i : Nat) (hi : L[i]? = some A) : Ms w0 w (A :: L.eraseIdx i) := by
  obtain ⟨F, h1, h2⟩ := h.mem
  exact ⟨h.below, F, h1.up hi, h2⟩
theorem down (i : Nat) (hi : L[i]? = some A) (h : Ms w0 w (A :: L.eraseIdx i)) : Ms w0 w L := by
  obtain ⟨F, h1, h2⟩ := h.mem
  exact ⟨h.below, F, Star.down hi h1, h2⟩
theorem tail (h : Ms w0 w (A :: L)) : Ms w0 w L := by
  obtain ⟨F, ⟨F1, F2, _, h1, h2, _⟩, h3⟩ := h.mem
  exact ⟨h.below, F2, h1, fun k hk => h3 k ((h2 k).2 (.inr hk))⟩
theorem erase (h : Ms w0 w L) (i : Nat) : Ms w0 w (L.eraseIdx i) := by
  cases hi : L[i]? with
  | none =>
    have e : L.eraseIdx i = L := List.eraseIdx_of_length_le (List.getElem?_eq_none_iff.1 hi)
    rw [e]; exact h
  | some A => exact (h.up i hi).tail
/-- What is not in the parts of L. -/
theorem call (h : Ms w0 w L) (hb : Below w.heap.size w w') : Ms w0 w' L := by
  obtain ⟨F, h1, h2⟩ := h.mem
  exact ⟨h.below.trans (hb.mono h.below.size), F, h1.loc (fun k hk => hb.block k (h1.lt k hk)), h2⟩
theorem drew (h : Ms w0 w L) : Ms w0 w.drew L := h.call (Below.refl _ _).drew
theorem fresh (h : Ms w0 w L) {p : Nat} {cs : List Value} {t : TypeId} (hb : Below w.heap.size w w') (hp : w.heap.size ≤ p) (hc : Blk w' p cs t) : Ms w0 w' (blk p cs t :: L) := by
  obtain ⟨F, h1, h2⟩ := h.mem
  refine ⟨h.below.trans (hb.mono h.below.size), fun k => k = p ∨ F k, ⟨fun k => k = p, F, ⟨fun k => Iff.rfl, hc⟩, h1.loc (fun k hk => hb.block k (h1.lt k hk)), fun k => Iff.rfl, ?_⟩, ?_⟩
  · rintro k rfl hk
    exact absurd (h1.lt k hk) (by omega)
  · rintro k (rfl | hk)
    · exact Nat.le_trans h.below.size hp
    · exact h2 k hk
theorem new (h : Ms w0 w L) {cs : List Value} {t : TypeId} (ht : Turn w.heap.size w w') (hc : Blk w' w.heap.size cs t) : Ms w0 w' (blk w.heap.size cs t :: L) :=
  h.fresh (ht.below (Below.refl _ _) (Nat.le_refl _)) (Nat.le_refl _) hc
/-- The first part is turned as the blocks k of its own are. -/
theorem turnF {F1 F1' F2 : Nat → Prop} (hb : Below w0.heap.size w0 w) (h2 : Star L F2 w) (hd : ∀ k, F1 k → ¬ F2 k) (h3 : ∀ k, F1 k → w0.heap.size ≤ k) (h4 : ∀ k, F2 k → w0.heap.size ≤ k)
    (hos : w'.os = w.os) (htp : w'.tape = w.tape) (hou : w'.output = w.output) (hsz : w.heap.size ≤ w'.heap.size) (hk : ∀ k, k < w.heap.size → ¬ F1 k → w'.heap[k]? = w.heap[k]?)
    (hA : A.P F1' w') (hF : ∀ k, F1' k → F1 k ∨ w.heap.size ≤ k) : Ms w0 w' (A :: L) := by
  have hs := hb.size
  refine ⟨hb.trans ⟨hos, htp, hou, hsz, fun k hk' => hk k (by omega) (fun h => absurd (h3 k h) (by omega))⟩, fun k => F1' k ∨ F2 k, ⟨F1', F2, hA, h2.loc (fun k h => hk k (h2.lt k h) (fun h' => hd k h' h)), fun k => Iff.rfl, ?_⟩, ?_⟩
  · intro k h h'
    rcases hF k h with h | h
    · exact hd k h h'
    · exact absurd (h2.lt k h') (by omega)
  · rintro k (h | h)
    · rcases hF k h with h | h
      · exact h3 k h
      · omega
    · exact h4 k h
theorem turn {b : Nat} {cs : List Value} {t : TypeId} (h : Ms w0 w (blk b cs t :: L)) {cs' : List Value} {t' : TypeId} (ht : Turn b w w') (hc : Blk w' b cs' t') : Ms w0 w' (blk b cs' t' :: L) := by
  obtain ⟨F, ⟨F1, F2, h1, h2, h3, h4⟩, h5⟩ := h.mem
  exact turnF h.below h2 h4 (fun k hk => h5 k ((h3 k).2 (.inl hk))) (fun k hk => h5 k ((h3 k).2 (.inr hk))) ht.os ht.tape ht.output ht.size (fun k _ hk => ht.block k (fun e => hk ((h1.1 k).2 e))) (A := blk b cs' t') (F1' := F1) ⟨h1.1, hc⟩ (fun k h => .inl h)
theorem put (h : Ms w0 w L) {b : Nat} {cs cs' : List Value} {t t' : TypeId} (i : Nat) (hi : L[i]? = some (blk b cs t)) (ht : Turn b w w') (hc : Blk w' b cs' t') : Ms w0 w' (L.set i (blk b cs' t')) := by
  have h1 := (h.up i hi).turn ht hc
  have hl : i < L.length := (List.getElem?_eq_some_iff.1 hi).1
  refine down i (A := blk b cs' t') (by rw [List.getElem?_set_self hl]) ?_
  rw [List.eraseIdx_set_eq]
  exact h1
theorem opn {α : Type} {f : α → List HP} (h : Ms w0 w (ex f :: L)) : ∃ x, Ms w0 w (f x ++ L) := by
  obtain ⟨F, ⟨F1, F2, ⟨x, h1⟩, h2, h3, h4⟩, h5⟩ := h.mem
  exact ⟨x, h.below, F, star_append.2 ⟨F1, F2, h1, h2, h3, h4⟩, h5⟩
theorem shut {α : Type} {f : α → List HP} (x : α) (h : Ms w0 w (f x ++ L)) : Ms w0 w (ex f :: L) := by
  obtain ⟨F, h1, h5⟩ := h.mem
  obtain ⟨F1, F2, h1, h2, h3, h4⟩ := star_append.1 h1
  exact ⟨h.below, F, ⟨F1, F2, ⟨x, h1⟩, h2, h3, h4⟩, h5⟩
theorem unpu {p : Prop} (h : Ms w0 w (pu p :: L)) : p ∧ Ms w0 w L := by
  obtain ⟨F, ⟨F1, F2, h1, h2, h3, h4⟩, h5⟩ := h.mem
  exact ⟨h1.2, h.tail⟩
theorem mkpu {p : Prop} (hp : p) (h : Ms w0 w L) : Ms w0 w (pu p :: L) := by
  obtain ⟨F, h1, h2⟩ := h.mem
  exact ⟨h.below, F, ⟨fun _ => False, F, ⟨fun _ h => h, hp⟩, h1, fun k => ⟨.inr, fun h => h.elim (fun h => h.elim) id⟩, fun _ h => h.elim⟩, h2⟩
end Ms
end Go.Proofs.Ytpkjocibgmjhdaa
