/- Walkers of a chain as plain data: which keys are minded, and how many; no program. -/
import Derived.Test.YtphocklnhoakcaaDoorChMath
namespace Go.Proofs.YtphocklnhoakcaaDoor
open Go Go.RowKit
set_option linter.unusedVariables false
/-- How many keys may be minded. -/
def mo (n : Nat) : Nat := Nat.log2 n + 3
/-- Each one that is minded lies half as far from a as the one ahead of it, at most. -/
def Hv (a : Nat) : List Nat → Prop
  | [] => True
  | [p] => a ≤ p
  | p :: q :: r => q < p ∧ 2 * (q - a) ≤ p - a ∧ Hv a (q :: r)
theorem Hv.tail {a p : Nat} {r : List Nat} (h : Hv a (p :: r)) : Hv a r := by
  cases r with
  | nil => trivial
  | cons q r => exact h.2.2
theorem Hv.ge {a : Nat} : ∀ {l : List Nat}, Hv a l → ∀ p ∈ l, a ≤ p
  | [], _, p, hp => by cases hp
  | [x], h, p, hp => by obtain rfl := List.mem_singleton.1 hp; exact h
  | x :: y :: r, h, p, hp => by
    have ih := h.2.2.ge
    rcases List.mem_cons.1 hp with rfl | hp
    · have := ih y (by simp); have := h.1; omega
    · exact ih p hp
theorem Hv.le {a : Nat} : ∀ {p : Nat} {r : List Nat}, Hv a (p :: r) → ∀ q ∈ r, q < p
  | p, [], _, q, hq => by cases hq
  | p, x :: r, h, q, hq => by
    rcases List.mem_cons.1 hq with rfl | hq
    · exact h.1
    · have := h.2.2.le q hq; have := h.1; omega
theorem Hv.mono {a b : Nat} (hab : a ≤ b) : ∀ {l : List Nat}, Hv a l → (∀ p ∈ l, b ≤ p) → Hv b l
  | [], _, _ => trivial
  | [x], _, h => h x (by simp)
  | x :: y :: r, h, hb => by
    refine ⟨h.1, ?_, h.2.2.mono hab (fun p hp => hb p (List.mem_cons_of_mem _ hp))⟩
    have h1 := h.2.1
    have h2 := hb x (by simp)
    have h3 := hb y (by simp)
    omega
theorem Hv.take {a : Nat} : ∀ {l : List Nat} (c : Nat), Hv a l → Hv a (l.take c)
  | [], c, _ => by simp [Hv]
  | _, 0, _ => by simp [Hv]
  | [x], c + 1, h => by simpa using h
  | x :: y :: r, 1, h => by
    have := h.ge x (by simp)
    simpa [Hv] using this
  | x :: y :: r, c + 2, h => by
    have := Hv.take (c + 1) h.2.2
    rw [List.take_succ_cons] at this
    rw [List.take_succ_cons, List.take_succ_cons]
    exact ⟨h.1, h.2.1, this⟩
theorem Hv.snoc {a : Nat} : ∀ {l : List Nat} {p q : Nat}, Hv a l → l.getLast? = some p → q < p → 2 * (q - a) ≤ p - a → a ≤ q → Hv a (l ++ [q])
  | [], _, _, _, hl, _, _, _ => by cases hl
  | [x], p, q, _, hl, h1, h2, h3 => by
    obtain rfl : x = p := by simpa using hl
    exact ⟨h1, h2, h3⟩
  | x :: y :: r, p, q, h, hl, h1, h2, h3 => ⟨h.1, h.2.1, h.2.2.snoc (by rw [List.getLast?_cons_cons] at hl; exact hl) h1 h2 h3⟩
theorem Hv.len {a : Nat} : ∀ {p q : Nat} {r : List Nat}, Hv a (p :: q :: r) → 2 ^ r.length ≤ p - a
  | p, q, [], h => by have h1 := h.1; have : a ≤ q := h.2.2; simp; omega
  | p, q, x :: r, h => by
    have ih := h.2.2.len
    have h2 := h.2.1
    rw [List.length_cons, Nat.pow_succ]
    omega
/-- A walker ahead of the key a of a chain of n: what it minds. -/
structure Ok (n a : Nat) (ms : List Nat) : Prop where
  one : 1 ≤ n
  top : n ≤ 1024
  at_ : a ≤ n + 1
  half : Hv a ms
  head : a ≤ n → ∃ r, ms = n :: r
  done : a = n + 1 → ms = []
theorem Ok.few {n a : Nat} {ms : List Nat} (h : Ok n a ms) : ms.length ≤ mo n := by
  have h0 := h.one
  have h4 := h.at_
  by_cases ha : a ≤ n
  · obtain ⟨r, rfl⟩ := h.head ha
    unfold mo
    cases r with
    | nil => simp
    | cons q r =>
      have h1 := h.half.len
      have h2 : 2 ^ r.length ≤ n := by omega
      have h3 := (Nat.le_log2 (by omega)).2 h2
      simp only [List.length_cons]
      omega
  · rw [h.done (by omega)]; simp
theorem Ok.mem {n a : Nat} {ms : List Nat} (h : Ok n a ms) : ∀ p ∈ ms, a ≤ p ∧ p ≤ n := by
  intro p hp
  refine ⟨h.half.ge p hp, ?_⟩
  have h4 := h.at_
  by_cases ha : a ≤ n
  · obtain ⟨r, rfl⟩ := h.head ha
    rcases List.mem_cons.1 hp with rfl | hp
    · exact Nat.le_refl _
    · exact Nat.le_of_lt (h.half.le p hp)
  · rw [h.done (by omega)] at hp; cases hp
theorem ok_new (n : Nat) (h1 : 1 ≤ n) (h2 : n ≤ 1024) : Ok n 0 [n] :=
  ⟨h1, h2, by omega, Nat.zero_le _, fun _ => ⟨[], rfl⟩, fun h => by omega⟩
theorem Ok.snoc {n a : Nat} {ms : List Nat} (h : Ok n a ms) {p : Nat} (hl : ms.getLast? = some p) (hp : a < p) : Ok n a (ms ++ [p - (p - a + 1) / 2]) := by
  have hm : p ∈ ms := List.mem_of_getLast? hl
  have hpn := (h.mem p hm).2
  refine ⟨h.one, h.top, h.at_, h.half.snoc hl (by omega) (by omega) (by omega), fun ha => ?_, fun ha => by omega⟩
  obtain ⟨r, rfl⟩ := h.head ha
  exact ⟨r ++ [p - (p - a + 1) / 2], rfl⟩
/-- On to the key t: the first c are kept. -/
theorem Ok.pass {n a : Nat} {ms : List Nat} (h : Ok n a ms) {t c : Nat} (hat : a ≤ t) (htn : t ≤ n + 1) (hc : c ≤ ms.length) (hlow : ∀ i, c ≤ i → ∀ p, ms[i]? = some p → p < t) (hhi : ∀ i p, i + 1 = c → ms[i]? = some p → t ≤ p) : Ok n t (ms.take c) := by
  have hge : ∀ p ∈ ms.take c, t ≤ p := by
    intro p hp
    obtain ⟨i, hi⟩ := List.getElem?_of_mem hp
    have hic : i < c := by
      have := (List.getElem?_eq_some_iff.1 hi).1
      rw [List.length_take] at this; omega
    rw [List.getElem?_take_of_lt hic] at hi
    have hlast : ms[c - 1]? = some ms[c - 1] := List.getElem?_eq_getElem (by omega)
    have h1 := hhi (c - 1) _ (by omega) hlast
    by_cases e : i = c - 1
    · subst e
      obtain rfl : ms[c - 1] = p := Option.some.inj (hlast.symm.trans hi)
      exact h1
    · have : ∀ (l : List Nat), Hv a l → ∀ (i j p q : Nat), i < j → l[i]? = some p → l[j]? = some q → q < p := by
        intro l
        induction l with
        | nil => intro _ i j p q _ hp; simp at hp
        | cons x l ih =>
          intro hv i j p q hij hp hq
          cases j with
          | zero => omega
          | succ j =>
            rw [List.getElem?_cons_succ] at hq
            cases i with
            | zero =>
              obtain rfl : x = p := by simpa using hp
              exact hv.le q (List.mem_of_getElem? hq)
            | succ i =>
              rw [List.getElem?_cons_succ] at hp
              exact ih hv.tail i j p q (by omega) hp hq
      have := this ms h.half i (c - 1) p _ (by omega) hi hlast
      omega
  refine ⟨h.one, h.top, htn, (h.half.take c).mono hat hge, fun ht => ?_, fun ht => ?_⟩
  · obtain ⟨r, rfl⟩ := h.head (by omega)
    cases c with
    | zero =>
      have := hlow 0 (Nat.le_refl _) n rfl
      omega
    | succ c => exact ⟨r.take c, rfl⟩
  · cases hx : ms.take c with
    | nil => rfl
    | cons p r =>
      have h1 := hge p (by rw [hx]; simp)
      have h2 := (h.mem p (List.mem_of_mem_take (by rw [hx]; simp))).2
      omega
/-- What Next tells ahead of the key a of a chain of n, whose last key is L; and where it is then. -/
def nx (n : Nat) (L : Ky) (a : Nat) : (Ky × Int) × Nat := if a ≤ n then ((wl (n - a) L, 0), a + 1) else ((zk, 10), a)
/-- .. and Skip. -/
def sk (n a : Nat) (t : Int) : Int × Nat := if t < a ∨ (n : Int) < t then (1, a) else (0, t.toNat)
theorem nx_le {n a a' : Nat} {L K : Ky} {E : Int} (h : nx n L a = ((K, E), a')) (ha : a ≤ n + 1) : a' ≤ n + 1 := by
  unfold nx at h
  split at h
  · have := (Prod.mk.inj h).2; omega
  · have := (Prod.mk.inj h).2; omega
theorem sk_le {n a a' : Nat} {t E : Int} (h : sk n a t = (E, a')) (ha : a ≤ n + 1) : a' ≤ n + 1 := by
  unfold sk at h
  split at h
  · have := (Prod.mk.inj h).2; omega
  · have := (Prod.mk.inj h).2; omega
end Go.Proofs.YtphocklnhoakcaaDoor
