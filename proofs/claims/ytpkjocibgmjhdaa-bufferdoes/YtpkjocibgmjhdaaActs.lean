/- Acts read from memory; bounds on what a buffer holds. -/
import Derived.Test.YtpkjocibgmjhdaaBg
namespace Go.Proofs.Ytpkjocibgmjhdaa
set_option maxRecDepth 10000
open Go Go.RowKit
set_option linter.unusedVariables false
set_option linter.unusedSimpArgs false

/-- A list's values, by their places. -/
def tl (l : List Value) (n : Nat) : Value := l.getD n undef
theorem zeroA : ∀ w, (zeroValue 32).run Try.prog w = .ok (.agg ([.int .i64 0, .int .i64 0, .string ⟨#[]⟩] : List Value).toArray) w := Try.zeroValue32
theorem size32 : (Try.prog.info? 32).map (·.size) = some 3 := by kernel_rfl
/-- An act of the slice that came in. -/
theorem g_ldAct {dst : Option Tmp} {ty : TypeId} {pos : String} {aft : Array Edge} {gd : Option (Nat × Bool)} {a : Act} {w : World} {K : Value → World → Prop} (x : Operand) (b o : Nat) (k i : Int) (s : ByteArray) (hx : a.eval x = .pointer (some ⟨b, o, none⟩)) (h0 : w.cell? ⟨b, o, none⟩ = some (.int .i64 k)) (h1 : w.cell? ⟨b, o + 1, none⟩ = some (.int .i64 i)) (h2 : w.cell? ⟨b, o + 2, none⟩ = some (.string s))
    (hk : K (.agg ([.int .i64 k, .int .i64 i, .string s] : List Value).toArray) w) : gives Try.prog ⟨dst, .load 32 x, ty, pos, aft, gd⟩ a w K := by
  have hr : w.rangeAt b o [.int .i64 k, .int .i64 i, .string s] := fun j v hv => by
    match j with
    | 0 => simp at hv; subst hv; exact h0
    | 1 => simp at hv; subst hv; exact h1
    | 2 => simp at hv; subst hv; exact h2
    | j + 3 => simp at hv
  exact g_val _ w (by simp only [execOp, hx, Sem.run_bind, run_loadAt_mid w b o 32 _ _ hr Try.underlying32 rfl size32, Result.andThen_ok, Sem.run_pure]) hk
theorem rem64 (a : Int) (h : 0 ≤ a ∧ a < 256) : ∃ q : Nat, a.tmod 64 = ((q : Nat) : Int) ∧ q < 64 := by
  rw [Int.tmod_eq_emod_of_nonneg h.1]
  exact ⟨(a % 64).toNat, by omega, by omega⟩
theorem bfull {w0 w : World} {R : List HP} {p x : Nat} {y d : Int} {L : List Thg} (h : Ms w0 w (bf p x y d L :: R)) (i : Int) : (ofI i L).length ≤ x := by
  obtain ⟨m, E, hB, _⟩ := bf_open h
  exact hB.full i
theorem blow {w0 w : World} {R : List HP} {p x : Nat} {y d : Int} {L : List Thg} (h : Ms w0 w (bf p x y d L :: R)) : ∀ t ∈ L, 1 ≤ t.1 ∧ t.1 ≤ 9223372036854775807 := by
  obtain ⟨m, E, hB, _⟩ := bf_open h
  exact hB.low
/-- No more things than there is room for in so many intervals. -/
theorem room_le {L : List Thg} {E : Nat} (h : ∀ i, (ofI i L).length ≤ E) : L.length ≤ (ivs L).length * E := by
  rw [← cnt_all (nodup_rising (sorted_ivs L)) (fun t ht => mem_ivs.2 ⟨t, ht, rfl⟩)]
  unfold cnt
  generalize ivs L = l
  induction l with
  | nil => simp
  | cons i l ih => rw [List.map_cons, List.sum_cons, List.length_cons, Nat.add_mul, Nat.one_mul]; have := h i; omega
theorem ins_in {x : Int} : ∀ {l : List Int}, l.Pairwise (· < ·) → x ∈ l → ins x l = l
  | [], _, h => by cases h
  | y :: l, hp, h => by
    rw [List.pairwise_cons] at hp
    unfold ins
    rcases List.mem_cons.1 h with rfl | h
    · rw [if_neg (by omega), if_pos rfl]
    · have := hp.1 x h
      rw [if_neg (by omega), if_neg (by omega), ins_in hp.2 h]
theorem ivs_sub {L L' : List Thg} (h : ∀ t ∈ L', t ∈ L) : (ivs L').length ≤ (ivs L).length :=
  sub_length (nodup_rising (sorted_ivs L')) fun z hz => by
    obtain ⟨t, ht, rfl⟩ := mem_ivs.1 hz
    exact mem_ivs.2 ⟨t, h t ht, rfl⟩
/-- What Put takes leaves no more intervals than may be. -/
theorem ivs_put {x y i : Int} {s : ByteArray} {L : List Thg} (h : bpE x y i s L = 0) (hy : (((ivs L).length : Nat) : Int) ≤ y) : (((ivs (L ++ [(i, s)])).length : Nat) : Int) ≤ y := by
  rw [ivs_snoc]
  show (((ins i (ivs L)).length : Nat) : Int) ≤ y
  by_cases hi : i ∈ ivs L
  · rw [ins_in (sorted_ivs L) hi]; exact hy
  · have h0 : ofI i L = [] := ofI_nil.2 fun h1 => hi (mem_ivs.2 h1)
    have h2 := ins_le i (ivs L)
    unfold bpE at h
    split at h
    · cases h
    · split at h
      · cases h
      · split at h
        · cases h
        · rename_i h3
          rw [h0] at h3
          simp at h3
          omega
theorem bpE_hasT {x y i : Int} {s : ByteArray} {L : List Thg} {e : Int} (h : bpE x y i s L = e) (h1 : e = 0 ∨ e = 4) : hasT i s L = false := by
  unfold bpE at h
  split at h
  · omega
  · split at h
    · omega
    · rename_i h2; simpa using h2
theorem bpE_1 {x y i : Int} {s : ByteArray} {L : List Thg} (h : bpE x y i s L = 1) : i < 1 := by
  unfold bpE at h
  split at h
  · assumption
  · split at h
    · cases h
    · split at h <;> cases h
theorem bpE_11 {x y i : Int} {s : ByteArray} {L : List Thg} (h : bpE x y i s L = 11) : hasT i s L = true := by
  unfold bpE at h
  split at h
  · cases h
  · split at h
    · assumption
    · split at h <;> cases h
theorem hasT_snoc (i : Int) (s : ByteArray) (L : List Thg) : hasT i s (L ++ [(i, s)]) = true := hasT_iff.2 (by simp)
theorem hasT_low {i : Int} {s : ByteArray} {L : List Thg} (h : ∀ t ∈ L, 1 ≤ t.1 ∧ t.1 ≤ 9223372036854775807) (hi : i < 1) : hasT i s L = false := by
  cases hh : hasT i s L with
  | false => rfl
  | true => have := (h _ (hasT_iff.1 hh)).1; simp at this; omega
theorem bdN_len (b : Int) (L : List Thg) : bdN b L + (notB b L).length = L.length := by
  have : (notB b L).length ≤ L.length := List.length_filter_le _ _
  unfold bdN; omega
end Go.Proofs.Ytpkjocibgmjhdaa
