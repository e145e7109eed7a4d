/- A statement whose order is left open, by a condition on each operation's value. -/
import Derived.Test.YtpenicjlpiechaaDoorQBare
namespace Go.Proofs.YtpenicjlpiechaaDoor.Wd
set_option maxRecDepth 10000
open Go Go.RowKit
set_option linter.unusedVariables false
def RB (w : World) (u : Value) (s : Bool) (n k : Nat) : Prop := ∃ b, u = .agg #[.bool s, b] ∧ RS w b n k
/-- Bits without 0 at the end. -/
def RC (w : World) (v : Value) (n : Nat) : Prop := ∃ l, Rd w v l ∧ Can l ∧ val l = n
def RA (w : World) (b : Nat) (z : Int) : Prop := ∃ s v, Blk w b [.bool s, v] 72 ∧ RF w s v z
def stepOk : Option Nat → World → World → Prop
  | none => fun w w' => Below w.heap.size w w'
  | some b => fun w w' => Turn b w w' ∧ ∃ cs, Blk w b cs 72
theorem RA.below {w w' : World} {b : Nat} {z : Int} (h : RA w b z) (hb : Below w.heap.size w w') : RA w' b z := by
  obtain ⟨s, v, h1, h2⟩ := h
  exact ⟨s, v, h1.below hb h1.lt, h2.below hb⟩
theorem RC.below {w w' : World} {v : Value} {n : Nat} (h : RC w v n) (hb : Below w.heap.size w w') : RC w' v n := by
  obtain ⟨l, h1, h2⟩ := h
  exact ⟨l, h1.below hb, h2⟩
/-- What is known of a value: it stays known when new blocks come, and when a number's block is written, but for one that it speaks of. -/
structure Pd where
  holds : World → Value → Prop
  blk : Option Nat
  low : ∀ {w w' : World} {v : Value}, holds w v → Below w.heap.size w w' → holds w' v
  trn : ∀ {w w' : World} {v : Value} {b : Nat} {cs : List Value}, holds w v → Turn b w w' → Blk w b cs 72 → blk ≠ some b → holds w' v
def Pd.eq (x : Value) : Pd := ⟨fun _ v => v = x, none, fun h _ => h, fun h _ _ _ => h⟩
def Pd.rn (z : Int) : Pd := ⟨fun w v => RN w v z, none, fun h hb => RN.below h hb, fun h ht hb _ => RN.turn h ht hb (by decide)⟩
def Pd.rs (n k : Nat) : Pd := ⟨fun w v => RS w v n k, none, fun h hb => RS.below h hb, fun h ht hb _ => RS.turn h ht hb (by decide)⟩
theorem RB.below {w w' : World} {v : Value} {s : Bool} {n k : Nat} (h : RB w v s n k) (hb : Below w.heap.size w w') : RB w' v s n k := by
  obtain ⟨b, h1, h2⟩ := h
  exact ⟨b, h1, h2.below hb⟩
theorem RB.turn {w w' : World} {v : Value} {s : Bool} {n k b : Nat} {cs : List Value} {t : TypeId} (h : RB w v s n k) (ht : Turn b w w') (hb : Blk w b cs t) (hn : t ≠ 4) : RB w' v s n k := by
  obtain ⟨c, h1, h2⟩ := h
  exact ⟨c, h1, h2.turn ht hb hn⟩
theorem RC.turn {w w' : World} {v : Value} {n b : Nat} {cs : List Value} {t : TypeId} (h : RC w v n) (ht : Turn b w w') (hb : Blk w b cs t) (hn : t ≠ 4) : RC w' v n := by
  obtain ⟨l, h1, h2⟩ := h
  exact ⟨l, h1.turn ht hb hn, h2⟩
theorem RA.turn {w w' : World} {b c : Nat} {z : Int} {cs : List Value} (h : RA w c z) (ht : Turn b w w') (hb : Blk w b cs 72) (hn : some c ≠ some b) : RA w' c z := by
  obtain ⟨s, x, h1, h2⟩ := h
  exact ⟨s, x, ht.blk h1 (fun e => hn (by rw [e])), h2.turn ht hb (by decide)⟩
def Pd.rb (s : Bool) (n k : Nat) : Pd := ⟨fun w v => RB w v s n k, none, fun h hb => RB.below h hb, fun h ht hb _ => RB.turn h ht hb (by decide)⟩
def Pd.rc (n : Nat) : Pd := ⟨fun w v => RC w v n, none, fun h hb => RC.below h hb, fun h ht hb _ => RC.turn h ht hb (by decide)⟩
def Pd.at (b : Nat) (z : Int) : Pd := ⟨fun w _ => RA w b z, some b, fun h hb => RA.below h hb, fun h ht hb hn => RA.turn h ht hb hn⟩
def Pd.ln (n : Nat) : Pd := ⟨fun _ v => ∃ l, Can l ∧ val l = n ∧ v = .int .i64 (l.length : Nat), none, fun h _ => h, fun h _ _ _ => h⟩
theorem givesW_mono {P : Program} {ops : Array Oper} {o : Oper} {a : Act} {w : World} {K K' : Value → World → Prop} (h : givesW P ops o a w K) (hk : ∀ v w', K v w' → K' v w') : givesW P ops o a w K' := by
  unfold givesW at *
  split
  · rename_i hw
    rw [if_pos hw] at h
    unfold gives at *
    generalize (execOp a.eval o).run P w = r at *
    cases r with
    | ok n w' =>
      cases n <;> simp only [givesUpon] at h ⊢
      case value v => exact hk _ _ h
      case skip => exact hk _ _ h
      case enter f args => exact h.mono fun e w'' ⟨v, h1, h2⟩ => ⟨v, h1, hk _ _ h2⟩
    | halt x w' => simp only [givesUpon] at h
  · rename_i hw
    rw [if_neg hw] at h
    exact hk _ _ h
theorem wp_region_pred {id : Nat} {Q : Exit → Act → World → Prop} {a0 : Act} {w : World} {l : List Oper} (hm : Tryd.prog.follows .mixedOrders = true) (hB : regB l = true) (ps : List Pd) (bs : List (Option Nat)) (C : World → Prop)
    (hbs : ∀ (i j : Nat) (b : Nat) (p : Pd), i ≠ j → bs[i]? = some (some b) → ps[j]? = some p → p.blk ≠ some b)
    (h0 : C { w with drawn := w.drawn + 1 })
    (hop : ∀ (i : Nat) (o : Oper), l[i]? = some o → ∀ (v : Nat → Value) (w : World), C w → (∀ e ∈ o.after, Region.binds .any e = true → ∀ p : Pd, ps[e.on]? = some p → p.holds w (v e.on)) → givesW Tryd.prog l.toArray o (full 0 l v a0) w (fun x w' => (∀ p : Pd, ps[i]? = some p → p.holds w' x) ∧ C w' ∧ stepOk ((bs[i]?).getD none) w w'))
    (hend : ∀ (v : Nat → Value) (w : World), C w → (∀ (i : Nat) (p : Pd), i < l.length → ps[i]? = some p → p.holds w (v i)) → Q .normal (full 0 l v a0) w) : (Code.region id l.toArray true).wp Tryd.prog Q a0 w := by
  refine wp_region_invW hm hB (fun t v w => C w ∧ ∀ (i : Nat) (p : Pd), ps[i]? = some p → t i = true → p.holds w (v i)) ⟨h0, fun _ _ _ h => by cases h⟩ ?_ ?_
  · intro i o ho t v w ⟨hC, hv⟩ hti hall
    refine givesW_mono (hop i o ho v w hC (fun e he hb p hp => hv e.on p hp (hall e he hb))) ?_
    intro x w' ⟨h1, h2, h3⟩
    refine ⟨h2, fun j p hp ht => ?_⟩
    by_cases hji : j = i
    · subst hji
      rw [setV_self]
      exact h1 p hp
    · rw [setV_other _ _ _ _ hji]
      rw [setB_other _ _ _ hji] at ht
      have h := hv j p hp ht
      cases hbi : (bs[i]?).getD none with
      | none => rw [hbi] at h3; exact p.low h h3
      | some b =>
        rw [hbi] at h3
        obtain ⟨h4, cs, h5⟩ := h3
        have hb2 : bs[i]? = some (some b) := by
          cases hx : bs[i]? with
          | none => rw [hx] at hbi; cases hbi
          | some y => rw [hx] at hbi; simpa using hbi
        exact p.trn h h4 h5 (hbs i j b p (fun e => hji e.symm) hb2 hp)
  · intro t v w ⟨hC, hv⟩ ht
    exact hend v w hC (fun i p hi hp => hv i p hp (ht i hi))
theorem own_pd {ps : List Pd} {i : Nat} {w : World} {x : Value} (p0 : Pd) (h0 : ps[i]? = some p0) (h : p0.holds w x) : ∀ p, ps[i]? = some p → p.holds w x := by
  intro p hp
  rw [h0] at hp
  obtain rfl := Option.some.inj hp
  exact h
theorem bare_rs (s : Bool) (b : Value) (n k : Nat) (z : Int) (w : World) (h : RS w b n k) (hk : k ≤ 4000) (hz : Hid ((if s then -(n : Int) else n) = z)) :
    Calls Tryd.prog 55 #[.agg #[.bool s, b]] w fun e w' => ∃ u, e = .returned u ∧ RN w' u z ∧ Below w.heap.size w w' := by
  obtain ⟨l, h1, h2, h3⟩ := h
  have h := bare_any s b l w h1 (by omega)
  rwa [show iv s l = z by rw [← hz.out, iv, h2]] at h
theorem nobs (n : Nat) (ps : List Pd) : ∀ (i j : Nat) (b : Nat) (p : Pd), i ≠ j → (List.replicate n (none : Option Nat))[i]? = some (some b) → ps[j]? = some p → p.blk ≠ some b := by
  intro i j b p _ h
  rw [List.getElem?_replicate] at h
  split at h <;> simp at h
theorem RF.rc {w : World} {s : Bool} {b : Value} {z : Int} (h : RF w s b z) : RC w b z.natAbs := by
  obtain ⟨l, h1, h2, h3, h4⟩ := h
  refine ⟨l, h1, h2, ?_⟩
  rw [h3, iv]; cases s <;> simp
/-- One operation that stores: no other is told by what lies in a block. -/
theorem nobs1 (bs : List (Option Nat)) (ps : List Pd) (k : Nat) (h1 : (List.range bs.length).all (fun i => i == k || (match bs[i]? with | some none => true | _ => false)) = true) (h2 : (List.range ps.length).all (fun j => j == k || (ps[j]?).elim true (fun p => p.blk.isNone)) = true) :
    ∀ (i j : Nat) (b : Nat) (p : Pd), i ≠ j → bs[i]? = some (some b) → ps[j]? = some p → p.blk ≠ some b := by
  intro i j b p hij hi hj hb
  have hi' : i < bs.length := (List.getElem?_eq_some_iff.1 hi).1
  have hj' : j < ps.length := (List.getElem?_eq_some_iff.1 hj).1
  have e1 := List.all_eq_true.1 h1 i (List.mem_range.2 hi')
  have e2 := List.all_eq_true.1 h2 j (List.mem_range.2 hj')
  rw [hi] at e1
  rw [hj] at e2
  simp [hb] at e1 e2
  omega
/-- Two that store, into two blocks. -/
theorem nobs2 (bs : List (Option Nat)) (ps : List Pd) (k m : Nat) {b1 b2 : Nat} {z1 z2 : Int} (h1 : bs = (bs.set k (some b1)).set m (some b2) ∧ ps = (ps.set k (.at b1 z1)).set m (.at b2 z2)) (hn : b1 ≠ b2) (h3 : (List.range bs.length).all (fun i => i == k || i == m || (match bs[i]? with | some none => true | _ => false)) = true) (h4 : (List.range ps.length).all (fun j => j == k || j == m || (ps[j]?).elim true (fun p => p.blk.isNone)) = true) (hkm : k ≠ m) :
    ∀ (i j : Nat) (b : Nat) (p : Pd), i ≠ j → bs[i]? = some (some b) → ps[j]? = some p → p.blk ≠ some b := by
  intro i j b p hij hi hj hb
  have hi' : i < bs.length := (List.getElem?_eq_some_iff.1 hi).1
  have hj' : j < ps.length := (List.getElem?_eq_some_iff.1 hj).1
  have e1 := List.all_eq_true.1 h3 i (List.mem_range.2 hi')
  have e2 := List.all_eq_true.1 h4 j (List.mem_range.2 hj')
  have fi := hi
  have fj := hj
  rw [h1.1] at fi
  rw [h1.2] at fj
  rw [hi] at e1
  rw [hj] at e2
  simp [hb] at e1 e2
  rw [List.getElem?_set, List.getElem?_set] at fi fj
  rcases e1 with rfl | rfl <;> rcases e2 with rfl | rfl
  · exact hij rfl
  · simp [Ne.symm hkm, hi', hj'] at fi fj
    subst fj
    have : b2 = b := by simpa [Pd.at] using hb
    omega
  · simp [Ne.symm hkm, hi', hj'] at fi fj
    subst fj
    have : b1 = b := by simpa [Pd.at] using hb
    omega
  · exact hij rfl
end Go.Proofs.YtpenicjlpiechaaDoor.Wd
