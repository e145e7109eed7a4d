/- A statement whose order of evaluation is left open, some operations of which turn the memory, one behind another: between two of them all other operations yield what is known. Over any program. -/
import Derived.Test.YtpkjocibgmjhdaaGives
namespace Go.Proofs.Ytpkjocibgmjhdaa
open Go Go.RowKit
set_option linter.unusedVariables false
variable {P : Program}
/-- What an operation looks at is the same in the state in which all have come up with these values. -/
theorem looks_same {l : List Oper} (hB : regB l = true) {i : Nat} {o : Oper} (ho : l[i]? = some o) {t : Nat → Bool} {v : Nat → Value} {a0 : Act} (vs : List Value) (hl : l.length = vs.length)
    (hall : ∀ e ∈ o.after, Region.binds .any e = true → t e.on = true) (hv : ∀ j, t j = true → j < l.length → vs[j]? = some (v j)) :
    ∀ d ∈ o.looksAt l.toArray, (fullL l vs a0).eval (.tmp d) = (full 0 l v a0).eval (.tmp d) := by
  intro d hd
  have ok := regB_ok hB i o ho
  refine (fullL_eval (ops := l.toArray) l vs v 0 a0 a0 (.tmp d) hl rfl rfl (fun j p hp d' hd' hxd => ?_)).symm
  obtain rfl : d = d' := by cases hxd; rfl
  rw [Nat.zero_add]
  have hjl : j < l.length := (List.getElem?_eq_some_iff.1 hp).1
  by_cases hij : i = j
  · subst hij
    obtain rfl : o = p := Option.some.inj (ho.symm.trans hp)
    exact absurd hd (ok.own d hd')
  · obtain ⟨e, he, hb, hon⟩ := ok.looks j p hp hij d hd' hd
    have ht := hall e he hb
    rw [hon] at ht
    exact hv j ht hjl
/-- ks: the operations that turn the memory, in their order; deps: behind how many of them an operation comes at least; his: at most. -/
def stepsB (l : List Oper) (ks deps his : List Nat) : Bool :=
  decide ks.Nodup && (List.range ks.length).all (fun j => (ks[j]?).all fun k => decide (k < l.length) && (deps.getD k 0 == j)) &&
  (List.range l.length).all fun i => (l[i]?).all fun o =>
    ((deps.getD i 0 == 0) || o.after.any fun e => Region.binds .any e && ((ks[deps.getD i 0 - 1]? == some e.on) || decide (deps.getD i 0 ≤ deps.getD e.on 0))) &&
    (decide (ks.length ≤ his.getD i ks.length) || ((ks[his.getD i ks.length]?).bind (fun k => l[k]?)).any fun p => p.after.any fun e => Region.binds .any e && (e.on == i))
theorem stepsB_ks {l : List Oper} {ks deps his : List Nat} (h : stepsB l ks deps his = true) : ks.Nodup ∧ ∀ j k, ks[j]? = some k → k < l.length ∧ deps.getD k 0 = j := by
  simp only [stepsB, Bool.and_eq_true] at h
  refine ⟨of_decide_eq_true h.1.1, fun j k hk => ?_⟩
  have h1 := List.all_eq_true.1 h.1.2 j (List.mem_range.2 (List.getElem?_eq_some_iff.1 hk).1)
  simp only [hk, Option.all_some, Bool.and_eq_true, decide_eq_true_eq, beq_iff_eq] at h1
  exact h1
theorem stepsB_op {l : List Oper} {ks deps his : List Nat} (h : stepsB l ks deps his = true) (i : Nat) (o : Oper) (ho : l[i]? = some o) :
    (deps.getD i 0 = 0 ∨ ∃ e ∈ o.after, Region.binds .any e = true ∧ (ks[deps.getD i 0 - 1]? = some e.on ∨ deps.getD i 0 ≤ deps.getD e.on 0)) ∧
    (ks.length ≤ his.getD i ks.length ∨ ∃ k p, ks[his.getD i ks.length]? = some k ∧ l[k]? = some p ∧ ∃ e ∈ p.after, Region.binds .any e = true ∧ e.on = i) := by
  simp only [stepsB, Bool.and_eq_true] at h
  have h1 := List.all_eq_true.1 h.2 i (List.mem_range.2 (List.getElem?_eq_some_iff.1 ho).1)
  simp only [ho, Option.all_some, Bool.and_eq_true, Bool.or_eq_true] at h1
  obtain ⟨h1, h2⟩ := h1
  constructor
  · rcases h1 with h1 | h1
    · exact .inl (by simpa using h1)
    · obtain ⟨e, he, hb⟩ := Array.any_eq_true'.1 h1
      simp only [Bool.and_eq_true, Bool.or_eq_true, beq_iff_eq, decide_eq_true_eq] at hb
      exact .inr ⟨e, he, hb.1, hb.2⟩
  · rcases h2 with h2 | h2
    · exact .inl (of_decide_eq_true h2)
    · cases hk : ks[his.getD i ks.length]? with
      | none => rw [hk] at h2; simp at h2
      | some k =>
        rw [hk] at h2
        cases hp : l[k]? with
        | none => simp [hp] at h2
        | some p =>
          simp only [Option.bind_some, hp, Option.any_some] at h2
          obtain ⟨e, he, hb⟩ := Array.any_eq_true'.1 h2
          simp only [Bool.and_eq_true, beq_iff_eq] at hb
          exact .inr ⟨k, p, rfl, hp, e, he, hb.1, hb.2⟩
theorem wp_region_steps {id : Nat} {Q : Exit → Act → World → Prop} {a0 : Act} {w : World} {l : List Oper} (hm : P.follows .mixedOrders = true) (hB : regB l = true) (ks deps his : List Nat) (hS : stepsB l ks deps his = true)
    {Pm : Type} (vs : Pm → List Value) (hl : ∀ π, l.length = (vs π).length) (C : Nat → Pm → World → Prop) (π0 : Pm) (h0 : C 0 π0 { w with drawn := w.drawn + 1 })
    (hsp : ∀ j k o, ks[j]? = some k → l[k]? = some o → ∀ π w, C j π w → givesW P l.toArray o (fullL l (vs π) a0) w (fun y w' => ∃ π', (vs π')[k]? = some y ∧ (∀ i, deps.getD i 0 ≤ j → i ≠ k → (vs π')[i]? = (vs π)[i]?) ∧ C (j + 1) π' w'))
    (hop : ∀ i o, l[i]? = some o → i ∉ ks → ∀ j, deps.getD i 0 ≤ j → j ≤ his.getD i ks.length → j ≤ ks.length → ∀ π w, C j π w → givesW P l.toArray o (fullL l (vs π) a0) w (fun y w' => (vs π)[i]? = some y ∧ C j π w'))
    (hend : ∀ π w, C ks.length π w → Q .normal (fullL l (vs π) a0) w) : (Code.region id l.toArray true).wp P Q a0 w := by
  obtain ⟨hnd, hks⟩ := stepsB_ks hS
  refine wp_region_invW hm hB (fun t v w => ∃ j π, j ≤ ks.length ∧ C j π w ∧ (∀ i, t i = true → i < l.length → (vs π)[i]? = some (v i) ∧ deps.getD i 0 ≤ j) ∧ (∀ jj k, ks[jj]? = some k → (t k = true ↔ jj < j)) ∧
    ∀ i, t i = true → ∀ o, l[i]? = some o → ∀ e ∈ o.after, Region.binds .any e = true → t e.on = true) ⟨0, π0, Nat.zero_le _, h0, (fun _ h => by cases h), (fun _ _ _ => by simp), (fun _ h => by cases h)⟩ ?_ ?_
  · intro i o ho t v w ⟨j, π, hj, hC, hv, hk, hcl⟩ hti hall
    have ok := regB_ok hB i o ho
    have hs := looks_same (a0 := a0) hB ho (vs π) (hl π) hall (fun j h1 h2 => (hv j h1 h2).1)
    have hil : i < l.length := (List.getElem?_eq_some_iff.1 ho).1
    obtain ⟨hd, hh⟩ := stepsB_op hS i o ho
    have hdep : deps.getD i 0 ≤ j := by
      rcases hd with hd | ⟨e, he, hb, hd⟩
      · omega
      · have hte := hall e he hb
        rcases hd with hd | hd
        · have := (hk _ _ hd).1 hte
          omega
        · have := (hv e.on hte (Nat.lt_trans (ok.low e he hb) hil)).2
          omega
    have hcl' : ∀ i', setB t i i' = true → ∀ o', l[i']? = some o' → ∀ e ∈ o'.after, Region.binds .any e = true → setB t i e.on = true := by
      intro i' hi' o' ho' e he hb
      have : t e.on = true := by
        by_cases hii : i' = i
        · subst hii
          obtain rfl : o = o' := Option.some.inj (ho.symm.trans ho')
          exact hall e he hb
        · rw [setB_other _ _ _ hii] at hi'
          exact hcl i' hi' o' ho' e he hb
      by_cases hei : e.on = i
      · rw [hei, setB_self]
      · rw [setB_other _ _ _ hei]; exact this
    by_cases hik : i ∈ ks
    · obtain ⟨jj, hjl, hjj⟩ := List.getElem_of_mem hik
      have hjj : ks[jj]? = some i := by rw [List.getElem?_eq_getElem hjl, hjj]
      have h1 : ¬ jj < j := fun h => by have := (hk jj i hjj).2 h; rw [hti] at this; cases this
      have h2 := (hks jj i hjj).2
      obtain rfl : jj = j := by omega
      refine givesW_congr ok.sel hs (fun y w' ⟨π', hy, hag, hC'⟩ => ?_) (hsp jj i o hjj ho π w hC)
      refine ⟨jj + 1, π', hjl, hC', fun i' hi' hil' => ?_, fun jj' k' hk' => ?_, hcl'⟩
      · by_cases hii : i' = i
        · subst hii
          rw [setV_self]
          exact ⟨hy, by omega⟩
        · rw [setB_other _ _ _ hii] at hi'
          rw [setV_other _ _ _ _ hii]
          obtain ⟨h3, h4⟩ := hv i' hi' hil'
          exact ⟨by rw [hag i' h4 hii]; exact h3, by omega⟩
      · by_cases hkk : k' = i
        · subst hkk
          rw [setB_self]
          have h3 := (hks jj' k' hk').2
          exact ⟨fun _ => by omega, fun _ => rfl⟩
        · rw [setB_other _ _ _ hkk, hk jj' k' hk']
          have : jj' ≠ jj := fun e => hkk (by subst e; exact Option.some.inj (hk'.symm.trans hjj))
          omega
    · have hhi : j ≤ his.getD i ks.length := by
        rcases hh with hh | ⟨k, p, hk1, hp, e, he, hb, hon⟩
        · omega
        · refine Nat.le_of_not_lt fun hlt => ?_
          have h1 := (hk _ _ hk1).2 hlt
          have h2 := hcl k h1 p hp e he hb
          rw [hon, hti] at h2
          cases h2
      refine givesW_congr ok.sel hs (fun y w' ⟨hy, hC'⟩ => ?_) (hop i o ho hik j hdep hhi hj π w hC)
      refine ⟨j, π, hj, hC', fun i' hi' hil' => ?_, fun jj' k' hk' => ?_, hcl'⟩
      · by_cases hii : i' = i
        · subst hii
          rw [setV_self]
          exact ⟨hy, hdep⟩
        · rw [setB_other _ _ _ hii] at hi'
          rw [setV_other _ _ _ _ hii]
          exact hv i' hi' hil'
      · rw [setB_other _ _ _ (fun e => hik (by subst e; exact List.mem_of_getElem? hk')), hk jj' k' hk']
  · intro t v w ⟨j, π, hj, hC, hv, hk, _⟩ ht
    have hjm : j = ks.length := by
      rcases Nat.lt_or_ge j ks.length with h | h
      · have hx : ks[j]? = some ks[j] := List.getElem?_eq_getElem h
        have := (hk j _ hx).1 (ht _ (hks j _ hx).1)
        omega
      · omega
    subst hjm
    rw [full_fullL v l (vs π) 0 a0 (hl π) (fun i x hx => by
      rw [Nat.zero_add]
      have hil : i < l.length := by rw [hl π]; exact (List.getElem?_eq_some_iff.1 hx).1
      exact Option.some.inj ((hv i (ht i hil) hil).1.symm.trans hx))]
    exact hend π w hC
end Go.Proofs.Ytpkjocibgmjhdaa
