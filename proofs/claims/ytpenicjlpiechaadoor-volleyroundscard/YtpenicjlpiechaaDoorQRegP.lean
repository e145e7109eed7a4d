/- A statement whose order of evaluation is left open, some operations of which turn the memory, in whatever order their own edges leave: F tells which of them have come up. Over any program. -/
import Derived.Test.YtpenicjlpiechaaDoorQLib
namespace Go.Proofs.YtpenicjlpiechaaDoor
open Go Go.RowKit
set_option linter.unusedVariables false
/-- ks: the operations that turn the memory; need: which of them (by their place in ks) an operation comes behind; bar: which of them come behind it. -/
def posetB (l : List Oper) (ks : List Nat) (need bar : List (List Nat)) : Bool :=
  decide ks.Nodup && ks.all (fun k => decide (k < l.length)) &&
  (List.range l.length).all fun i => (l[i]?).all fun o =>
    ((need.getD i []).all fun j => o.after.any fun e => Region.binds .any e && ((ks[j]? == some e.on) || (need.getD e.on []).contains j)) &&
    ((bar.getD i []).all fun j => ((ks[j]?).bind (fun k => l[k]?)).any fun p => p.after.any fun e => Region.binds .any e && (e.on == i))
theorem posetB_ks {l : List Oper} {ks : List Nat} {need bar : List (List Nat)} (h : posetB l ks need bar = true) : ks.Nodup ∧ ∀ k ∈ ks, k < l.length := by
  simp only [posetB, Bool.and_eq_true] at h
  exact ⟨of_decide_eq_true h.1.1, fun k hk => of_decide_eq_true (List.all_eq_true.1 h.1.2 k hk)⟩
theorem posetB_op {l : List Oper} {ks : List Nat} {need bar : List (List Nat)} (h : posetB l ks need bar = true) (i : Nat) (o : Oper) (ho : l[i]? = some o) :
    (∀ j ∈ need.getD i [], ∃ e ∈ o.after, Region.binds .any e = true ∧ (ks[j]? = some e.on ∨ j ∈ need.getD e.on [])) ∧
    (∀ j ∈ bar.getD i [], ∃ k p, ks[j]? = some k ∧ l[k]? = some p ∧ ∃ e ∈ p.after, Region.binds .any e = true ∧ e.on = i) := by
  simp only [posetB, Bool.and_eq_true] at h
  have h1 := List.all_eq_true.1 h.2 i (List.mem_range.2 (List.getElem?_eq_some_iff.1 ho).1)
  simp only [ho, Option.all_some, Bool.and_eq_true] at h1
  obtain ⟨h1, h2⟩ := h1
  constructor
  · intro j hj
    have h3 := List.all_eq_true.1 h1 j hj
    obtain ⟨e, he, hb⟩ := Array.any_eq_true'.1 h3
    simp only [Bool.and_eq_true, Bool.or_eq_true, beq_iff_eq, List.contains_iff_mem] at hb
    exact ⟨e, he, hb.1, hb.2⟩
  · intro j hj
    have h3 := List.all_eq_true.1 h2 j hj
    cases hk : ks[j]? with
    | none => rw [hk] at h3; simp at h3
    | some k =>
      cases hp : l[k]? with
      | none => rw [hk] at h3; simp [hp] at h3
      | some p =>
        rw [hk] at h3
        simp only [Option.bind_some, hp, Option.any_some] at h3
        obtain ⟨e, he, hb⟩ := Array.any_eq_true'.1 h3
        simp only [Bool.and_eq_true, beq_iff_eq] at hb
        exact ⟨k, p, rfl, hp, e, he, hb.1, hb.2⟩
theorem wp_region_poset {P : Program} {id : Nat} {Q : Exit → Act → World → Prop} {a0 : Act} {w : World} {l : List Oper} (hm : P.follows .mixedOrders = true) (hB : regB l = true) (ks : List Nat) (need bar : List (List Nat)) (hS : posetB l ks need bar = true)
    {Pm : Type} (vs : Pm → List Value) (hl : ∀ π, l.length = (vs π).length) (C : List Bool → Pm → World → Prop) (π0 : Pm) (h0 : C (List.replicate ks.length false) π0 { w with drawn := w.drawn + 1 })
    (hsp : ∀ j k o F, ks[j]? = some k → l[k]? = some o → F[j]? = some false → (∀ j' ∈ need.getD k [], F[j']? = some true) → ∀ π w, C F π w →
      givesW P l.toArray o (fullL l (vs π) a0) w (fun y w' => ∃ π', (vs π')[k]? = some y ∧ (∀ i, ¬ j ∈ need.getD i [] → i ≠ k → (vs π')[i]? = (vs π)[i]?) ∧ C (F.set j true) π' w'))
    (hop : ∀ i o F, l[i]? = some o → i ∉ ks → (∀ j ∈ need.getD i [], F[j]? = some true) → (∀ j ∈ bar.getD i [], F[j]? = some false) → ∀ π w, C F π w → givesW P l.toArray o (fullL l (vs π) a0) w (fun y w' => (vs π)[i]? = some y ∧ C F π w'))
    (hend : ∀ F π w, F = List.replicate ks.length true → C F π w → Q .normal (fullL l (vs π) a0) w) : (Code.region id l.toArray true).wp P Q a0 w := by
  obtain ⟨hnd, hks⟩ := posetB_ks hS
  refine wp_region_invW hm hB (fun t v w => ∃ F π, F.length = ks.length ∧ C F π w ∧ (∀ i, t i = true → i < l.length → (vs π)[i]? = some (v i) ∧ ∀ j ∈ need.getD i [], F[j]? = some true) ∧ (∀ j k, ks[j]? = some k → F[j]? = some (t k)) ∧
    ∀ i, t i = true → ∀ o, l[i]? = some o → ∀ e ∈ o.after, Region.binds .any e = true → t e.on = true) ⟨_, π0, List.length_replicate, h0, (fun _ h => by cases h), (fun j k hk => by rw [List.getElem?_replicate, if_pos (List.getElem?_eq_some_iff.1 hk).1]), (fun _ h => by cases h)⟩ ?_ ?_
  · intro i o ho t v w ⟨F, π, hF, hC, hv, hk, hcl⟩ hti hall
    have ok := regB_ok hB i o ho
    have hs := looks_same (a0 := a0) hB ho (vs π) (hl π) hall (fun j h1 h2 => (hv j h1 h2).1)
    have hil : i < l.length := (List.getElem?_eq_some_iff.1 ho).1
    obtain ⟨hd, hh⟩ := posetB_op hS i o ho
    have hdep : ∀ j ∈ need.getD i [], F[j]? = some true := fun j hj => by
      obtain ⟨e, he, hb, hd⟩ := hd j hj
      have hte := hall e he hb
      rcases hd with hd | hd
      · rw [hk j _ hd, hte]
      · exact (hv e.on hte (Nat.lt_trans (ok.low e he hb) hil)).2 j hd
    have hcl' : ∀ i', setB t i i' = true → ∀ o', l[i']? = some o' → ∀ e ∈ o'.after, Region.binds .any e = true → setB t i e.on = true := by
      intro i' hi' o' ho' e he hb
      have : t e.on = true := by
        by_cases hii : i' = i
        · subst hii
          obtain rfl : o = o' := Option.some.inj (ho.symm.trans ho')
          exact hall e he hb
        · rw [setB_other _ _ _ hii] at hi'
          exact hcl i' hi' o' ho' e he hb
      by_cases hei : e.on = i
      · rw [hei, setB_self]
      · rw [setB_other _ _ _ hei]; exact this
    by_cases hik : i ∈ ks
    · obtain ⟨jj, hjl, hjj⟩ := List.getElem_of_mem hik
      have hjj : ks[jj]? = some i := by rw [List.getElem?_eq_getElem hjl, hjj]
      have hf : F[jj]? = some false := by rw [hk jj i hjj, hti]
      refine givesW_congr ok.sel hs (fun y w' ⟨π', hy, hag, hC'⟩ => ?_) (hsp jj i o F hjj ho hf hdep π w hC)
      refine ⟨F.set jj true, π', by rw [List.length_set, hF], hC', fun i' hi' hil' => ?_, fun jj' k' hk' => ?_, hcl'⟩
      · by_cases hii : i' = i
        · subst hii
          rw [setV_self]
          refine ⟨hy, fun j hj => ?_⟩
          by_cases hjx : j = jj
          · subst hjx; rw [List.getElem?_set_self (by omega)]
          · rw [List.getElem?_set_ne (fun e => hjx e.symm)]; exact hdep j hj
        · rw [setB_other _ _ _ hii] at hi'
          rw [setV_other _ _ _ _ hii]
          obtain ⟨h3, h4⟩ := hv i' hi' hil'
          have hnj : ¬ jj ∈ need.getD i' [] := fun hin => by
            have := h4 jj hin
            rw [hf] at this; cases this
          refine ⟨by rw [hag i' hnj hii]; exact h3, fun j hj => ?_⟩
          rw [List.getElem?_set_ne (fun e => hnj (by subst e; exact hj))]; exact h4 j hj
      · by_cases hkk : k' = i
        · subst hkk
          have e : jj' = jj := (List.getElem?_inj (List.getElem?_eq_some_iff.1 hk').1 hnd).1 (hk'.trans hjj.symm)
          subst e
          rw [setB_self, List.getElem?_set_self (by omega)]
        · rw [setB_other _ _ _ hkk]
          have : jj ≠ jj' := fun e => hkk (by subst e; exact Option.some.inj (hk'.symm.trans hjj))
          rw [List.getElem?_set_ne this]; exact hk jj' k' hk'
    · have hbar : ∀ j ∈ bar.getD i [], F[j]? = some false := fun j hj => by
        obtain ⟨k, p, hk1, hp, e, he, hb, hon⟩ := hh j hj
        rw [hk j k hk1]
        cases htk : t k with
        | false => rfl
        | true =>
          have h2 := hcl k htk p hp e he hb
          rw [hon, hti] at h2
          cases h2
      refine givesW_congr ok.sel hs (fun y w' ⟨hy, hC'⟩ => ?_) (hop i o F ho hik hdep hbar π w hC)
      refine ⟨F, π, hF, hC', fun i' hi' hil' => ?_, fun jj' k' hk' => ?_, hcl'⟩
      · by_cases hii : i' = i
        · subst hii
          rw [setV_self]
          exact ⟨hy, hdep⟩
        · rw [setB_other _ _ _ hii] at hi'
          rw [setV_other _ _ _ _ hii]
          exact hv i' hi' hil'
      · rw [setB_other _ _ _ (fun e => hik (by subst e; exact List.mem_of_getElem? hk'))]; exact hk jj' k' hk'
  · intro t v w ⟨F, π, hF, hC, hv, hk, _⟩ ht
    have hFt : F = List.replicate ks.length true := by
      apply List.ext_getElem?
      intro j
      by_cases hj : j < ks.length
      · have hx : ks[j]? = some ks[j] := List.getElem?_eq_getElem hj
        rw [hk j _ hx, ht _ (hks _ (List.getElem_mem _)), List.getElem?_replicate, if_pos hj]
      · rw [List.getElem?_eq_none (by omega), List.getElem?_eq_none (by simp; omega)]
    rw [full_fullL v l (vs π) 0 a0 (hl π) (fun i x hx => by
      rw [Nat.zero_add]
      have hil : i < l.length := by rw [hl π]; exact (List.getElem?_eq_some_iff.1 hx).1
      exact Option.some.inj ((hv i (ht i hil) hil).1.symm.trans hx))]
    exact hend F π w hFt hC
end Go.Proofs.YtpenicjlpiechaaDoor
