/- Statements whose order of evaluation is left open: one that stores what the others reckon, into a block that is there, or into a new one; and one whose last operation writes what the others read. Over any program. -/
import Derived.Test.YteieacamokoejaaGives
namespace Go.Proofs.Yteieacamokoejaa
open Go Go.RowKit
set_option linter.unusedVariables false
variable {P : Program}
/-- What an operation looks at is the same in the state in which all have come up with these values. -/
theorem looks_same {l : List Oper} (hB : regB l = true) {i : Nat} {o : Oper} (ho : l[i]? = some o) {t : Nat → Bool} {v : Nat → Value} {a0 : Act} (vs : List Value) (hl : l.length = vs.length)
    (hall : ∀ e ∈ o.after, Region.binds .any e = true → t e.on = true) (hv : ∀ j, t j = true → j < l.length → vs[j]? = some (v j)) :
    ∀ d ∈ o.looksAt l.toArray, (fullL l vs a0).eval (.tmp d) = (full 0 l v a0).eval (.tmp d) := by
  intro d hd
  have ok := regB_ok hB i o ho
  refine (fullL_eval (ops := l.toArray) l vs v 0 a0 a0 (.tmp d) hl rfl rfl (fun j p hp d' hd' hxd => ?_)).symm
  obtain rfl : d = d' := by cases hxd; rfl
  rw [Nat.zero_add]
  have hjl : j < l.length := (List.getElem?_eq_some_iff.1 hp).1
  by_cases hij : i = j
  · subst hij
    obtain rfl : o = p := Option.some.inj (ho.symm.trans hp)
    exact absurd hd (ok.own d hd')
  · obtain ⟨e, he, hb, hon⟩ := ok.looks j p hp hij d hd' hd
    have ht := hall e he hb
    rw [hon] at ht
    exact hv j ht hjl
theorem givesW_mono {ops : Array Oper} {o : Oper} {a : Act} {w : World} {K K' : Value → World → Prop} (h : givesW P ops o a w K) (hk : ∀ v w', K v w' → K' v w') : givesW P ops o a w K' := by
  unfold givesW at *
  split
  · rename_i hw
    rw [if_pos hw] at h
    unfold gives at *
    generalize (execOp a.eval o).run P w = r at *
    cases r with
    | ok n w' =>
      cases n <;> simp only [givesUpon] at h ⊢
      case value v => exact hk _ _ h
      case skip => exact hk _ _ h
      case enter f args => exact h.mono fun e w'' ⟨v, h1, h2⟩ => ⟨v, h1, hk _ _ h2⟩
    | halt x w' => simp only [givesUpon] at h
  · rename_i hw
    rw [if_neg hw] at h
    exact hk _ _ h
/-- Operation S stores; the others keep the world. -/
theorem wp_region_put {id : Nat} {Q : Exit → Act → World → Prop} {a0 : Act} {w : World} {l : List Oper} (hm : P.follows .mixedOrders = true) (hB : regB l = true) (vs : List Value) (hl : l.length = vs.length) (S : Nat) (C E : World → Prop)
    (h0 : C { w with drawn := w.drawn + 1 })
    (hop : ∀ i o, l[i]? = some o → i ≠ S → ∀ w, givesW P l.toArray o (fullL l vs a0) w (fun y w' => vs[i]? = some y ∧ w' = w))
    (hS : ∀ o, l[S]? = some o → ∀ w, C w → givesW P l.toArray o (fullL l vs a0) w (fun y w' => vs[S]? = some y ∧ E w'))
    (hSl : S < l.length)
    (hend : ∀ w, E w → Q .normal (fullL l vs a0) w) : (Code.region id l.toArray true).wp P Q a0 w := by
  refine wp_region_invW hm hB (fun t v w => (∀ j, t j = true → j < l.length → vs[j]? = some (v j)) ∧ (t S = false → C w) ∧ (t S = true → E w)) ⟨(fun _ h => by cases h), (fun _ => h0), (fun h => by cases h)⟩ ?_ ?_
  · intro i o ho t v w ⟨hv, hC, hE⟩ hti hall
    have ok := regB_ok hB i o ho
    have hs := looks_same (a0 := a0) hB ho vs hl hall hv
    by_cases hiS : i = S
    · subst hiS
      refine givesW_congr ok.sel hs (fun y w' ⟨hy, hE'⟩ => ?_) (hS o ho w (hC hti))
      refine ⟨fun j hj hjl => ?_, (fun h => by rw [setB_self] at h; cases h), fun _ => hE'⟩
      by_cases hji : j = i
      · subst hji; rw [setV_self]; exact hy
      · rw [setV_other _ _ _ _ hji]; rw [setB_other _ _ _ hji] at hj; exact hv j hj hjl
    · refine givesW_congr ok.sel hs (fun y w' ⟨hy, hW⟩ => ?_) (hop i o ho hiS w)
      subst hW
      refine ⟨fun j hj hjl => ?_, (fun h => by rw [setB_other _ _ _ (fun e => hiS e.symm)] at h; exact hC h), (fun h => by rw [setB_other _ _ _ (fun e => hiS e.symm)] at h; exact hE h)⟩
      by_cases hji : j = i
      · subst hji; rw [setV_self]; exact hy
      · rw [setV_other _ _ _ _ hji]; rw [setB_other _ _ _ hji] at hj; exact hv j hj hjl
  · intro t v w ⟨hv, hC, hE⟩ ht
    rw [full_fullL v l vs 0 a0 hl (fun i x hx => by
      rw [Nat.zero_add]
      have hil : i < l.length := by rw [hl]; exact (List.getElem?_eq_some_iff.1 hx).1
      exact Option.some.inj ((hv i (ht i hil) hil).symm.trans hx))]
    exact hend w (hE (ht S hSl))
/-- Operation A makes a block, S stores into it; the others' values are known, and make new blocks at most. -/
theorem wp_region_new {id : Nat} {Q : Exit → Act → World → Prop} {a0 : Act} {w : World} {l : List Oper} (hm : P.follows .mixedOrders = true) (hB : regB l = true) (A S : Nat) (T : TypeId) (zs ns : List Value) (xs : Value → List Value)
    (hl : ∀ p, l.length = (xs p).length) (hAS : A ≠ S) (hAl : A < l.length) (hSl : S < l.length) (hdep : ∀ o, l[S]? = some o → ∃ e ∈ o.after, Region.binds .any e = true ∧ e.on = A)
    (hxA : ∀ p, (xs p)[A]? = some p) (hxo : ∀ p q i, i ≠ A → (xs p)[i]? = (xs q)[i]?)
    (hA : ∀ o, l[A]? = some o → ∀ a w, givesW P l.toArray o a w (fun y w' => y = .pointer (some ⟨w.heap.size, 0, none⟩) ∧ Turn w.heap.size w w' ∧ Blk w' w.heap.size zs T))
    (hS : ∀ o, l[S]? = some o → ∀ p w', Blk w' p zs T → givesW P l.toArray o (fullL l (xs (.pointer (some ⟨p, 0, none⟩))) a0) w' (fun y w'' => (xs undef)[S]? = some y ∧ Turn p w' w'' ∧ Blk w'' p ns T))
    (hop : ∀ i o, l[i]? = some o → i ≠ A → i ≠ S → ∀ p w', Below w.heap.size w w' → givesW P l.toArray o (fullL l (xs p) a0) w' (fun y w'' => (xs undef)[i]? = some y ∧ Below w'.heap.size w' w''))
    (hend : ∀ p w', Below w.heap.size w w' → w.heap.size ≤ p → Blk w' p ns T → Q .normal (fullL l (xs (.pointer (some ⟨p, 0, none⟩))) a0) w') : (Code.region id l.toArray true).wp P Q a0 w := by
  refine wp_region_invW hm hB (fun t v wx => Below w.heap.size w wx ∧ (∀ j, t j = true → j < l.length → (xs (v A))[j]? = some (v j)) ∧ (t A = false → t S = false) ∧
    (t A = true → ∃ p, v A = .pointer (some ⟨p, 0, none⟩) ∧ w.heap.size ≤ p ∧ (t S = false → Blk wx p zs T) ∧ (t S = true → Blk wx p ns T))) ⟨(Below.refl _ _).drew, (fun _ h => by cases h), (fun _ => rfl), (fun h => by cases h)⟩ ?_ ?_
  · intro i o ho t v wx ⟨hC, hv, hAf, hp⟩ hti hall
    have ok := regB_ok hB i o ho
    have hs := looks_same (a0 := a0) hB ho (xs (v A)) (hl _) hall hv
    by_cases hiA : i = A
    · subst hiA
      refine givesW_mono (hA o ho (full 0 l v a0) wx) (fun y w' ⟨hy, hT, hb⟩ => ?_)
      subst hy
      have hSf := hAf hti
      refine ⟨hT.below hC hC.size, fun j hj hjl => ?_, (fun h => by rw [setB_self] at h; cases h), fun _ => ⟨wx.heap.size, setV_self _ _ _, hC.size, fun _ => hb, fun h => ?_⟩⟩
      · rw [setV_self]
        by_cases hji : j = i
        · subst hji; rw [setV_self]; exact hxA _
        · rw [setV_other _ _ _ _ hji]; rw [setB_other _ _ _ hji] at hj
          rw [hxo _ (v i) j hji]; exact hv j hj hjl
      · rw [setB_other _ _ _ (fun e => hAS e.symm), hSf] at h; cases h
    · by_cases hiS : i = S
      · subst hiS
        obtain ⟨e, he, hb, hon⟩ := hdep o ho
        have htA := hall e he hb
        rw [hon] at htA
        obtain ⟨p, hpv, hpl, hz, _⟩ := hp htA
        rw [hpv] at hs
        refine givesW_congr ok.sel hs (fun y w' ⟨hy, hT, hb⟩ => ?_) (hS o ho p wx (hz hti))
        refine ⟨hT.below hC hpl, fun j hj hjl => ?_, (fun h => by rw [setB_other _ _ _ hAS, htA] at h; cases h), fun _ => ⟨p, by rw [setV_other _ _ _ _ hAS]; exact hpv, hpl, (fun h => by rw [setB_self] at h; cases h), fun _ => hb⟩⟩
        rw [setV_other _ _ _ _ hAS]
        by_cases hji : j = i
        · subst hji; rw [setV_self, hxo _ undef j hiA]; exact hy
        · rw [setV_other _ _ _ _ hji]; rw [setB_other _ _ _ hji] at hj; exact hv j hj hjl
      · refine givesW_congr ok.sel hs (fun y w' ⟨hy, hb⟩ => ?_) (hop i o ho hiA hiS (v A) wx hC)
        have eA : setB t i A = t A := setB_other _ _ _ (fun e => hiA e.symm)
        have eS : setB t i S = t S := setB_other _ _ _ (fun e => hiS e.symm)
        have vA : setV v i y A = v A := setV_other _ _ _ _ (fun e => hiA e.symm)
        rw [eA, eS, vA]
        refine ⟨hC.trans (hb.mono hC.size), fun j hj hjl => ?_, hAf, fun h => ?_⟩
        · by_cases hji : j = i
          · subst hji; rw [setV_self, hxo _ undef j hiA]; exact hy
          · rw [setV_other _ _ _ _ hji]; rw [setB_other _ _ _ hji] at hj; exact hv j hj hjl
        · obtain ⟨p, h1, h2, h3, h4⟩ := hp h
          exact ⟨p, h1, h2, fun h => (h3 h).below hb (h3 h).lt, fun h => (h4 h).below hb (h4 h).lt⟩
  · intro t v wx ⟨hC, hv, hAf, hp⟩ ht
    obtain ⟨p, hpv, hpl, _, hb⟩ := hp (ht A hAl)
    rw [hpv] at hv
    rw [full_fullL v l (xs (.pointer (some ⟨p, 0, none⟩))) 0 a0 (hl _) (fun i x hx => by
      rw [Nat.zero_add]
      have hil : i < l.length := by rw [hl (.pointer (some ⟨p, 0, none⟩))]; exact (List.getElem?_eq_some_iff.1 hx).1
      exact Option.some.inj ((hv i (ht i hil) hil).symm.trans hx))]
    exact hend p wx hC hpl (hb (ht S hSl))
end Go.Proofs.Yteieacamokoejaa
