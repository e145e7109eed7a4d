/- A region that draws its order and whose last operation, behind all others, writes what they read ('w = append(w, ..)'). -/
import Derived.Test.YtdfpnicpcndkjaaDoorReg
import Derived.Test.YtdfpnicpcndkjaaDoorGives
namespace Go.Proofs.YtdfpnicpcndkjaaDoor
set_option maxRecDepth 10000
open Go
set_option linter.unusedVariables false
variable {P : Program}
def reg0 (l : List Oper) : Bool :=
  (List.range l.length).all fun i => (l[i]?).all fun o =>
    (match o.op with | .select _ _ => false | _ => true) &&
    (o.after.all fun e => !Region.binds .any e || decide (e.on < i)) &&
    (List.range l.length).all fun j => (l[j]?).all fun p => i == j || (match o.dst, p.dst with | some d, some e => d != e | _, _ => true)
structure Reg0 (l : List Oper) (i : Nat) (o : Oper) : Prop where
  sel : ∀ cs b, o.op ≠ .select cs b
  low : ∀ e ∈ o.after, Region.binds .any e = true → e.on < i
  dst : ∀ j p, l[j]? = some p → i ≠ j → ∀ d, o.dst = some d → p.dst ≠ some d
theorem reg0_ok {l : List Oper} (h : reg0 l = true) (i : Nat) (o : Oper) (ho : l[i]? = some o) : Reg0 l i o := by
  have hi : i < l.length := (List.getElem?_eq_some_iff.1 ho).1
  have h1 := List.all_eq_true.1 h i (List.mem_range.2 hi)
  simp only [ho, Option.all_some, Bool.and_eq_true] at h1
  obtain ⟨⟨hs, hl⟩, hj⟩ := h1
  refine ⟨fun cs b e => (by rw [e] at hs; cases hs), fun e he hb => ?_, fun j p hp hne d hd hpd => ?_⟩
  · have := Array.all_eq_true_iff_forall_mem.1 hl e he
    simpa [hb] using this
  · have hjl : j < l.length := (List.getElem?_eq_some_iff.1 hp).1
    have h2 := List.all_eq_true.1 hj j (List.mem_range.2 hjl)
    simp only [hp, Option.all_some, Bool.or_eq_true, beq_iff_eq, hd, hpd] at h2
    rcases h2 with h2 | h2
    · exact hne h2
    · simp at h2
/-- The first n wait for those of the first n whose values they look at; the last waits for all of them; none looks at its own. -/
def lateB (l : List Oper) (n : Nat) : Bool :=
  (List.range l.length).all fun i => (l[i]?).all fun o =>
    (match o.dst with | some d => !(o.looksAt l.toArray).contains d | none => true) &&
    (i != n || (List.range n).all fun j => o.after.any (fun e => Region.binds .any e && e.on == j)) &&
    (List.range n).all fun j => (l[j]?).all fun p => i == j ||
       (match p.dst with
        | some d => !(o.looksAt l.toArray).contains d || o.after.any (fun e => Region.binds .any e && e.on == j)
        | none => true)
structure Late (l : List Oper) (n i : Nat) (o : Oper) : Prop where
  own : ∀ d, o.dst = some d → d ∉ o.looksAt l.toArray
  last : i = n → ∀ j, j < n → ∃ e ∈ o.after, Region.binds .any e = true ∧ e.on = j
  looks : ∀ j p, j < n → l[j]? = some p → i ≠ j → ∀ d, p.dst = some d → d ∈ o.looksAt l.toArray → ∃ e ∈ o.after, Region.binds .any e = true ∧ e.on = j
theorem lateB_ok {l : List Oper} {n : Nat} (h : lateB l n = true) (i : Nat) (o : Oper) (ho : l[i]? = some o) : Late l n i o := by
  have hi : i < l.length := (List.getElem?_eq_some_iff.1 ho).1
  have h1 := List.all_eq_true.1 h i (List.mem_range.2 hi)
  simp only [ho, Option.all_some, Bool.and_eq_true] at h1
  obtain ⟨⟨hw, hl⟩, hj⟩ := h1
  refine ⟨fun d hd => (by simpa [hd] using hw), fun e j hjn => ?_, fun j p hjn hp hne d hd hm => ?_⟩
  · simp only [Bool.or_eq_true, bne_iff_ne, ne_eq] at hl
    rcases hl with hl | hl
    · exact absurd e hl
    · obtain ⟨x, hx, hb⟩ := Array.any_eq_true'.1 (List.all_eq_true.1 hl j (List.mem_range.2 hjn))
      simp only [Bool.and_eq_true, beq_iff_eq] at hb
      exact ⟨x, hx, hb.1, hb.2⟩
  · have h2 := List.all_eq_true.1 hj j (List.mem_range.2 hjn)
    simp only [hp, Option.all_some, Bool.or_eq_true, beq_iff_eq, hd] at h2
    rcases h2 with h2 | h2 | h2
    · exact absurd h2 hne
    · simp [hm] at h2
    · obtain ⟨x, hx, hb⟩ := Array.any_eq_true'.1 h2
      simp only [Bool.and_eq_true, beq_iff_eq] at hb
      exact ⟨x, hx, hb.1, hb.2⟩
theorem puts_snoc (t : Nat → Bool) (v : Nat → Value) (o : Oper) : ∀ (r : List Oper) (k : Nat) (a : Act), t (k + r.length) = false → puts k (r ++ [o]) t v a = puts k r t v a
  | [], k, a, h => by
    have h : t k = false := h
    show puts (k + 1) [] t v (if t k then _ else a) = a
    rw [h]; rfl
  | p :: r, k, a, h => by
    rw [List.cons_append, puts, puts]
    exact puts_snoc t v o r (k + 1) _ (by rw [← h]; congr 1; simp; omega)
theorem wpAny_invV {l : List Oper} (hB : reg0 l = true) {Q : Exit → Act → World → Prop} {a0 : Act} (view : (Nat → Value) → Act) (S : (Nat → Bool) → (Nat → Value) → World → Prop)
    (hview : ∀ i o, l[i]? = some o → ∀ t v w, S t v w → t i = false → (∀ e ∈ o.after, Region.binds .any e = true → t e.on = true) → ∀ d ∈ o.looksAt l.toArray, (puts 0 l t v a0).eval (.tmp d) = (view v).eval (.tmp d))
    (hop : ∀ i o, l[i]? = some o → ∀ t v w, S t v w → t i = false → (∀ e ∈ o.after, Region.binds .any e = true → t e.on = true) → givesW P l.toArray o (view v) w (fun x w' => S (setB t i) (setV v i x) w'))
    (hend : ∀ t v w, S t v w → (∀ i, i < l.length → t i = true) → Q .normal (full 0 l v a0) w) :
    ∀ (fuel : Nat) (listed : Array Bool) (v : Nat → Value) (w : World), listed.size = l.length → (List.range l.length).countP (fun i => !listed.getD i false) ≤ fuel → S (fun i => listed.getD i false) v w →
      wpAny P .any l.toArray Q fuel listed (puts 0 l (fun i => listed.getD i false) v a0) w := by
  have hdone : ∀ (listed : Array Bool) (v : Nat → Value) (w : World), listed.size = l.length → S (fun i => listed.getD i false) v w → Region.ready .any l.toArray listed = [] → Q .normal (puts 0 l (fun i => listed.getD i false) v a0) w := by
    intro listed v w hsz hS hr
    have hall : ∀ n i, i ≤ n → i < l.length → listed.getD i false = true := by
      intro n
      induction n with
      | zero =>
        intro i hi hl
        obtain rfl : i = 0 := by omega
        by_cases hx : listed.getD 0 false = true
        · exact hx
        · exfalso
          have : 0 ∈ Region.ready .any l.toArray listed := mem_ready.2 ⟨by simp [hsz, hl] at hx ⊢; exact hx, l[0], by simp [hl], fun e he hb => absurd ((reg0_ok hB 0 l[0] (by simp [hl])).low e he hb) (by omega)⟩
          rw [hr] at this; cases this
      | succ n ih =>
        intro i hi hl
        by_cases hin : i ≤ n
        · exact ih i hin hl
        · by_cases hx : listed.getD i false = true
          · exact hx
          · exfalso
            have : i ∈ Region.ready .any l.toArray listed := mem_ready.2 ⟨by simp [hsz, hl] at hx ⊢; exact hx, l[i], by simp [hl], fun e he hb => by
              have := (reg0_ok hB i l[i] (by simp [hl])).low e he hb
              exact ih e.on (by omega) (by omega)⟩
            rw [hr] at this; cases this
    rw [puts_all _ v l 0 a0 (fun j hj => by rw [Nat.zero_add]; exact hall j j (Nat.le_refl _) hj)]
    exact hend _ v w hS (fun i hi => hall i i (Nat.le_refl _) hi)
  intro fuel
  induction fuel with
  | zero =>
    intro listed v w hsz hc hS
    have hr : Region.ready .any l.toArray listed = [] := by
      cases h : Region.ready .any l.toArray listed with
      | nil => rfl
      | cons i r =>
        exfalso
        have hm : i ∈ Region.ready .any l.toArray listed := by rw [h]; simp
        obtain ⟨h1, o, ho, _⟩ := mem_ready.1 hm
        have hl : i < l.length := by simpa using (Array.getElem?_eq_some_iff.1 ho).1
        have := List.countP_pos_iff (p := fun i => !listed.getD i false) (l := List.range l.length) |>.2 ⟨i, List.mem_range.2 hl, by simp [hsz, hl] at h1 ⊢; exact h1⟩
        omega
    exact ⟨hr, hdone listed v w hsz hS hr⟩
  | succ fuel ih =>
    intro listed v w hsz hc hS
    refine ⟨fun hr => hdone listed v w hsz hS hr, fun i hi => ?_⟩
    obtain ⟨h1, o, ho, hall⟩ := mem_ready.1 hi
    have ho' : l[i]? = some o := by simpa using ho
    have hl : i < l.length := (List.getElem?_eq_some_iff.1 ho').1
    have hf : listed.getD i false = false := by simp [hsz, hl] at h1 ⊢; exact h1
    have ok := reg0_ok hB i o ho'
    have hg := hop i o ho' _ v w hS hf hall
    have hev := hview i o ho' _ v w hS hf hall
    have he : execOp (puts 0 l (fun i => listed.getD i false) v a0).eval o = execOp (view v).eval o := by
      refine execOp_congr o ok.sel fun x hx => ?_
      cases x with
      | tmp d => exact hev d (List.mem_append_left _ (List.mem_filterMap.2 ⟨.tmp d, by simpa using hx, rfl⟩))
      | const _ => rfl
      | global _ => rfl
      | func _ => rfl
    have hwt := wanted_congr hev
    have hset : (fun j => (listed.setIfInBounds i true).getD j false) = setB (fun j => listed.getD j false) i := by
      funext j
      by_cases hj : j = i
      · subst hj; rw [setB_self]; simp [hsz, hl]
      · rw [setB_other _ _ _ hj, getD_set_ne false (fun e => hj e.symm)]
    have hgo : ∀ x w', S (setB (fun j => listed.getD j false) i) (setV v i x) w' → wpAny P .any l.toArray Q fuel (listed.setIfInBounds i true) ((puts 0 l (fun i => listed.getD i false) v a0).put o.dst x) w' := by
      intro x w' hx
      have hp := puts_set (fun i => listed.getD i false) v x o l 0 i a0 ho' (by rw [Nat.zero_add]; exact hf) (fun j p hp hne => ok.dst j p hp hne)
      rw [Nat.zero_add] at hp
      rw [← hp, ← hset]
      refine ih _ _ w' (by simp [hsz]) ?_ (by rw [hset]; exact hx)
      have := countP_lt (List.range l.length) (fun i => !listed.getD i false) (fun j => !(listed.setIfInBounds i true).getD j false) (fun j hj => by
        by_cases hji : j = i
        · subst hji; rw [hf]; rfl
        · rw [getD_set_ne false (fun e => hji e.symm)] at hj; exact hj) i (List.mem_range.2 hl) (by rw [hf]; rfl) (by simp [hsz, hl])
      omega
    unfold wpOp
    simp only [ho]
    unfold givesW at hg
    rw [hwt]
    split
    · rename_i hw
      rw [if_pos hw] at hg
      exact .inl (wp_of_gives he hg hgo)
    · rename_i hw
      rw [if_neg hw] at hg
      exact hgo _ _ hg
theorem gives_mono {o : Oper} {a : Act} {w : World} {K K' : Value → World → Prop} (h : gives P o a w K) (hk : ∀ x w', K x w' → K' x w') : gives P o a w K' := by
  unfold gives at h ⊢
  generalize (execOp a.eval o).run P w = r at *
  cases r with
  | ok n w' =>
    cases n <;> simp only [givesUpon] at h ⊢
    case value v => exact hk _ _ h
    case skip => exact hk _ _ h
    case enter f args =>
      refine Calls.mono h fun e w'' he => ?_
      obtain ⟨v, rfl, hv⟩ := he
      exact ⟨v, rfl, hk _ _ hv⟩
  | halt x w' => simp only [givesUpon] at h
theorem wp_region_late {id : Nat} {Q : Exit → Act → World → Prop} {a0 : Act} {w : World} {l : List Oper} (n : Nat) (hm : P.follows .mixedOrders = true) (hB : (reg0 l && lateB l n && l.all (·.guard.isNone)) = true) (hn : l.length = n + 1) (S : (Nat → Bool) → (Nat → Value) → World → Prop)
    (h0 : S (fun _ => false) (fun _ => undef) { w with drawn := w.drawn + 1 })
    (hop : ∀ i o, l[i]? = some o → ∀ t v w, S t v w → t i = false → (∀ e ∈ o.after, Region.binds .any e = true → t e.on = true) → gives P o (full 0 (l.take n) v a0) w (fun x w' => S (setB t i) (setV v i x) w'))
    (hend : ∀ t v w, S t v w → (∀ i, i < l.length → t i = true) → Q .normal (full 0 l v a0) w) : (Code.region id l.toArray true).wp P Q a0 w := by
  simp only [Bool.and_eq_true] at hB
  obtain ⟨⟨hB1, hB2⟩, hB3⟩ := hB
  have hl : l = l.take n ++ [l[n]] := by
    have := List.take_succ_eq_append_getElem (l := l) (i := n) (by omega)
    rw [List.take_of_length_le (by omega)] at this
    exact this
  let S' : (Nat → Bool) → (Nat → Value) → World → Prop := fun t v w => S t v w ∧ (t n = true → ∀ i, i < n → t i = true)
  have hoff : ∀ i o, l[i]? = some o → ∀ t v w, S' t v w → t i = false → t n = false := by
    intro i o ho t v w hS hti
    cases h : t n with
    | false => rfl
    | true =>
      have hi : i < l.length := (List.getElem?_eq_some_iff.1 ho).1
      by_cases e : i = n
      · rw [e, h] at hti; cases hti
      · rw [hS.2 h i (by omega)] at hti; cases hti
  refine wp_region_any hm ?_
  have hz : (fun i => (Array.replicate l.length false).getD i false) = fun _ => false := by
    funext i; by_cases h : i < l.length <;> simp [h]
  have h := wpAny_invV (P := P) hB1 (Q := Q) (a0 := a0) (fun v => full 0 (l.take n) v a0) S' ?_ ?_ ?_ l.length (Array.replicate l.length false) (fun _ => undef) { w with drawn := w.drawn + 1 } (by simp) (Nat.le_trans List.countP_le_length (by simp)) (by rw [hz]; exact ⟨h0, fun h => by cases h⟩)
  · rw [hz, puts_none] at h
    simpa using h
  · intro i o ho t v w hS hti hall d hd
    have ok := lateB_ok hB2 i o ho
    have htn := hoff i o ho t v w hS hti
    have e : puts 0 l t v a0 = puts 0 (l.take n) t v a0 := by
      conv => lhs; rw [hl]
      exact puts_snoc t v _ _ 0 a0 (by rw [List.length_take, Nat.zero_add, show min n l.length = n by omega]; exact htn)
    rw [e]
    refine puts_eval t v (.tmp d) _ 0 a0 a0 rfl rfl (fun j p hp hj d' hd' hxd => ?_)
    obtain rfl : d = d' := by cases hxd; rfl
    rw [Nat.zero_add] at hj
    have hjn : j < n := by have := (List.getElem?_eq_some_iff.1 hp).1; rw [List.length_take] at this; omega
    rw [List.getElem?_take_of_lt hjn] at hp
    by_cases hij : i = j
    · subst hij
      obtain rfl : o = p := Option.some.inj (ho.symm.trans hp)
      exact ok.own d hd' hd
    · obtain ⟨e, he, hb, hon⟩ := ok.looks j p hjn hp hij d hd' hd
      have := hall e he hb
      rw [hon, hj] at this
      cases this
  · intro i o ho t v w hS hti hall
    have hg : o.guard = none := by simpa using List.all_eq_true.1 hB3 o (List.mem_of_getElem? ho)
    unfold givesW
    rw [if_pos (by simp [Region.wanted, hg])]
    have h1 := hop i o ho t v w hS.1 hti hall
    have hkeep : setB t i n = true → ∀ j, j < n → setB t i j = true := by
      intro hsn j hj
      by_cases e : i = n
      · obtain ⟨x, hx, hb, hon⟩ := (lateB_ok hB2 i o ho).last e j hj
        have := hall x hx hb
        rw [hon] at this
        rw [setB_other _ _ _ (by omega)]
        exact this
      · rw [setB_other _ _ _ (fun h => e h.symm), hoff i o ho t v w hS hti] at hsn
        cases hsn
    exact gives_mono h1 (fun x w' hx => ⟨hx, hkeep⟩)
  · exact fun t v w hS ht => hend t v w hS.1 ht
end Go.Proofs.YtdfpnicpcndkjaaDoor
