/- A region that draws its order and whose last operation, behind all others, writes what they read ('w = append(w, ..)'). -/
import Derived.Test.YteieacamokoejaaRegN
namespace Go.Proofs.Yteieacamokoejaa
open Go
set_option linter.unusedVariables false
variable {P : Program}
def reg0 (l : List Oper) : Bool :=
  (List.range l.length).all fun i => (l[i]?).all fun o =>
    (match o.op with | .select _ _ => false | _ => true) &&
    (o.after.all fun e => !Region.binds .any e || decide (e.on < i)) &&
    (List.range l.length).all fun j => (l[j]?).all fun p => i == j || (match o.dst, p.dst with | some d, some e => d != e | _, _ => true)
structure Reg0 (l : List Oper) (i : Nat) (o : Oper) : Prop where
  sel : ∀ cs b, o.op ≠ .select cs b
  low : ∀ e ∈ o.after, Region.binds .any e = true → e.on < i
  dst : ∀ j p, l[j]? = some p → i ≠ j → ∀ d, o.dst = some d → p.dst ≠ some d
theorem reg0_ok {l : List Oper} (h : reg0 l = true) (i : Nat) (o : Oper) (ho : l[i]? = some o) : Reg0 l i o := by
  have hi : i < l.length := (List.getElem?_eq_some_iff.1 ho).1
  have h1 := List.all_eq_true.1 h i (List.mem_range.2 hi)
  simp only [ho, Option.all_some, Bool.and_eq_true] at h1
  obtain ⟨⟨hs, hl⟩, hj⟩ := h1
  refine ⟨fun cs b e => (by rw [e] at hs; cases hs), fun e he hb => ?_, fun j p hp hne d hd hpd => ?_⟩
  · have := Array.all_eq_true_iff_forall_mem.1 hl e he
    simpa [hb] using this
  · have hjl : j < l.length := (List.getElem?_eq_some_iff.1 hp).1
    have h2 := List.all_eq_true.1 hj j (List.mem_range.2 hjl)
    simp only [hp, Option.all_some, Bool.or_eq_true, beq_iff_eq, hd, hpd] at h2
    rcases h2 with h2 | h2
    · exact hne h2
    · simp at h2
/-- The first n wait for those of the first n whose values they look at; the last waits for all of them; none looks at its own. -/
def lateB (l : List Oper) (n : Nat) : Bool :=
  (List.range l.length).all fun i => (l[i]?).all fun o =>
    (match o.dst with | some d => !(o.looksAt l.toArray).contains d | none => true) &&
    (i != n || (List.range n).all fun j => o.after.any (fun e => Region.binds .any e && e.on == j)) &&
    (List.range n).all fun j => (l[j]?).all fun p => i == j ||
       (match p.dst with
        | some d => !(o.looksAt l.toArray).contains d || o.after.any (fun e => Region.binds .any e && e.on == j)
        | none => true)
structure Late (l : List Oper) (n i : Nat) (o : Oper) : Prop where
  own : ∀ d, o.dst = some d → d ∉ o.looksAt l.toArray
  last : i = n → ∀ j, j < n → ∃ e ∈ o.after, Region.binds .any e = true ∧ e.on = j
  looks : ∀ j p, j < n → l[j]? = some p → i ≠ j → ∀ d, p.dst = some d → d ∈ o.looksAt l.toArray → ∃ e ∈ o.after, Region.binds .any e = true ∧ e.on = j
theorem lateB_ok {l : List Oper} {n : Nat} (h : lateB l n = true) (i : Nat) (o : Oper) (ho : l[i]? = some o) : Late l n i o := by
  have hi : i < l.length := (List.getElem?_eq_some_iff.1 ho).1
  have h1 := List.all_eq_true.1 h i (List.mem_range.2 hi)
  simp only [ho, Option.all_some, Bool.and_eq_true] at h1
  obtain ⟨⟨hw, hl⟩, hj⟩ := h1
  refine ⟨fun d hd => (by simpa [hd] using hw), fun e j hjn => ?_, fun j p hjn hp hne d hd hm => ?_⟩
  · simp only [Bool.or_eq_true, bne_iff_ne, ne_eq] at hl
    rcases hl with hl | hl
    · exact absurd e hl
    · obtain ⟨x, hx, hb⟩ := Array.any_eq_true'.1 (List.all_eq_true.1 hl j (List.mem_range.2 hjn))
      simp only [Bool.and_eq_true, beq_iff_eq] at hb
      exact ⟨x, hx, hb.1, hb.2⟩
  · have h2 := List.all_eq_true.1 hj j (List.mem_range.2 hjn)
    simp only [hp, Option.all_some, Bool.or_eq_true, beq_iff_eq, hd] at h2
    rcases h2 with h2 | h2 | h2
    · exact absurd h2 hne
    · simp [hm] at h2
    · obtain ⟨x, hx, hb⟩ := Array.any_eq_true'.1 h2
      simp only [Bool.and_eq_true, beq_iff_eq] at hb
      exact ⟨x, hx, hb.1, hb.2⟩
theorem puts_snoc (t : Nat → Bool) (v : Nat → Value) (o : Oper) : ∀ (r : List Oper) (k : Nat) (a : Act), t (k + r.length) = false → puts k (r ++ [o]) t v a = puts k r t v a
  | [], k, a, h => by
    have h : t k = false := h
    show puts (k + 1) [] t v (if t k then _ else a) = a
    rw [h]; rfl
  | p :: r, k, a, h => by
    rw [List.cons_append, puts, puts]
    exact puts_snoc t v o r (k + 1) _ (by rw [← h]; congr 1; simp; omega)
theorem wpAny_invV {l : List Oper} (hB : reg0 l = true) {Q : Exit → Act → World → Prop} {a0 : Act} (view : (Nat → Value) → Act) (S : (Nat → Bool) → (Nat → Value) → World → Prop)
    (hview : ∀ i o, l[i]? = some o → ∀ t v w, S t v w → t i = false → (∀ e ∈ o.after, Region.binds .any e = true → t e.on = true) → ∀ d ∈ o.looksAt l.toArray, (puts 0 l t v a0).eval (.tmp d) = (view v).eval (.tmp d))
    (hop : ∀ i o, l[i]? = some o → ∀ t v w, S t v w → t i = false → (∀ e ∈ o.after, Region.binds .any e = true → t e.on = true) → givesW P l.toArray o (view v) w (fun x w' => S (setB t i) (setV v i x) w'))
    (hend : ∀ t v w, S t v w → (∀ i, i < l.length → t i = true) → Q .normal (full 0 l v a0) w) :
    ∀ (fuel : Nat) (listed : Array Bool) (v : Nat → Value) (w : World), listed.size = l.length → (List.range l.length).countP (fun i => !listed.getD i false) ≤ fuel → S (fun i => listed.getD i false) v w →
      wpAny P .any l.toArray Q fuel listed (puts 0 l (fun i => listed.getD i false) v a0) w := by
  have hdone : ∀ (listed : Array Bool) (v : Nat → Value) (w : World), listed.size = l.length → S (fun i => listed.getD i false) v w → Region.ready .any l.toArray listed = [] → Q .normal (puts 0 l (fun i => listed.getD i false) v a0) w := by
    intro listed v w hsz hS hr
    have hall : ∀ n i, i ≤ n → i < l.length → listed.getD i false = true := by
      intro n
      induction n with
      | zero =>
        intro i hi hl
        obtain rfl : i = 0 := by omega
        by_cases hx : listed.getD 0 false = true
        · exact hx
        · exfalso
          have : 0 ∈ Region.ready .any l.toArray listed := mem_ready.2 ⟨by simp [hsz, hl] at hx ⊢; exact hx, l[0], by simp [hl], fun e he hb => absurd ((reg0_ok hB 0 l[0] (by simp [hl])).low e he hb) (by omega)⟩
          rw [hr] at this; cases this
      | succ n ih =>
        intro i hi hl
        by_cases hin : i ≤ n
        · exact ih i hin hl
        · by_cases hx : listed.getD i false = true
          · exact hx
          · exfalso
            have : i ∈ Region.ready .any l.toArray listed := mem_ready.2 ⟨by simp [hsz, hl] at hx ⊢; exact hx, l[i], by simp [hl], fun e he hb => by
              have := (reg0_ok hB i l[i] (by simp [hl])).low e he hb
              exact ih e.on (by omega) (by omega)⟩
            rw [hr] at this; cases this
    rw [puts_all _ v l 0 a0 (fun j hj => by rw [Nat.zero_add]; exact hall j j (Nat.le_refl _) hj)]
    exact hend _ v w hS (fun i hi => hall i i (Nat.le_refl _) hi)
  intro fuel
  induction fuel with
  | zero =>
    intro listed v w hsz hc hS
    have hr : Region.ready .any l.toArray listed = [] := by
      cases h : Region.ready .any l.toArray listed with
      | nil => rfl
      | cons i r =>
        exfalso
        have hm : i ∈ Region.ready .any l.toArray listed := by rw [h]; simp
        obtain ⟨h1, o, ho, _⟩ := mem_ready.1 hm
        have hl : i < l.length := by simpa using (Array.getElem?_eq_some_iff.1 ho).1
        have := List.countP_pos_iff (p := fun i => !listed.getD i false) (l := List.range l.length) |>.2 ⟨i, List.mem_range.2 hl, by simp [hsz, hl] at h1 ⊢; exact h1⟩
        omega
    exact ⟨hr, hdone listed v w hsz hS hr⟩
  | succ fuel ih =>
    intro listed v w hsz hc hS
    refine ⟨fun hr => hdone listed v w hsz hS hr, fun i hi => ?_⟩
    obtain ⟨h1, o, ho, hall⟩ := mem_ready.1 hi
    have ho' : l[i]? = some o := by simpa using ho
    have hl : i < l.length := (List.getElem?_eq_some_iff.1 ho').1
    have hf : listed.getD i false = false := by simp [hsz, hl] at h1 ⊢; exact h1
    have ok := reg0_ok hB i o ho'
    have hg := hop i o ho' _ v w hS hf hall
    have hev := hview i o ho' _ v w hS hf hall
    have he : execOp (puts 0 l (fun i => listed.getD i false) v a0).eval o = execOp (view v).eval o := by
      refine execOp_congr o ok.sel fun x hx => ?_
      cases x with
      | tmp d => exact hev d (List.mem_append_left _ (List.mem_filterMap.2 ⟨.tmp d, by simpa using hx, rfl⟩))
      | const _ => rfl
      | global _ => rfl
      | func _ => rfl
    have hwt := wanted_congr hev
    have hset : (fun j => (listed.setIfInBounds i true).getD j false) = setB (fun j => listed.getD j false) i := by
      funext j
      by_cases hj : j = i
      · subst hj; rw [setB_self]; simp [hsz, hl]
      · rw [setB_other _ _ _ hj, getD_set_ne false (fun e => hj e.symm)]
    have hgo : ∀ x w', S (setB (fun j => listed.getD j false) i) (setV v i x) w' → wpAny P .any l.toArray Q fuel (listed.setIfInBounds i true) ((puts 0 l (fun i => listed.getD i false) v a0).put o.dst x) w' := by
      intro x w' hx
      have hp := puts_set (fun i => listed.getD i false) v x o l 0 i a0 ho' (by rw [Nat.zero_add]; exact hf) (fun j p hp hne => ok.dst j p hp hne)
      rw [Nat.zero_add] at hp
      rw [← hp, ← hset]
      refine ih _ _ w' (by simp [hsz]) ?_ (by rw [hset]; exact hx)
      have := countP_lt (List.range l.length) (fun i => !listed.getD i false) (fun j => !(listed.setIfInBounds i true).getD j false) (fun j hj => by
        by_cases hji : j = i
        · subst hji; rw [hf]; rfl
        · rw [getD_set_ne false (fun e => hji e.symm)] at hj; exact hj) i (List.mem_range.2 hl) (by rw [hf]; rfl) (by simp [hsz, hl])
      omega
    unfold wpOp
    simp only [ho]
    unfold givesW at hg
    rw [hwt]
    split
    · rename_i hw
      rw [if_pos hw] at hg
      exact .inl (wp_of_gives he hg hgo)
    · rename_i hw
      rw [if_neg hw] at hg
      exact hgo _ _ hg
theorem gives_mono {o : Oper} {a : Act} {w : World} {K K' : Value → World → Prop} (h : gives P o a w K) (hk : ∀ x w', K x w' → K' x w') : gives P o a w K' := by
  unfold gives at h ⊢
  generalize (execOp a.eval o).run P w = r at *
  cases r with
  | ok n w' =>
    cases n <;> simp only [givesUpon] at h ⊢
    case value v => exact hk _ _ h
    case skip => exact hk _ _ h
    case enter f args =>
      refine Calls.mono h fun e w'' he => ?_
      obtain ⟨v, rfl, hv⟩ := he
      exact ⟨v, rfl, hk _ _ hv⟩
  | halt x w' => simp only [givesUpon] at h
theorem wp_region_late {id : Nat} {Q : Exit → Act → World → Prop} {a0 : Act} {w : World} {l : List Oper} (n : Nat) (hm : P.follows .mixedOrders = true) (hB : (reg0 l && lateB l n && l.all (·.guard.isNone)) = true) (hn : l.length = n + 1) (S : (Nat → Bool) → (Nat → Value) → World → Prop)
    (h0 : S (fun _ => false) (fun _ => undef) { w with drawn := w.drawn + 1 })
    (hop : ∀ i o, l[i]? = some o → ∀ t v w, S t v w → t i = false → (∀ e ∈ o.after, Region.binds .any e = true → t e.on = true) → gives P o (full 0 (l.take n) v a0) w (fun x w' => S (setB t i) (setV v i x) w'))
    (hend : ∀ t v w, S t v w → (∀ i, i < l.length → t i = true) → Q .normal (full 0 l v a0) w) : (Code.region id l.toArray true).wp P Q a0 w := by
  simp only [Bool.and_eq_true] at hB
  obtain ⟨⟨hB1, hB2⟩, hB3⟩ := hB
  have hl : l = l.take n ++ [l[n]] := by
    have := List.take_succ_eq_append_getElem (l := l) (i := n) (by omega)
    rw [List.take_of_length_le (by omega)] at this
    exact this
  let S' : (Nat → Bool) → (Nat → Value) → World → Prop := fun t v w => S t v w ∧ (t n = true → ∀ i, i < n → t i = true)
  have hoff : ∀ i o, l[i]? = some o → ∀ t v w, S' t v w → t i = false → t n = false := by
    intro i o ho t v w hS hti
    cases h : t n with
    | false => rfl
    | true =>
      have hi : i < l.length := (List.getElem?_eq_some_iff.1 ho).1
      by_cases e : i = n
      · rw [e, h] at hti; cases hti
      · rw [hS.2 h i (by omega)] at hti; cases hti
  refine wp_region_any hm ?_
  have hz : (fun i => (Array.replicate l.length false).getD i false) = fun _ => false := by
    funext i; by_cases h : i < l.length <;> simp [h]
  have h := wpAny_invV (P := P) hB1 (Q := Q) (a0 := a0) (fun v => full 0 (l.take n) v a0) S' ?_ ?_ ?_ l.length (Array.replicate l.length false) (fun _ => undef) { w with drawn := w.drawn + 1 } (by simp) (Nat.le_trans List.countP_le_length (by simp)) (by rw [hz]; exact ⟨h0, fun h => by cases h⟩)
  · rw [hz, puts_none] at h
    simpa using h
  · intro i o ho t v w hS hti hall d hd
    have ok := lateB_ok hB2 i o ho
    have htn := hoff i o ho t v w hS hti
    have e : puts 0 l t v a0 = puts 0 (l.take n) t v a0 := by
      conv => lhs; rw [hl]
      exact puts_snoc t v _ _ 0 a0 (by rw [List.length_take, Nat.zero_add, show min n l.length = n by omega]; exact htn)
    rw [e]
    refine puts_eval t v (.tmp d) _ 0 a0 a0 rfl rfl (fun j p hp hj d' hd' hxd => ?_)
    obtain rfl : d = d' := by cases hxd; rfl
    rw [Nat.zero_add] at hj
    have hjn : j < n := by have := (List.getElem?_eq_some_iff.1 hp).1; rw [List.length_take] at this; omega
    rw [List.getElem?_take_of_lt hjn] at hp
    by_cases hij : i = j
    · subst hij
      obtain rfl : o = p := Option.some.inj (ho.symm.trans hp)
      exact ok.own d hd' hd
    · obtain ⟨e, he, hb, hon⟩ := ok.looks j p hjn hp hij d hd' hd
      have := hall e he hb
      rw [hon, hj] at this
      cases this
  · intro i o ho t v w hS hti hall
    have hg : o.guard = none := by simpa using List.all_eq_true.1 hB3 o (List.mem_of_getElem? ho)
    unfold givesW
    rw [if_pos (by simp [Region.wanted, hg])]
    have h1 := hop i o ho t v w hS.1 hti hall
    have hkeep : setB t i n = true → ∀ j, j < n → setB t i j = true := by
      intro hsn j hj
      by_cases e : i = n
      · obtain ⟨x, hx, hb, hon⟩ := (lateB_ok hB2 i o ho).last e j hj
        have := hall x hx hb
        rw [hon] at this
        rw [setB_other _ _ _ (by omega)]
        exact this
      · rw [setB_other _ _ _ (fun h => e h.symm), hoff i o ho t v w hS hti] at hsn
        cases hsn
    exact gives_mono h1 (fun x w' hx => ⟨hx, hkeep⟩)
  · exact fun t v w hS ht => hend t v w hS.1 ht
/-- .. and all values are known ahead. -/
theorem wp_region_lateF {id : Nat} {Q : Exit → Act → World → Prop} {a0 : Act} {w : World} {l : List Oper} (n : Nat) (hm : P.follows .mixedOrders = true) (hB : (reg0 l && lateB l n && l.all (·.guard.isNone)) = true) (hn : l.length = n + 1) (vs : List Value) (hl : l.length = vs.length) (C : World → Prop)
    (h0 : C { w with drawn := w.drawn + 1 })
    (hop : ∀ (i : Nat) (o : Oper), l[i]? = some o → ∀ w, C w → gives P o (fullL (l.take n) (vs.take n) a0) w (fun y w' => vs[i]? = some y ∧ C w'))
    (hend : ∀ w, C w → Q .normal (fullL l vs a0) w) : (Code.region id l.toArray true).wp P Q a0 w := by
  have hB' := hB
  simp only [Bool.and_eq_true] at hB'
  obtain ⟨⟨hB1, hB2⟩, hB3⟩ := hB'
  have hln : (l.take n).length = (vs.take n).length := by rw [List.length_take, List.length_take, hl]
  refine wp_region_late n hm hB hn (fun t v w => C w ∧ ∀ j, t j = true → j < l.length → vs[j]? = some (v j)) ⟨h0, fun _ h => by cases h⟩ ?_ ?_
  · intro i o ho t v w ⟨hC, hv⟩ hti hall
    have ok := lateB_ok hB2 i o ho
    have hg : o.guard = none := by simpa using List.all_eq_true.1 hB3 o (List.mem_of_getElem? ho)
    have hwt : ∀ a : Act, Region.wanted o (yielded l.toArray a.tmps) = true := fun a => by simp [Region.wanted, hg]
    have hs : ∀ d ∈ o.looksAt l.toArray, (fullL (l.take n) (vs.take n) a0).eval (.tmp d) = (full 0 (l.take n) v a0).eval (.tmp d) := by
      intro d hd
      refine (fullL_eval (ops := l.toArray) (l.take n) (vs.take n) v 0 a0 a0 (.tmp d) hln rfl rfl (fun j p hp d' hd' hxd => ?_)).symm
      obtain rfl : d = d' := by cases hxd; rfl
      rw [Nat.zero_add]
      have hjn : j < n := by have := (List.getElem?_eq_some_iff.1 hp).1; rw [List.length_take] at this; omega
      rw [List.getElem?_take_of_lt hjn] at hp
      rw [List.getElem?_take_of_lt hjn]
      by_cases hij : i = j
      · subst hij
        obtain rfl : o = p := Option.some.inj (ho.symm.trans hp)
        exact absurd hd (ok.own d hd')
      · obtain ⟨e, he, hb, hon⟩ := ok.looks j p hjn hp hij d hd' hd
        have ht := hall e he hb
        rw [hon] at ht
        exact hv j ht (by omega)
    have h1 : givesW P l.toArray o (fullL (l.take n) (vs.take n) a0) w (fun y w' => vs[i]? = some y ∧ C w') := by
      unfold givesW; rw [if_pos (hwt _)]; exact hop i o ho w hC
    have h2 := givesW_congr (reg0_ok hB1 i o ho).sel hs (K' := fun x w' => C w' ∧ ∀ j, setB t i j = true → j < l.length → vs[j]? = some (setV v i x j)) (fun y w' ⟨hy, hC'⟩ => ⟨hC', fun j hj hjl => by
      by_cases hji : j = i
      · subst hji; rw [setV_self]; exact hy
      · rw [setV_other _ _ _ _ hji]; rw [setB_other _ _ _ hji] at hj; exact hv j hj hjl⟩) h1
    unfold givesW at h2
    rw [if_pos (hwt _)] at h2
    exact h2
  · intro t v w ⟨hC, hv⟩ ht
    rw [full_fullL v l vs 0 a0 hl (fun i x hx => by
      rw [Nat.zero_add]
      have hil : i < l.length := by rw [hl]; exact (List.getElem?_eq_some_iff.1 hx).1
      exact Option.some.inj ((hv i (ht i hil) hil).symm.trans hx))]
    exact hend w hC
/-- .. where two operations, one behind the other, turn the world (A, then B), the others keep it, and the last one hands B's value on. -/
theorem wp_late_chain {id : Nat} {Q : Exit → Act → World → Prop} {a0 : Act} {w : World} {l : List Oper} (n A B : Nat) (hm : P.follows .mixedOrders = true) (hR : (reg0 l && lateB l n && l.all (·.guard.isNone)) = true) (hn : l.length = n + 1) (hAn : A < n) (hBn : B < n) (hAB : A ≠ B)
    (xs : Value → Value → List Value) (hl : ∀ a b, l.length = (xs a b).length) (hxA : ∀ a b, (xs a b)[A]? = some a) (hxB : ∀ a b, (xs a b)[B]? = some b) (hxn : ∀ a b, (xs a b)[n]? = some b)
    (hxo : ∀ (a b a' b' : Value) (i : Nat), i ≠ A → i ≠ B → i ≠ n → (xs a b)[i]? = (xs a' b')[i]?)
    (hdB : ∀ o, l[B]? = some o → ∃ e ∈ o.after, Region.binds .any e = true ∧ e.on = A)
    (C0 : World → Prop) (C1 C2 : Value → World → Prop) (h0 : C0 { w with drawn := w.drawn + 1 })
    (hop : ∀ (i : Nat) (o : Oper), l[i]? = some o → i ≠ A → i ≠ B → i ≠ n → ∀ a b w, gives P o (fullL (l.take n) ((xs a b).take n) a0) w (fun y w' => (xs undef undef)[i]? = some y ∧ w' = w))
    (hA : ∀ o, l[A]? = some o → ∀ a b w, C0 w → gives P o (fullL (l.take n) ((xs a b).take n) a0) w (fun y w' => C1 y w'))
    (hB : ∀ o, l[B]? = some o → ∀ a b w, C1 a w → gives P o (fullL (l.take n) ((xs a b).take n) a0) w (fun y w' => C2 y w'))
    (hN : ∀ o, l[n]? = some o → ∀ a b w, gives P o (fullL (l.take n) ((xs a b).take n) a0) w (fun y w' => y = b ∧ w' = w))
    (hend : ∀ a b w, C2 b w → Q .normal (fullL l (xs a b) a0) w) : (Code.region id l.toArray true).wp P Q a0 w := by
  have hR' := hR
  simp only [Bool.and_eq_true] at hR'
  obtain ⟨⟨hB1, hB2⟩, hB3⟩ := hR'
  refine wp_region_late n hm hR hn (fun t v wx => (∀ j, t j = true → j < l.length → (xs (v A) (v B))[j]? = some (v j)) ∧ (t A = false → C0 wx) ∧ (t A = true → t B = false → C1 (v A) wx) ∧ (t B = true → C2 (v B) wx) ∧ (t B = true → t A = true) ∧ (t n = true → t B = true))
    ⟨(fun _ h => by cases h), (fun _ => h0), (fun h => by cases h), (fun h => by cases h), (fun h => by cases h), (fun h => by cases h)⟩ ?_ ?_
  · intro i o ho t v wx ⟨hv, c0, c1, c2, cBA, cnB⟩ hti hall
    have ok := lateB_ok hB2 i o ho
    have hg : o.guard = none := by simpa using List.all_eq_true.1 hB3 o (List.mem_of_getElem? ho)
    have hwt : ∀ a : Act, Region.wanted o (yielded l.toArray a.tmps) = true := fun a => by simp [Region.wanted, hg]
    have hln : (l.take n).length = ((xs (v A) (v B)).take n).length := by rw [List.length_take, List.length_take, hl]
    have hs : ∀ d ∈ o.looksAt l.toArray, (fullL (l.take n) ((xs (v A) (v B)).take n) a0).eval (.tmp d) = (full 0 (l.take n) v a0).eval (.tmp d) := by
      intro d hd
      refine (fullL_eval (ops := l.toArray) (l.take n) ((xs (v A) (v B)).take n) v 0 a0 a0 (.tmp d) hln rfl rfl (fun j p hp d' hd' hxd => ?_)).symm
      obtain rfl : d = d' := by cases hxd; rfl
      rw [Nat.zero_add]
      have hjn : j < n := by have := (List.getElem?_eq_some_iff.1 hp).1; rw [List.length_take] at this; omega
      rw [List.getElem?_take_of_lt hjn] at hp
      rw [List.getElem?_take_of_lt hjn]
      by_cases hij : i = j
      · subst hij
        obtain rfl : o = p := Option.some.inj (ho.symm.trans hp)
        exact absurd hd (ok.own d hd')
      · obtain ⟨e, he, hb, hon⟩ := ok.looks j p hjn hp hij d hd' hd
        have ht := hall e he hb
        rw [hon] at ht
        exact hv j ht (by omega)
    have go : ∀ {K K' : Value → World → Prop}, (∀ x w, K x w → K' x w) → gives P o (fullL (l.take n) ((xs (v A) (v B)).take n) a0) wx K → gives P o (full 0 (l.take n) v a0) wx K' := by
      intro K K' hKK h
      have h1 : givesW P l.toArray o (fullL (l.take n) ((xs (v A) (v B)).take n) a0) wx K := by unfold givesW; rw [if_pos (hwt _)]; exact h
      have h2 := givesW_congr (reg0_ok hB1 i o ho).sel hs hKK h1
      unfold givesW at h2
      rw [if_pos (hwt _)] at h2
      exact h2
    by_cases hiA : i = A
    · subst hiA
      have htB : t B = false := by cases h : t B with | false => rfl | true => rw [cBA h] at hti; cases hti
      refine go (fun y w' hy => ?_) (hA o ho _ _ wx (c0 hti))
      have eB : setB t i B = t B := setB_other _ _ _ (fun e => hAB e.symm)
      have vB : setV v i y B = v B := setV_other _ _ _ _ (fun e => hAB e.symm)
      have en : setB t i n = t n := setB_other _ _ _ (by omega)
      rw [eB, vB, en, setB_self, setV_self]
      refine ⟨fun j hj hjl => ?_, (fun h => by cases h), fun _ _ => hy, (fun h => by rw [htB] at h; cases h), fun _ => rfl, cnB⟩
      by_cases hji : j = i
      · subst hji; rw [setV_self]; exact hxA _ _
      · rw [setB_other _ _ _ hji] at hj; rw [setV_other _ _ _ _ hji]
        have hjB : j ≠ B := fun e => by rw [e, htB] at hj; cases hj
        have hjn : j ≠ n := fun e => by rw [e] at hj; rw [cnB hj] at htB; cases htB
        rw [hxo _ _ (v i) (v B) j hji hjB hjn]; exact hv j hj hjl
    · by_cases hiB : i = B
      · subst hiB
        obtain ⟨e, he, hb, hon⟩ := hdB o ho
        have htA := hall e he hb
        rw [hon] at htA
        refine go (fun y w' hy => ?_) (hB o ho _ _ wx (c1 htA hti))
        have eA : setB t i A = t A := setB_other _ _ _ hAB
        have vA : setV v i y A = v A := setV_other _ _ _ _ hAB
        have en : setB t i n = t n := setB_other _ _ _ (by omega)
        rw [eA, vA, en, setB_self, setV_self]
        refine ⟨fun j hj hjl => ?_, (fun h => by rw [htA] at h; cases h), (fun _ h => by cases h), fun _ => hy, fun _ => htA, fun _ => rfl⟩
        by_cases hji : j = i
        · subst hji; rw [setV_self]; exact hxB _ _
        · rw [setB_other _ _ _ hji] at hj; rw [setV_other _ _ _ _ hji]
          have hjn : j ≠ n := fun e => by rw [e] at hj; rw [cnB hj] at hti; cases hti
          by_cases hjA : j = A
          · subst hjA; exact hxA _ _
          · rw [hxo _ _ (v A) (v i) j hjA hji hjn]; exact hv j hj hjl
      · have eA : setB t i A = t A := setB_other _ _ _ (fun e => hiA e.symm)
        have eB : setB t i B = t B := setB_other _ _ _ (fun e => hiB e.symm)
        by_cases hin : i = n
        · subst hin
          have htB : t B = true := by
            obtain ⟨e, he, hb, hon⟩ := ok.last rfl B hBn
            have := hall e he hb
            rwa [hon] at this
          refine go (fun y w' ⟨hy, hW⟩ => ?_) (hN o ho _ _ wx)
          subst hW
          have vA : setV v i y A = v A := setV_other _ _ _ _ (fun e => hiA e.symm)
          have vB : setV v i y B = v B := setV_other _ _ _ _ (fun e => hiB e.symm)
          rw [eA, eB, vA, vB]
          refine ⟨fun j hj hjl => ?_, c0, c1, c2, cBA, fun _ => htB⟩
          by_cases hji : j = i
          · subst hji; rw [setV_self, hy]; exact hxn _ _
          · rw [setB_other _ _ _ hji] at hj; rw [setV_other _ _ _ _ hji]; exact hv j hj hjl
        · refine go (fun y w' ⟨hy, hW⟩ => ?_) (hop i o ho hiA hiB hin _ _ wx)
          subst hW
          have vA : setV v i y A = v A := setV_other _ _ _ _ (fun e => hiA e.symm)
          have vB : setV v i y B = v B := setV_other _ _ _ _ (fun e => hiB e.symm)
          have en : setB t i n = t n := setB_other _ _ _ (fun e => hin e.symm)
          rw [eA, eB, vA, vB, en]
          refine ⟨fun j hj hjl => ?_, c0, c1, c2, cBA, cnB⟩
          by_cases hji : j = i
          · subst hji; rw [setV_self, hxo _ _ undef undef j hiA hiB hin]; exact hy
          · rw [setB_other _ _ _ hji] at hj; rw [setV_other _ _ _ _ hji]; exact hv j hj hjl
  · intro t v wx ⟨hv, c0, c1, c2, cBA, cnB⟩ ht
    rw [full_fullL v l (xs (v A) (v B)) 0 a0 (hl _ _) (fun i x hx => by
      rw [Nat.zero_add]
      have hil : i < l.length := by rw [hl (v A) (v B)]; exact (List.getElem?_eq_some_iff.1 hx).1
      exact Option.some.inj ((hv i (ht i hil) hil).symm.trans hx))]
    exact hend _ _ wx (c2 (ht B (by omega)))
end Go.Proofs.Yteieacamokoejaa
