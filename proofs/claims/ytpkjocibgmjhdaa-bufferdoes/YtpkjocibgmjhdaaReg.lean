/- A statement whose order of evaluation is left open, by an invariant: whatever order the operations come in, a condition on which have come up, what they yielded, and the world, is carried along. Over any program. -/
import Derived.Orders
import Derived.Tactics
import Derived.Below
namespace Go.Proofs.Ytpkjocibgmjhdaa
set_option maxRecDepth 10000
open Go
variable {P : Program}
/-- The walk stands still ahead of this statement: 'refine stop_region 6 ?_; intro X hX'; on with it: 'refine hX.out ?_'. -/
theorem stop_region {ops : Array Oper} {b : Bool} {Q : Exit → Act → World → Prop} {a : Act} {w : World} (id : Nat) (h : ∀ X : Prop, RowKit.Hid ((Code.region id ops b).wp P Q a w → X) → X) : (Code.region id ops b).wp P Q a w :=
  h _ (fun x => x)
/-- The walk stands still at the operation that fills slot d, in a statement whose order is that of the text. -/
theorem stop_list {ops : Array Oper} {Q : Exit → Act → World → Prop} {a : Act} {w : World} {rest : List Oper} {op : Op} {ty : TypeId} {pos : String} {aft : Array Edge} {g : Option (Nat × Bool)} (d : Tmp) (h : ∀ X : Prop, RowKit.Hid (wpList P ops Q (⟨some d, op, ty, pos, aft, g⟩ :: rest) a w → X) → X) : wpList P ops Q (⟨some d, op, ty, pos, aft, g⟩ :: rest) a w :=
  h _ (fun x => x)
/-- What an operation yields, in the state a and the world w. -/
def givesUpon (P : Program) (K : Value → World → Prop) : Result Next → Prop
  | .ok (.value v) w' => K v w'
  | .ok .skip w' => K undef w'
  | .ok (.enter f args) w' => Calls P f args w' (fun e w'' => ∃ v, e = .returned v ∧ K v w'')
  | _ => False
def gives (P : Program) (o : Oper) (a : Act) (w : World) (K : Value → World → Prop) : Prop := givesUpon P K ((execOp a.eval o).run P w)
/-- .. where its guard wants it; else nothing. -/
def givesW (P : Program) (ops : Array Oper) (o : Oper) (a : Act) (w : World) (K : Value → World → Prop) : Prop :=
  if Region.wanted o (yielded ops a.tmps) then gives P o a w K else K undef w
theorem wanted_congr {ops : Array Oper} {o : Oper} {a a' : Act} (h : ∀ t ∈ o.looksAt ops, a.eval (.tmp t) = a'.eval (.tmp t)) : Region.wanted o (yielded ops a.tmps) = Region.wanted o (yielded ops a'.tmps) := by
  unfold Region.wanted
  cases hg : o.guard with
  | none => rfl
  | some gw =>
    obtain ⟨g, want⟩ := gw
    have hy : yielded ops a.tmps g = yielded ops a'.tmps g := by
      unfold yielded
      cases ht : (ops[g]?).bind (·.dst) with
      | none => rfl
      | some t =>
        have := h t (by simp [Oper.looksAt, hg, ht])
        have e : a.tmps.getD t undef = a'.tmps.getD t undef := this
        have e' : a.tmps[t]?.getD undef = a'.tmps[t]?.getD undef := by simpa using e
        simp only [Option.bind_some]
        cases h1 : a.tmps[t]? with
        | none =>
          cases h2 : a'.tmps[t]? with
          | none => rfl
          | some y =>
            obtain rfl : undef = y := by simpa [h1, h2] using e'
            rfl
        | some x =>
          cases h2 : a'.tmps[t]? with
          | none =>
            obtain rfl : x = undef := by simpa [h1, h2] using e'
            rfl
          | some y =>
            obtain rfl : x = y := by simpa [h1, h2] using e'
            rfl
    simp only [hy]
/-- The state in which just those operations have come up that t tells, with the values v. -/
def puts : Nat → List Oper → (Nat → Bool) → (Nat → Value) → Act → Act
  | _, [], _, _, a => a
  | k, o :: r, t, v, a => puts (k + 1) r t v (if t k then a.put o.dst (v k) else a)
/-- .. in which all have. -/
def full : Nat → List Oper → (Nat → Value) → Act → Act
  | _, [], _, a => a
  | k, o :: r, v, a => full (k + 1) r v (a.put o.dst (v k))
def setB (t : Nat → Bool) (i : Nat) : Nat → Bool := fun j => if j = i then true else t j
def setV (v : Nat → Value) (i : Nat) (x : Value) : Nat → Value := fun j => if j = i then x else v j
theorem setB_self (t : Nat → Bool) (i : Nat) : setB t i i = true := by simp [setB]
theorem setB_other (t : Nat → Bool) (i j : Nat) (h : j ≠ i) : setB t i j = t j := by simp [setB, h]
theorem setV_self (v : Nat → Value) (i : Nat) (x : Value) : setV v i x i = x := by simp [setV]
theorem setV_other (v : Nat → Value) (i j : Nat) (x : Value) (h : j ≠ i) : setV v i x j = v j := by simp [setV, h]
theorem keepE {t : Nat → Bool} {v : Nat → Value} {i j : Nat} {x V : Value} (hne : j ≠ i) (h : t j = true → v j = V) : setB t i j = true → setV v i x j = V := by
  rw [setB_other _ _ _ hne, setV_other _ _ _ _ hne]; exact h
theorem newE {t : Nat → Bool} {v : Nat → Value} {i : Nat} {x V : Value} (h : x = V) : setB t i i = true → setV v i x i = V := fun _ => by rw [setV_self]; exact h
/-- No two operations have one destination; each waits for those whose values it looks at; no guard, no select; nothing waits for what stands behind it. -/
def regB (l : List Oper) : Bool :=
  (List.range l.length).all fun i => (l[i]?).all fun o =>
    (match o.op with | .select _ _ => false | _ => true) && (match o.dst with | some d => !(o.looksAt l.toArray).contains d | none => true) &&
    (o.after.all fun e => !Region.binds .any e || decide (e.on < i)) &&
    (List.range l.length).all fun j => (l[j]?).all fun p => i == j ||
      ((match o.dst, p.dst with | some d, some e => d != e | _, _ => true) &&
       (match p.dst with
        | some d => !(o.looksAt l.toArray).contains d || o.after.any (fun e => Region.binds .any e && e.on == j)
        | none => true))
structure RegOk (l : List Oper) (i : Nat) (o : Oper) : Prop where
  sel : ∀ cs b, o.op ≠ .select cs b
  own : ∀ d, o.dst = some d → d ∉ o.looksAt l.toArray
  low : ∀ e ∈ o.after, Region.binds .any e = true → e.on < i
  dst : ∀ j p, l[j]? = some p → i ≠ j → ∀ d, o.dst = some d → p.dst ≠ some d
  looks : ∀ j p, l[j]? = some p → i ≠ j → ∀ d, p.dst = some d → d ∈ o.looksAt l.toArray → ∃ e ∈ o.after, Region.binds .any e = true ∧ e.on = j
theorem regB_ok {l : List Oper} (h : regB l = true) (i : Nat) (o : Oper) (ho : l[i]? = some o) : RegOk l i o := by
  have hi : i < l.length := (List.getElem?_eq_some_iff.1 ho).1
  have h1 := List.all_eq_true.1 h i (List.mem_range.2 hi)
  simp only [ho, Option.all_some, Bool.and_eq_true] at h1
  obtain ⟨⟨⟨hs, hw⟩, hl⟩, hj⟩ := h1
  refine ⟨fun cs b e => (by rw [e] at hs; cases hs), fun d hd => (by simpa [hd] using hw), fun e he hb => ?_, fun j p hp hne d hd hpd => ?_, fun j p hp hne d hd hm => ?_⟩
  · have := Array.all_eq_true_iff_forall_mem.1 hl e he
    simpa [hb] using this
  · have hjl : j < l.length := (List.getElem?_eq_some_iff.1 hp).1
    have h2 := List.all_eq_true.1 hj j (List.mem_range.2 hjl)
    simp only [hp, Option.all_some, Bool.or_eq_true, beq_iff_eq, Bool.and_eq_true, hd, hpd] at h2
    rcases h2 with h2 | ⟨h2, _⟩
    · exact hne h2
    · simp at h2
  · have hjl : j < l.length := (List.getElem?_eq_some_iff.1 hp).1
    have h2 := List.all_eq_true.1 hj j (List.mem_range.2 hjl)
    simp only [hp, Option.all_some, Bool.or_eq_true, beq_iff_eq, Bool.and_eq_true, hd] at h2
    rcases h2 with h2 | ⟨_, h2⟩
    · exact absurd h2 hne
    · rcases h2 with h2 | h2
      · simp [hm] at h2
      · obtain ⟨e, he, hb⟩ := Array.any_eq_true'.1 h2
        simp only [Bool.and_eq_true, beq_iff_eq] at hb
        exact ⟨e, he, hb.1, hb.2⟩
theorem puts_put (t : Nat → Bool) (v : Nat → Value) (d : Option Tmp) (x : Value) : ∀ (r : List Oper) (k : Nat) (a : Act), (∀ p ∈ r, ∀ e, d = some e → p.dst ≠ some e) → puts k r t v (a.put d x) = (puts k r t v a).put d x
  | [], _, _, _ => rfl
  | o :: r, k, a, h => by
    rw [puts, puts]
    split
    · rw [Act.put_comm a x (v k) (h o (by simp))]
      exact puts_put t v d x r (k + 1) _ (fun p hp => h p (by simp [hp]))
    · exact puts_put t v d x r (k + 1) _ (fun p hp => h p (by simp [hp]))
/-- One more comes up. -/
theorem puts_after (t : Nat → Bool) (v : Nat → Value) (x : Value) (k : Nat) : ∀ (r : List Oper) (m : Nat) (a : Act), k < m → puts m r (setB t k) (setV v k x) a = puts m r t v a
  | [], _, _, _ => rfl
  | q :: r, m, a, hm => by
    rw [puts, puts, setB_other _ _ _ (by omega), setV_other _ _ _ _ (by omega), puts_after t v x k r _ _ (by omega)]
theorem puts_set (t : Nat → Bool) (v : Nat → Value) (x : Value) (o : Oper) (r : List Oper) : ∀ (k i : Nat) (a : Act), r[i]? = some o → t (k + i) = false → (∀ j p, r[j]? = some p → i ≠ j → ∀ e, o.dst = some e → p.dst ≠ some e) →
    puts k r (setB t (k + i)) (setV v (k + i) x) a = (puts k r t v a).put o.dst x := by
  induction r with
  | nil => intro k i a ho; simp at ho
  | cons p r ih =>
    intro k i a ho ht hd
    cases i with
    | zero =>
      obtain rfl : p = o := by simpa using ho
      simp only [Nat.add_zero] at ht ⊢
      rw [puts, puts, setB_self, setV_self, if_pos rfl, ht, puts_after t v x k r (k + 1) _ (by omega)]
      exact puts_put t v p.dst x r (k + 1) a (fun q hq e he => by
        obtain ⟨j, hj⟩ := List.getElem?_of_mem hq
        exact hd (j + 1) q (by simpa using hj) (by omega) e he)
    | succ i =>
      rw [puts, puts, setB_other _ _ _ (by omega), setV_other _ _ _ _ (by omega), show k + (i + 1) = k + 1 + i by omega]
      exact ih (k + 1) i _ (by simpa using ho) (by rwa [show k + 1 + i = k + (i + 1) by omega]) (fun j q hq hne => hd (j + 1) q (by simpa using hq) (by omega))
theorem put_size (a : Act) (d : Option Tmp) (x : Value) : (a.put d x).tmps.size = a.tmps.size := by cases d <;> simp [Act.put]
theorem eval_both {a a' : Act} {x : Operand} (d : Option Tmp) (u : Value) (h : a.eval x = a'.eval x) (hs : a.tmps.size = a'.tmps.size) : (a.put d u).eval x = (a'.put d u).eval x := by
  cases d with
  | none => exact h
  | some d =>
    cases x with
    | tmp s =>
      by_cases e : d = s
      · subst e
        simp [Act.eval, Act.put, Array.getElem?_setIfInBounds, hs]
      · rw [Act.eval_put (fun d' hd' hx => e (by cases hd'; cases hx; rfl)), Act.eval_put (fun d' hd' hx => e (by cases hd'; cases hx; rfl)), h]
    | const _ => rfl
    | global _ => rfl
    | func _ => rfl
theorem puts_eval (t : Nat → Bool) (v : Nat → Value) (x : Operand) : ∀ (r : List Oper) (k : Nat) (a a' : Act), a.eval x = a'.eval x → a.tmps.size = a'.tmps.size → (∀ j p, r[j]? = some p → t (k + j) = false → ∀ d, p.dst = some d → x ≠ .tmp d) →
    (puts k r t v a).eval x = (full k r v a').eval x
  | [], _, _, _, h, _, _ => h
  | o :: r, k, a, a', h, hs, hd => by
    rw [puts, full]
    have hd' : ∀ j p, r[j]? = some p → t (k + 1 + j) = false → ∀ d, p.dst = some d → x ≠ .tmp d := fun j p hp ht => hd (j + 1) p (by simpa using hp) (by rwa [show k + (j + 1) = k + 1 + j by omega])
    cases ht : t k with
    | true =>
      rw [if_pos rfl]
      exact puts_eval t v x r (k + 1) _ _ (eval_both _ _ h hs) (by rw [put_size, put_size, hs]) hd'
    | false =>
      rw [if_neg (by decide)]
      refine puts_eval t v x r (k + 1) _ _ ?_ (by rw [put_size, hs]) hd'
      rw [Act.eval_put (fun d hdd hx => hd 0 o rfl (by simpa using ht) d hdd hx)]
      exact h
theorem puts_all (t : Nat → Bool) (v : Nat → Value) : ∀ (r : List Oper) (k : Nat) (a : Act), (∀ j, j < r.length → t (k + j) = true) → puts k r t v a = full k r v a
  | [], _, _, _ => rfl
  | o :: r, k, a, h => by
    rw [puts, full, show t k = true from by simpa using h 0 (by simp), if_pos rfl]
    exact puts_all t v r (k + 1) _ (fun j hj => by have := h (j + 1) (by simp; omega); rwa [show k + (j + 1) = k + 1 + j by omega] at this)
theorem puts_none (v : Nat → Value) : ∀ (r : List Oper) (k : Nat) (a : Act), puts k r (fun _ => false) v a = a
  | [], _, _ => rfl
  | o :: r, k, a => by rw [puts, if_neg (by decide)]; exact puts_none v r (k + 1) a
theorem countP_lt (l : List Nat) (p q : Nat → Bool) (h : ∀ x, q x = true → p x = true) (i : Nat) (hi : i ∈ l) (hp : p i = true) (hq : q i = false) : l.countP q < l.countP p := by
  induction l with
  | nil => cases hi
  | cons y l ih =>
    rw [List.countP_cons, List.countP_cons]
    rcases List.mem_cons.1 hi with rfl | hm
    · have := List.countP_mono_left (l := l) (fun x _ => h x)
      simp only [hp, hq]
      simp; omega
    · have := ih hm
      have := h y
      by_cases hy : q y = true
      · simp [hy, this hy]; omega
      · simp [hy]; split <;> omega
theorem wp_of_gives {o : Oper} {a a' : Act} {w : World} {K : Value → World → Prop} {K' : Act → World → Prop} {Q : Exit → Act → World → Prop} (he : execOp a.eval o = execOp a'.eval o) (h : gives P o a' w K) (hk : ∀ x w', K x w' → K' (a.put o.dst x) w') : o.wp P a w K' Q := by
  unfold gives at h
  unfold Oper.wp
  rw [he]
  generalize (execOp a'.eval o).run P w = r at *
  cases r with
  | ok n w' =>
    cases n <;> simp only [givesUpon] at h <;> simp only [Oper.upon]
    case value v => exact hk _ _ h
    case skip => exact hk _ _ h
    case enter f args =>
      refine Calls.mono h fun e w'' he => ?_
      obtain ⟨v, rfl, hv⟩ := he
      exact hk _ _ hv
  | halt x w' => simp only [givesUpon] at h
theorem wpAny_inv {l : List Oper} (hB : regB l = true) {Q : Exit → Act → World → Prop} {a0 : Act} (S : (Nat → Bool) → (Nat → Value) → World → Prop)
    (hop : ∀ i o, l[i]? = some o → ∀ t v w, S t v w → t i = false → (∀ e ∈ o.after, Region.binds .any e = true → t e.on = true) → givesW P l.toArray o (full 0 l v a0) w (fun x w' => S (setB t i) (setV v i x) w'))
    (hend : ∀ t v w, S t v w → (∀ i, i < l.length → t i = true) → Q .normal (full 0 l v a0) w) :
    ∀ (fuel : Nat) (listed : Array Bool) (v : Nat → Value) (w : World), listed.size = l.length → (List.range l.length).countP (fun i => !listed.getD i false) ≤ fuel → S (fun i => listed.getD i false) v w →
      wpAny P .any l.toArray Q fuel listed (puts 0 l (fun i => listed.getD i false) v a0) w := by
  have hdone : ∀ (listed : Array Bool) (v : Nat → Value) (w : World), listed.size = l.length → S (fun i => listed.getD i false) v w → Region.ready .any l.toArray listed = [] → Q .normal (puts 0 l (fun i => listed.getD i false) v a0) w := by
    intro listed v w hsz hS hr
    have hall : ∀ n i, i ≤ n → i < l.length → listed.getD i false = true := by
      intro n
      induction n with
      | zero =>
        intro i hi hl
        obtain rfl : i = 0 := by omega
        by_cases hx : listed.getD 0 false = true
        · exact hx
        · exfalso
          have : 0 ∈ Region.ready .any l.toArray listed := mem_ready.2 ⟨by simp [hsz, hl] at hx ⊢; exact hx, l[0], by simp [hl], fun e he hb => absurd ((regB_ok hB 0 l[0] (by simp [hl])).low e he hb) (by omega)⟩
          rw [hr] at this; cases this
      | succ n ih =>
        intro i hi hl
        by_cases hin : i ≤ n
        · exact ih i hin hl
        · by_cases hx : listed.getD i false = true
          · exact hx
          · exfalso
            have : i ∈ Region.ready .any l.toArray listed := mem_ready.2 ⟨by simp [hsz, hl] at hx ⊢; exact hx, l[i], by simp [hl], fun e he hb => by
              have := (regB_ok hB i l[i] (by simp [hl])).low e he hb
              exact ih e.on (by omega) (by omega)⟩
            rw [hr] at this; cases this
    rw [puts_all _ v l 0 a0 (fun j hj => by rw [Nat.zero_add]; exact hall j j (Nat.le_refl _) hj)]
    exact hend _ v w hS (fun i hi => hall i i (Nat.le_refl _) hi)
  intro fuel
  induction fuel with
  | zero =>
    intro listed v w hsz hc hS
    have hr : Region.ready .any l.toArray listed = [] := by
      cases h : Region.ready .any l.toArray listed with
      | nil => rfl
      | cons i r =>
        exfalso
        have hm : i ∈ Region.ready .any l.toArray listed := by rw [h]; simp
        obtain ⟨h1, o, ho, _⟩ := mem_ready.1 hm
        have hl : i < l.length := by simpa using (Array.getElem?_eq_some_iff.1 ho).1
        have := List.countP_pos_iff (p := fun i => !listed.getD i false) (l := List.range l.length) |>.2 ⟨i, List.mem_range.2 hl, by simp [hsz, hl] at h1 ⊢; exact h1⟩
        omega
    exact ⟨hr, hdone listed v w hsz hS hr⟩
  | succ fuel ih =>
    intro listed v w hsz hc hS
    refine ⟨fun hr => hdone listed v w hsz hS hr, fun i hi => ?_⟩
    obtain ⟨h1, o, ho, hall⟩ := mem_ready.1 hi
    have ho' : l[i]? = some o := by simpa using ho
    have hl : i < l.length := (List.getElem?_eq_some_iff.1 ho').1
    have hf : listed.getD i false = false := by simp [hsz, hl] at h1 ⊢; exact h1
    have ok := regB_ok hB i o ho'
    have hg := hop i o ho' _ v w hS hf hall
    have hev : ∀ d ∈ o.looksAt l.toArray, (puts 0 l (fun i => listed.getD i false) v a0).eval (.tmp d) = (full 0 l v a0).eval (.tmp d) := by
      intro d hd0
      refine puts_eval _ v (.tmp d) l 0 a0 a0 rfl rfl (fun j p hp hj d' hd hxd => ?_)
      obtain rfl : d = d' := by cases hxd; rfl
      rw [Nat.zero_add] at hj
      by_cases hij : i = j
      · subst hij
        obtain rfl : o = p := Option.some.inj (ho'.symm.trans hp)
        exact ok.own d hd hd0
      · obtain ⟨e, he, hb, hon⟩ := ok.looks j p hp hij d hd hd0
        have := hall e he hb
        rw [hon, hj] at this
        cases this
    have he : execOp (puts 0 l (fun i => listed.getD i false) v a0).eval o = execOp (full 0 l v a0).eval o := by
      refine execOp_congr o ok.sel fun x hx => ?_
      cases x with
      | tmp d => exact hev d (List.mem_append_left _ (List.mem_filterMap.2 ⟨.tmp d, by simpa using hx, rfl⟩))
      | const _ => rfl
      | global _ => rfl
      | func _ => rfl
    have hwt := wanted_congr hev
    have hset : (fun j => (listed.setIfInBounds i true).getD j false) = setB (fun j => listed.getD j false) i := by
      funext j
      by_cases hj : j = i
      · subst hj; rw [setB_self]; simp [hsz, hl]
      · rw [setB_other _ _ _ hj, getD_set_ne false (fun e => hj e.symm)]
    have hgo : ∀ x w', S (setB (fun j => listed.getD j false) i) (setV v i x) w' → wpAny P .any l.toArray Q fuel (listed.setIfInBounds i true) ((puts 0 l (fun i => listed.getD i false) v a0).put o.dst x) w' := by
      intro x w' hx
      have hp := puts_set (fun i => listed.getD i false) v x o l 0 i a0 ho' (by rw [Nat.zero_add]; exact hf) (fun j p hp hne => ok.dst j p hp hne)
      rw [Nat.zero_add] at hp
      rw [← hp, ← hset]
      refine ih _ _ w' (by simp [hsz]) ?_ (by rw [hset]; exact hx)
      have := countP_lt (List.range l.length) (fun i => !listed.getD i false) (fun j => !(listed.setIfInBounds i true).getD j false) (fun j hj => by
        by_cases hji : j = i
        · subst hji; rw [hf]; rfl
        · rw [getD_set_ne false (fun e => hji e.symm)] at hj; exact hj) i (List.mem_range.2 hl) (by rw [hf]; rfl) (by simp [hsz, hl])
      omega
    unfold wpOp
    simp only [ho]
    unfold givesW at hg
    rw [hwt]
    split
    · rename_i hw
      rw [if_pos hw] at hg
      exact .inl (wp_of_gives he hg hgo)
    · rename_i hw
      rw [if_neg hw] at hg
      exact hgo _ _ hg
/-- With guards. -/
theorem wp_region_invW {id : Nat} {Q : Exit → Act → World → Prop} {a0 : Act} {w : World} {l : List Oper} (hm : P.follows .mixedOrders = true) (hB : regB l = true) (S : (Nat → Bool) → (Nat → Value) → World → Prop)
    (h0 : S (fun _ => false) (fun _ => undef) { w with drawn := w.drawn + 1 })
    (hop : ∀ i o, l[i]? = some o → ∀ t v w, S t v w → t i = false → (∀ e ∈ o.after, Region.binds .any e = true → t e.on = true) → givesW P l.toArray o (full 0 l v a0) w (fun x w' => S (setB t i) (setV v i x) w'))
    (hend : ∀ t v w, S t v w → (∀ i, i < l.length → t i = true) → Q .normal (full 0 l v a0) w) : (Code.region id l.toArray true).wp P Q a0 w := by
  refine wp_region_any hm ?_
  have hz : (fun i => (Array.replicate l.length false).getD i false) = fun _ => false := by
    funext i; by_cases h : i < l.length <;> simp [h]
  have h := wpAny_inv hB S hop hend l.length (Array.replicate l.length false) (fun _ => undef) { w with drawn := w.drawn + 1 } (by simp) (Nat.le_trans List.countP_le_length (by simp)) (by rw [hz]; exact h0)
  rw [hz, puts_none] at h
  simpa using h
/-- Without. -/
theorem wp_region_inv {id : Nat} {Q : Exit → Act → World → Prop} {a0 : Act} {w : World} {l : List Oper} (hm : P.follows .mixedOrders = true) (hB : (regB l && l.all (·.guard.isNone)) = true) (S : (Nat → Bool) → (Nat → Value) → World → Prop)
    (h0 : S (fun _ => false) (fun _ => undef) { w with drawn := w.drawn + 1 })
    (hop : ∀ i o, l[i]? = some o → ∀ t v w, S t v w → t i = false → (∀ e ∈ o.after, Region.binds .any e = true → t e.on = true) → gives P o (full 0 l v a0) w (fun x w' => S (setB t i) (setV v i x) w'))
    (hend : ∀ t v w, S t v w → (∀ i, i < l.length → t i = true) → Q .normal (full 0 l v a0) w) : (Code.region id l.toArray true).wp P Q a0 w := by
  rw [Bool.and_eq_true] at hB
  refine wp_region_invW hm hB.1 S h0 (fun i o ho t v w hS ht hall => ?_) hend
  have hg : o.guard = none := by simpa using List.all_eq_true.1 hB.2 o (List.mem_of_getElem? ho)
  unfold givesW
  rw [if_pos (by simp [Region.wanted, hg])]
  exact hop i o ho t v w hS ht hall
/-- All values are known ahead: each operation, in the state in which all have come up, yields its value, and keeps the world in a class. -/
def allGive (P : Program) (ops : Array Oper) (C : World → Prop) (A : Act) : List Oper → List Value → Prop
  | [], _ => True
  | _ :: _, [] => False
  | o :: r, x :: xs => (∀ w, C w → givesW P ops o A w (fun y w' => y = x ∧ C w')) ∧ allGive P ops C A r xs
def fullL : List Oper → List Value → Act → Act
  | o :: r, x :: xs, a => fullL r xs (a.put o.dst x)
  | _, _, a => a
theorem allGive_at {ops : Array Oper} {C : World → Prop} {A : Act} : ∀ (r : List Oper) (xs : List Value), allGive P ops C A r xs → ∀ (i : Nat) (o : Oper), r[i]? = some o → ∃ x, xs[i]? = some x ∧ ∀ w, C w → givesW P ops o A w (fun y w' => y = x ∧ C w')
  | [], _, _, i, o, ho => by simp at ho
  | _ :: _, [], h, _, _, _ => h.elim
  | p :: r, x :: xs, h, i, o, ho => by
    cases i with
    | zero =>
      obtain rfl : p = o := by simpa using ho
      exact ⟨x, rfl, h.1⟩
    | succ i => exact allGive_at r xs h.2 i o (by simpa using ho)
theorem full_fullL (v : Nat → Value) : ∀ (r : List Oper) (xs : List Value) (k : Nat) (a : Act), r.length = xs.length → (∀ i x, xs[i]? = some x → v (k + i) = x) → full k r v a = fullL r xs a
  | [], [], _, _, _, _ => rfl
  | o :: r, x :: xs, k, a, hl, h => by
    rw [full, fullL, show v k = x from h 0 x rfl]
    exact full_fullL v r xs (k + 1) _ (by simpa using hl) (fun i y hy => by rw [show k + 1 + i = k + (i + 1) by omega]; exact h (i + 1) y (by simpa using hy))
  | [], _ :: _, _, _, hl, _ => by simp at hl
  | _ :: _, [], _, _, hl, _ => by simp at hl
theorem fullL_eval {ops : Array Oper} : ∀ (r : List Oper) (xs : List Value) (v : Nat → Value) (k : Nat) (a a' : Act) (x : Operand), r.length = xs.length → a.eval x = a'.eval x → a.tmps.size = a'.tmps.size →
    (∀ i p, r[i]? = some p → ∀ d, p.dst = some d → x = .tmp d → xs[i]? = some (v (k + i))) → (full k r v a).eval x = (fullL r xs a').eval x
  | [], [], _, _, _, _, _, _, h, _, _ => h
  | o :: r, y :: ys, v, k, a, a', x, hl, h, hs, hv => by
    rw [full, fullL]
    refine fullL_eval (ops := ops) r ys v (k + 1) _ _ x (by simpa using hl) ?_ (by rw [put_size, put_size, hs]) (fun i p hp d hd hx => by
      have := hv (i + 1) p (by simpa using hp) d hd hx
      rw [show k + 1 + i = k + (i + 1) by omega]; simpa using this)
    by_cases hx : ∃ d, o.dst = some d ∧ x = .tmp d
    · obtain ⟨d, hd, hx⟩ := hx
      have := hv 0 o rfl d hd hx
      have e : y = v k := by simpa using this
      rw [e]
      exact eval_both _ _ h hs
    · rw [Act.eval_put (fun d hd hxd => hx ⟨d, hd, hxd⟩), Act.eval_put (fun d hd hxd => hx ⟨d, hd, hxd⟩), h]
  | [], _ :: _, _, _, _, _, _, hl, _, _, _ => by simp at hl
  | _ :: _, [], _, _, _, _, _, hl, _, _, _ => by simp at hl
theorem givesW_congr {ops : Array Oper} {o : Oper} {a a' : Act} {w : World} {K K' : Value → World → Prop} (hsel : ∀ cs b, o.op ≠ .select cs b) (h : ∀ t ∈ o.looksAt ops, a.eval (.tmp t) = a'.eval (.tmp t)) (hK : ∀ x w, K x w → K' x w) (hg : givesW P ops o a w K) : givesW P ops o a' w K' := by
  have he : execOp a'.eval o = execOp a.eval o := by
    refine execOp_congr o hsel fun x hx => ?_
    cases x with
    | tmp d => exact (h d (List.mem_append_left _ (List.mem_filterMap.2 ⟨.tmp d, by simpa using hx, rfl⟩))).symm
    | const _ => rfl
    | global _ => rfl
    | func _ => rfl
  unfold givesW at *
  rw [← wanted_congr h]
  split
  · rename_i hw
    rw [if_pos hw] at hg
    unfold gives at *
    rw [he]
    generalize (execOp a.eval o).run P w = r at *
    cases r with
    | ok n w' =>
      cases n <;> simp only [givesUpon] at hg ⊢
      case value v => exact hK _ _ hg
      case skip => exact hK _ _ hg
      case enter f args =>
        refine Calls.mono hg fun e w'' he => ?_
        obtain ⟨v, rfl, hv⟩ := he
        exact ⟨v, rfl, hK _ _ hv⟩
    | halt x w' => simp only [givesUpon] at hg
  · rename_i hw
    rw [if_neg hw] at hg
    exact hK _ _ hg
theorem setB_lt (k : Nat) : setB (fun i => decide (i < k)) k = fun i => decide (i < k + 1) := by
  funext j
  by_cases h : j = k
  · subst h; rw [setB_self]; simp
  · rw [setB_other _ _ _ h]
    simp; omega
/-- The same for a statement whose order is that of the text. -/
theorem wpList_fixed {Q : Exit → Act → World → Prop} {a0 : Act} {l : List Oper} (hB : regB l = true) (vs : List Value) (hl : l.length = vs.length) (C : World → Prop)
    (hop : allGive P l.toArray C (fullL l vs a0) l vs) (hend : ∀ w, C w → Q .normal (fullL l vs a0) w) :
    ∀ (r : List Oper) (k : Nat) (v : Nat → Value) (w : World), l.drop k = r → C w → (∀ i x, vs[i]? = some x → i < k → v i = x) → wpList P l.toArray Q r (puts 0 l (fun i => decide (i < k)) v a0) w := by
  intro r
  induction r with
  | nil =>
    intro k v w hd hC hv
    have hk : l.length ≤ k := List.drop_eq_nil_iff.1 hd
    apply wpList_nil
    rw [puts_all _ v l 0 a0 (fun j hj => by simp; omega), full_fullL v l vs 0 a0 hl (fun i x hx => by rw [Nat.zero_add]; exact hv i x hx (by have := (List.getElem?_eq_some_iff.1 hx).1; omega))]
    exact hend w hC
  | cons o r ih =>
    intro k v w hd hC hv
    have ho : l[k]? = some o := by
      have := congrArg (fun x => x[0]?) hd
      simpa using this
    have hr : l.drop (k + 1) = r := by
      have := congrArg List.tail hd
      simpa using this
    obtain ⟨x, hx, hg⟩ := allGive_at l vs hop k o ho
    have ok := regB_ok hB k o ho
    have hev : ∀ d ∈ o.looksAt l.toArray, (puts 0 l (fun i => decide (i < k)) v a0).eval (.tmp d) = (fullL l vs a0).eval (.tmp d) := by
      intro d hd0
      have h1 : (puts 0 l (fun i => decide (i < k)) v a0).eval (.tmp d) = (full 0 l v a0).eval (.tmp d) := by
        refine puts_eval _ v (.tmp d) l 0 a0 a0 rfl rfl (fun j p hp hj d' hd' hxd => ?_)
        obtain rfl : d = d' := by cases hxd; rfl
        rw [Nat.zero_add] at hj
        by_cases hij : k = j
        · subst hij
          obtain rfl : o = p := Option.some.inj (ho.symm.trans hp)
          exact ok.own d hd' hd0
        · obtain ⟨e, he, hb, hon⟩ := ok.looks j p hp hij d hd' hd0
          have := ok.low e he hb
          simp at hj; omega
      rw [h1]
      refine fullL_eval (ops := l.toArray) l vs v 0 a0 a0 (.tmp d) hl rfl rfl (fun j p hp d' hd' hxd => ?_)
      obtain rfl : d = d' := by cases hxd; rfl
      rw [Nat.zero_add]
      have hjl : j < vs.length := by rw [← hl]; exact (List.getElem?_eq_some_iff.1 hp).1
      by_cases hij : k = j
      · subst hij
        obtain rfl : o = p := Option.some.inj (ho.symm.trans hp)
        exact absurd hd0 (ok.own d hd')
      · obtain ⟨e, he, hb, hon⟩ := ok.looks j p hp hij d hd' hd0
        have := ok.low e he hb
        rw [hv j _ (List.getElem?_eq_getElem hjl) (by omega)]
        exact List.getElem?_eq_getElem hjl
    have he : execOp (puts 0 l (fun i => decide (i < k)) v a0).eval o = execOp (fullL l vs a0).eval o := by
      refine execOp_congr o ok.sel fun x hx => ?_
      cases x with
      | tmp d => exact hev d (List.mem_append_left _ (List.mem_filterMap.2 ⟨.tmp d, by simpa using hx, rfl⟩))
      | const _ => rfl
      | global _ => rfl
      | func _ => rfl
    have hgo : ∀ y w', (y = x ∧ C w') → wpList P l.toArray Q r ((puts 0 l (fun i => decide (i < k)) v a0).put o.dst y) w' := by
      rintro y w' ⟨rfl, hC'⟩
      have hp := puts_set (fun i => decide (i < k)) v y o l 0 k a0 ho (by simp) (fun j p hp hne => ok.dst j p hp hne)
      rw [Nat.zero_add, setB_lt] at hp
      rw [← hp]
      refine ih (k + 1) _ w' hr hC' (fun i z hz hi => ?_)
      by_cases hik : i = k
      · subst hik
        rw [setV_self]
        exact Option.some.inj (hx.symm.trans hz)
      · rw [setV_other _ _ _ _ hik]
        exact hv i z hz (by omega)
    have hgw := hg w hC
    unfold givesW at hgw
    unfold wpList
    rw [wanted_congr hev]
    split
    · rename_i hw
      rw [if_pos hw] at hgw
      exact .inl (wp_of_gives he hgw hgo)
    · rename_i hw
      rw [if_neg hw] at hgw
      exact hgo _ _ hgw
theorem wp_list_text {Q : Exit → Act → World → Prop} {a0 : Act} {w : World} {l : List Oper} (hB : regB l = true) (vs : List Value) (hl : l.length = vs.length) (C : World → Prop)
    (h0 : C w) (hop : allGive P l.toArray C (fullL l vs a0) l vs) (hend : ∀ w, C w → Q .normal (fullL l vs a0) w) : wpList P l.toArray Q l a0 w := by
  have h := wpList_fixed hB vs hl C hop hend l 0 (fun _ => undef) w rfl h0 (fun i x _ hi => absurd hi (by omega))
  have e : (fun i : Nat => decide (i < 0)) = fun _ => false := by funext i; simp
  rw [e, puts_none] at h
  exact h
theorem wp_region_fixed {id : Nat} {Q : Exit → Act → World → Prop} {a0 : Act} {w : World} {l : List Oper} (hm : P.follows .mixedOrders = true) (hB : regB l = true) (vs : List Value) (hl : l.length = vs.length) (C : World → Prop)
    (h0 : C { w with drawn := w.drawn + 1 }) (hop : allGive P l.toArray C (fullL l vs a0) l vs) (hend : ∀ w, C w → Q .normal (fullL l vs a0) w) : (Code.region id l.toArray true).wp P Q a0 w := by
  refine wp_region_invW hm hB (fun t v w => C w ∧ ∀ i x, vs[i]? = some x → t i = true → v i = x) ⟨h0, fun _ _ _ h => by cases h⟩ ?_ ?_
  · intro i o ho t v w ⟨hC, hv⟩ hti hall
    obtain ⟨x, hx, hg⟩ := allGive_at l vs hop i o ho
    have ok := regB_ok hB i o ho
    refine givesW_congr ok.sel (fun d hd => ?_) (fun y w' ⟨hy, hC'⟩ => ?_) (hg w hC)
    · refine (fullL_eval (ops := l.toArray) l vs v 0 a0 a0 (.tmp d) hl rfl rfl (fun j p hp d' hd' hxd => ?_)).symm
      obtain rfl : d = d' := by cases hxd; rfl
      rw [Nat.zero_add]
      have hjl : j < vs.length := by rw [← hl]; exact (List.getElem?_eq_some_iff.1 hp).1
      by_cases hij : i = j
      · subst hij
        obtain rfl : o = p := Option.some.inj (ho.symm.trans hp)
        exact absurd hd (ok.own d hd')
      · obtain ⟨e, he, hb, hon⟩ := ok.looks j p hp hij d hd' hd
        have ht := hall e he hb
        rw [hon] at ht
        rw [hv j _ (List.getElem?_eq_getElem hjl) ht]
        exact List.getElem?_eq_getElem hjl
    · refine ⟨hC', fun j z hz ht => ?_⟩
      by_cases hji : j = i
      · subst hji
        rw [setV_self, hy]
        exact Option.some.inj (hx.symm.trans hz)
      · rw [setV_other _ _ _ _ hji]
        rw [setB_other _ _ _ hji] at ht
        exact hv j z hz ht
  · intro t v w ⟨hC, hv⟩ ht
    rw [full_fullL v l vs 0 a0 hl (fun i x hx => by rw [Nat.zero_add]; exact hv i x hx (ht i (by rw [hl]; exact (List.getElem?_eq_some_iff.1 hx).1)))]
    exact hend w hC
end Go.Proofs.Ytpkjocibgmjhdaa
