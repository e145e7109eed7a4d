/- Statements of drawn order, laws of single operations, memory as a list of parts, rows. -/
import Derived.Orders
import Derived.Tactics
import Derived.Below
import Derived.Test.YtpenicjlpiechaaDoorQBas
import Derived.Laws.StructEq
import Derived.Laws.AppendOwn
namespace Go.Proofs.YtpenicjlpiechaaDoor
set_option maxRecDepth 10000
open Go
variable {P : Program}
/-- The walk stands still ahead of this statement: 'refine stop_region 6 ?_; intro X hX'; on with it: 'refine hX.out ?_'. -/
theorem stop_region {ops : Array Oper} {b : Bool} {Q : Exit → Act → World → Prop} {a : Act} {w : World} (id : Nat) (h : ∀ X : Prop, RowKit.Hid ((Code.region id ops b).wp P Q a w → X) → X) : (Code.region id ops b).wp P Q a w :=
  h _ (fun x => x)
/-- The walk stands still at the operation that fills slot d, in a statement whose order is that of the text. -/
theorem stop_list {ops : Array Oper} {Q : Exit → Act → World → Prop} {a : Act} {w : World} {rest : List Oper} {op : Op} {ty : TypeId} {pos : String} {aft : Array Edge} {g : Option (Nat × Bool)} (d : Tmp) (h : ∀ X : Prop, RowKit.Hid (wpList P ops Q (⟨some d, op, ty, pos, aft, g⟩ :: rest) a w → X) → X) : wpList P ops Q (⟨some d, op, ty, pos, aft, g⟩ :: rest) a w :=
  h _ (fun x => x)
/-- What an operation yields, in the state a and the world w. -/
def givesUpon (P : Program) (K : Value → World → Prop) : Result Next → Prop
  | .ok (.value v) w' => K v w'
  | .ok .skip w' => K undef w'
  | .ok (.enter f args) w' => Calls P f args w' (fun e w'' => ∃ v, e = .returned v ∧ K v w'')
  | _ => False
def gives (P : Program) (o : Oper) (a : Act) (w : World) (K : Value → World → Prop) : Prop := givesUpon P K ((execOp a.eval o).run P w)
/-- .. where its guard wants it; else nothing. -/
def givesW (P : Program) (ops : Array Oper) (o : Oper) (a : Act) (w : World) (K : Value → World → Prop) : Prop :=
  if Region.wanted o (yielded ops a.tmps) then gives P o a w K else K undef w
theorem wanted_congr {ops : Array Oper} {o : Oper} {a a' : Act} (h : ∀ t ∈ o.looksAt ops, a.eval (.tmp t) = a'.eval (.tmp t)) : Region.wanted o (yielded ops a.tmps) = Region.wanted o (yielded ops a'.tmps) := by
  unfold Region.wanted
  cases hg : o.guard with
  | none => rfl
  | some gw =>
    obtain ⟨g, want⟩ := gw
    have hy : yielded ops a.tmps g = yielded ops a'.tmps g := by
      unfold yielded
      cases ht : (ops[g]?).bind (·.dst) with
      | none => rfl
      | some t =>
        have := h t (by simp [Oper.looksAt, hg, ht])
        have e : a.tmps.getD t undef = a'.tmps.getD t undef := this
        have e' : a.tmps[t]?.getD undef = a'.tmps[t]?.getD undef := by simpa using e
        simp only [Option.bind_some]
        cases h1 : a.tmps[t]? with
        | none =>
          cases h2 : a'.tmps[t]? with
          | none => rfl
          | some y =>
            obtain rfl : undef = y := by simpa [h1, h2] using e'
            rfl
        | some x =>
          cases h2 : a'.tmps[t]? with
          | none =>
            obtain rfl : x = undef := by simpa [h1, h2] using e'
            rfl
          | some y =>
            obtain rfl : x = y := by simpa [h1, h2] using e'
            rfl
    simp only [hy]
/-- The state in which just those operations have come up that t tells, with the values v. -/
def puts : Nat → List Oper → (Nat → Bool) → (Nat → Value) → Act → Act
  | _, [], _, _, a => a
  | k, o :: r, t, v, a => puts (k + 1) r t v (if t k then a.put o.dst (v k) else a)
/-- .. in which all have. -/
def full : Nat → List Oper → (Nat → Value) → Act → Act
  | _, [], _, a => a
  | k, o :: r, v, a => full (k + 1) r v (a.put o.dst (v k))
def setB (t : Nat → Bool) (i : Nat) : Nat → Bool := fun j => if j = i then true else t j
def setV (v : Nat → Value) (i : Nat) (x : Value) : Nat → Value := fun j => if j = i then x else v j
theorem setB_self (t : Nat → Bool) (i : Nat) : setB t i i = true := by simp [setB]
theorem setB_other (t : Nat → Bool) (i j : Nat) (h : j ≠ i) : setB t i j = t j := by simp [setB, h]
theorem setV_self (v : Nat → Value) (i : Nat) (x : Value) : setV v i x i = x := by simp [setV]
theorem setV_other (v : Nat → Value) (i j : Nat) (x : Value) (h : j ≠ i) : setV v i x j = v j := by simp [setV, h]
theorem keepE {t : Nat → Bool} {v : Nat → Value} {i j : Nat} {x V : Value} (hne : j ≠ i) (h : t j = true → v j = V) : setB t i j = true → setV v i x j = V := by
  rw [setB_other _ _ _ hne, setV_other _ _ _ _ hne]; exact h
theorem newE {t : Nat → Bool} {v : Nat → Value} {i : Nat} {x V : Value} (h : x = V) : setB t i i = true → setV v i x i = V := fun _ => by rw [setV_self]; exact h
/-- No two operations have one destination; each waits for those whose values it looks at; no guard, no select; nothing waits for what stands behind it. -/
def regB (l : List Oper) : Bool :=
  (List.range l.length).all fun i => (l[i]?).all fun o =>
    (match o.op with | .select _ _ => false | _ => true) && (match o.dst with | some d => !(o.looksAt l.toArray).contains d | none => true) &&
    (o.after.all fun e => !Region.binds .any e || decide (e.on < i)) &&
    (List.range l.length).all fun j => (l[j]?).all fun p => i == j ||
      ((match o.dst, p.dst with | some d, some e => d != e | _, _ => true) &&
       (match p.dst with
        | some d => !(o.looksAt l.toArray).contains d || o.after.any (fun e => Region.binds .any e && e.on == j)
        | none => true))
structure RegOk (l : List Oper) (i : Nat) (o : Oper) : Prop where
  sel : ∀ cs b, o.op ≠ .select cs b
  own : ∀ d, o.dst = some d → d ∉ o.looksAt l.toArray
  low : ∀ e ∈ o.after, Region.binds .any e = true → e.on < i
  dst : ∀ j p, l[j]? = some p → i ≠ j → ∀ d, o.dst = some d → p.dst ≠ some d
  looks : ∀ j p, l[j]? = some p → i ≠ j → ∀ d, p.dst = some d → d ∈ o.looksAt l.toArray → ∃ e ∈ o.after, Region.binds .any e = true ∧ e.on = j
theorem regB_ok {l : List Oper} (h : regB l = true) (i : Nat) (o : Oper) (ho : l[i]? = some o) : RegOk l i o := by
  have hi : i < l.length := (List.getElem?_eq_some_iff.1 ho).1
  have h1 := List.all_eq_true.1 h i (List.mem_range.2 hi)
  simp only [ho, Option.all_some, Bool.and_eq_true] at h1
  obtain ⟨⟨⟨hs, hw⟩, hl⟩, hj⟩ := h1
  refine ⟨fun cs b e => (by rw [e] at hs; cases hs), fun d hd => (by simpa [hd] using hw), fun e he hb => ?_, fun j p hp hne d hd hpd => ?_, fun j p hp hne d hd hm => ?_⟩
  · have := Array.all_eq_true_iff_forall_mem.1 hl e he
    simpa [hb] using this
  · have hjl : j < l.length := (List.getElem?_eq_some_iff.1 hp).1
    have h2 := List.all_eq_true.1 hj j (List.mem_range.2 hjl)
    simp only [hp, Option.all_some, Bool.or_eq_true, beq_iff_eq, Bool.and_eq_true, hd, hpd] at h2
    rcases h2 with h2 | ⟨h2, _⟩
    · exact hne h2
    · simp at h2
  · have hjl : j < l.length := (List.getElem?_eq_some_iff.1 hp).1
    have h2 := List.all_eq_true.1 hj j (List.mem_range.2 hjl)
    simp only [hp, Option.all_some, Bool.or_eq_true, beq_iff_eq, Bool.and_eq_true, hd] at h2
    rcases h2 with h2 | ⟨_, h2⟩
    · exact absurd h2 hne
    · rcases h2 with h2 | h2
      · simp [hm] at h2
      · obtain ⟨e, he, hb⟩ := Array.any_eq_true'.1 h2
        simp only [Bool.and_eq_true, beq_iff_eq] at hb
        exact ⟨e, he, hb.1, hb.2⟩
theorem puts_put (t : Nat → Bool) (v : Nat → Value) (d : Option Tmp) (x : Value) : ∀ (r : List Oper) (k : Nat) (a : Act), (∀ p ∈ r, ∀ e, d = some e → p.dst ≠ some e) → puts k r t v (a.put d x) = (puts k r t v a).put d x
  | [], _, _, _ => rfl
  | o :: r, k, a, h => by
    rw [puts, puts]
    split
    · rw [Act.put_comm a x (v k) (h o (by simp))]
      exact puts_put t v d x r (k + 1) _ (fun p hp => h p (by simp [hp]))
    · exact puts_put t v d x r (k + 1) _ (fun p hp => h p (by simp [hp]))
/-- One more comes up. -/
theorem puts_after (t : Nat → Bool) (v : Nat → Value) (x : Value) (k : Nat) : ∀ (r : List Oper) (m : Nat) (a : Act), k < m → puts m r (setB t k) (setV v k x) a = puts m r t v a
  | [], _, _, _ => rfl
  | q :: r, m, a, hm => by
    rw [puts, puts, setB_other _ _ _ (by omega), setV_other _ _ _ _ (by omega), puts_after t v x k r _ _ (by omega)]
theorem puts_set (t : Nat → Bool) (v : Nat → Value) (x : Value) (o : Oper) (r : List Oper) : ∀ (k i : Nat) (a : Act), r[i]? = some o → t (k + i) = false → (∀ j p, r[j]? = some p → i ≠ j → ∀ e, o.dst = some e → p.dst ≠ some e) →
    puts k r (setB t (k + i)) (setV v (k + i) x) a = (puts k r t v a).put o.dst x := by
  induction r with
  | nil => intro k i a ho; simp at ho
  | cons p r ih =>
    intro k i a ho ht hd
    cases i with
    | zero =>
      obtain rfl : p = o := by simpa using ho
      simp only [Nat.add_zero] at ht ⊢
      rw [puts, puts, setB_self, setV_self, if_pos rfl, ht, puts_after t v x k r (k + 1) _ (by omega)]
      exact puts_put t v p.dst x r (k + 1) a (fun q hq e he => by
        obtain ⟨j, hj⟩ := List.getElem?_of_mem hq
        exact hd (j + 1) q (by simpa using hj) (by omega) e he)
    | succ i =>
      rw [puts, puts, setB_other _ _ _ (by omega), setV_other _ _ _ _ (by omega), show k + (i + 1) = k + 1 + i by omega]
      exact ih (k + 1) i _ (by simpa using ho) (by rwa [show k + 1 + i = k + (i + 1) by omega]) (fun j q hq hne => hd (j + 1) q (by simpa using hq) (by omega))
theorem put_size (a : Act) (d : Option Tmp) (x : Value) : (a.put d x).tmps.size = a.tmps.size := by cases d <;> simp [Act.put]
theorem eval_both {a a' : Act} {x : Operand} (d : Option Tmp) (u : Value) (h : a.eval x = a'.eval x) (hs : a.tmps.size = a'.tmps.size) : (a.put d u).eval x = (a'.put d u).eval x := by
  cases d with
  | none => exact h
  | some d =>
    cases x with
    | tmp s =>
      by_cases e : d = s
      · subst e
        simp [Act.eval, Act.put, Array.getElem?_setIfInBounds, hs]
      · rw [Act.eval_put (fun d' hd' hx => e (by cases hd'; cases hx; rfl)), Act.eval_put (fun d' hd' hx => e (by cases hd'; cases hx; rfl)), h]
    | const _ => rfl
    | global _ => rfl
    | func _ => rfl
theorem puts_eval (t : Nat → Bool) (v : Nat → Value) (x : Operand) : ∀ (r : List Oper) (k : Nat) (a a' : Act), a.eval x = a'.eval x → a.tmps.size = a'.tmps.size → (∀ j p, r[j]? = some p → t (k + j) = false → ∀ d, p.dst = some d → x ≠ .tmp d) →
    (puts k r t v a).eval x = (full k r v a').eval x
  | [], _, _, _, h, _, _ => h
  | o :: r, k, a, a', h, hs, hd => by
    rw [puts, full]
    have hd' : ∀ j p, r[j]? = some p → t (k + 1 + j) = false → ∀ d, p.dst = some d → x ≠ .tmp d := fun j p hp ht => hd (j + 1) p (by simpa using hp) (by rwa [show k + (j + 1) = k + 1 + j by omega])
    cases ht : t k with
    | true =>
      rw [if_pos rfl]
      exact puts_eval t v x r (k + 1) _ _ (eval_both _ _ h hs) (by rw [put_size, put_size, hs]) hd'
    | false =>
      rw [if_neg (by decide)]
      refine puts_eval t v x r (k + 1) _ _ ?_ (by rw [put_size, hs]) hd'
      rw [Act.eval_put (fun d hdd hx => hd 0 o rfl (by simpa using ht) d hdd hx)]
      exact h
theorem puts_all (t : Nat → Bool) (v : Nat → Value) : ∀ (r : List Oper) (k : Nat) (a : Act), (∀ j, j < r.length → t (k + j) = true) → puts k r t v a = full k r v a
  | [], _, _, _ => rfl
  | o :: r, k, a, h => by
    rw [puts, full, show t k = true from by simpa using h 0 (by simp), if_pos rfl]
    exact puts_all t v r (k + 1) _ (fun j hj => by have := h (j + 1) (by simp; omega); rwa [show k + (j + 1) = k + 1 + j by omega] at this)
theorem puts_none (v : Nat → Value) : ∀ (r : List Oper) (k : Nat) (a : Act), puts k r (fun _ => false) v a = a
  | [], _, _ => rfl
  | o :: r, k, a => by rw [puts, if_neg (by decide)]; exact puts_none v r (k + 1) a
theorem countP_lt (l : List Nat) (p q : Nat → Bool) (h : ∀ x, q x = true → p x = true) (i : Nat) (hi : i ∈ l) (hp : p i = true) (hq : q i = false) : l.countP q < l.countP p := by
  induction l with
  | nil => cases hi
  | cons y l ih =>
    rw [List.countP_cons, List.countP_cons]
    rcases List.mem_cons.1 hi with rfl | hm
    · have := List.countP_mono_left (l := l) (fun x _ => h x)
      simp only [hp, hq]
      simp; omega
    · have := ih hm
      have := h y
      by_cases hy : q y = true
      · simp [hy, this hy]; omega
      · simp [hy]; split <;> omega
theorem wp_of_gives {o : Oper} {a a' : Act} {w : World} {K : Value → World → Prop} {K' : Act → World → Prop} {Q : Exit → Act → World → Prop} (he : execOp a.eval o = execOp a'.eval o) (h : gives P o a' w K) (hk : ∀ x w', K x w' → K' (a.put o.dst x) w') : o.wp P a w K' Q := by
  unfold gives at h
  unfold Oper.wp
  rw [he]
  generalize (execOp a'.eval o).run P w = r at *
  cases r with
  | ok n w' =>
    cases n <;> simp only [givesUpon] at h <;> simp only [Oper.upon]
    case value v => exact hk _ _ h
    case skip => exact hk _ _ h
    case enter f args =>
      refine Calls.mono h fun e w'' he => ?_
      obtain ⟨v, rfl, hv⟩ := he
      exact hk _ _ hv
  | halt x w' => simp only [givesUpon] at h
theorem wpAny_inv {l : List Oper} (hB : regB l = true) {Q : Exit → Act → World → Prop} {a0 : Act} (S : (Nat → Bool) → (Nat → Value) → World → Prop)
    (hop : ∀ i o, l[i]? = some o → ∀ t v w, S t v w → t i = false → (∀ e ∈ o.after, Region.binds .any e = true → t e.on = true) → givesW P l.toArray o (full 0 l v a0) w (fun x w' => S (setB t i) (setV v i x) w'))
    (hend : ∀ t v w, S t v w → (∀ i, i < l.length → t i = true) → Q .normal (full 0 l v a0) w) :
    ∀ (fuel : Nat) (listed : Array Bool) (v : Nat → Value) (w : World), listed.size = l.length → (List.range l.length).countP (fun i => !listed.getD i false) ≤ fuel → S (fun i => listed.getD i false) v w →
      wpAny P .any l.toArray Q fuel listed (puts 0 l (fun i => listed.getD i false) v a0) w := by
  have hdone : ∀ (listed : Array Bool) (v : Nat → Value) (w : World), listed.size = l.length → S (fun i => listed.getD i false) v w → Region.ready .any l.toArray listed = [] → Q .normal (puts 0 l (fun i => listed.getD i false) v a0) w := by
    intro listed v w hsz hS hr
    have hall : ∀ n i, i ≤ n → i < l.length → listed.getD i false = true := by
      intro n
      induction n with
      | zero =>
        intro i hi hl
        obtain rfl : i = 0 := by omega
        by_cases hx : listed.getD 0 false = true
        · exact hx
        · exfalso
          have : 0 ∈ Region.ready .any l.toArray listed := mem_ready.2 ⟨by simp [hsz, hl] at hx ⊢; exact hx, l[0], by simp [hl], fun e he hb => absurd ((regB_ok hB 0 l[0] (by simp [hl])).low e he hb) (by omega)⟩
          rw [hr] at this; cases this
      | succ n ih =>
        intro i hi hl
        by_cases hin : i ≤ n
        · exact ih i hin hl
        · by_cases hx : listed.getD i false = true
          · exact hx
          · exfalso
            have : i ∈ Region.ready .any l.toArray listed := mem_ready.2 ⟨by simp [hsz, hl] at hx ⊢; exact hx, l[i], by simp [hl], fun e he hb => by
              have := (regB_ok hB i l[i] (by simp [hl])).low e he hb
              exact ih e.on (by omega) (by omega)⟩
            rw [hr] at this; cases this
    rw [puts_all _ v l 0 a0 (fun j hj => by rw [Nat.zero_add]; exact hall j j (Nat.le_refl _) hj)]
    exact hend _ v w hS (fun i hi => hall i i (Nat.le_refl _) hi)
  intro fuel
  induction fuel with
  | zero =>
    intro listed v w hsz hc hS
    have hr : Region.ready .any l.toArray listed = [] := by
      cases h : Region.ready .any l.toArray listed with
      | nil => rfl
      | cons i r =>
        exfalso
        have hm : i ∈ Region.ready .any l.toArray listed := by rw [h]; simp
        obtain ⟨h1, o, ho, _⟩ := mem_ready.1 hm
        have hl : i < l.length := by simpa using (Array.getElem?_eq_some_iff.1 ho).1
        have := List.countP_pos_iff (p := fun i => !listed.getD i false) (l := List.range l.length) |>.2 ⟨i, List.mem_range.2 hl, by simp [hsz, hl] at h1 ⊢; exact h1⟩
        omega
    exact ⟨hr, hdone listed v w hsz hS hr⟩
  | succ fuel ih =>
    intro listed v w hsz hc hS
    refine ⟨fun hr => hdone listed v w hsz hS hr, fun i hi => ?_⟩
    obtain ⟨h1, o, ho, hall⟩ := mem_ready.1 hi
    have ho' : l[i]? = some o := by simpa using ho
    have hl : i < l.length := (List.getElem?_eq_some_iff.1 ho').1
    have hf : listed.getD i false = false := by simp [hsz, hl] at h1 ⊢; exact h1
    have ok := regB_ok hB i o ho'
    have hg := hop i o ho' _ v w hS hf hall
    have hev : ∀ d ∈ o.looksAt l.toArray, (puts 0 l (fun i => listed.getD i false) v a0).eval (.tmp d) = (full 0 l v a0).eval (.tmp d) := by
      intro d hd0
      refine puts_eval _ v (.tmp d) l 0 a0 a0 rfl rfl (fun j p hp hj d' hd hxd => ?_)
      obtain rfl : d = d' := by cases hxd; rfl
      rw [Nat.zero_add] at hj
      by_cases hij : i = j
      · subst hij
        obtain rfl : o = p := Option.some.inj (ho'.symm.trans hp)
        exact ok.own d hd hd0
      · obtain ⟨e, he, hb, hon⟩ := ok.looks j p hp hij d hd hd0
        have := hall e he hb
        rw [hon, hj] at this
        cases this
    have he : execOp (puts 0 l (fun i => listed.getD i false) v a0).eval o = execOp (full 0 l v a0).eval o := by
      refine execOp_congr o ok.sel fun x hx => ?_
      cases x with
      | tmp d => exact hev d (List.mem_append_left _ (List.mem_filterMap.2 ⟨.tmp d, by simpa using hx, rfl⟩))
      | const _ => rfl
      | global _ => rfl
      | func _ => rfl
    have hwt := wanted_congr hev
    have hset : (fun j => (listed.setIfInBounds i true).getD j false) = setB (fun j => listed.getD j false) i := by
      funext j
      by_cases hj : j = i
      · subst hj; rw [setB_self]; simp [hsz, hl]
      · rw [setB_other _ _ _ hj, getD_set_ne false (fun e => hj e.symm)]
    have hgo : ∀ x w', S (setB (fun j => listed.getD j false) i) (setV v i x) w' → wpAny P .any l.toArray Q fuel (listed.setIfInBounds i true) ((puts 0 l (fun i => listed.getD i false) v a0).put o.dst x) w' := by
      intro x w' hx
      have hp := puts_set (fun i => listed.getD i false) v x o l 0 i a0 ho' (by rw [Nat.zero_add]; exact hf) (fun j p hp hne => ok.dst j p hp hne)
      rw [Nat.zero_add] at hp
      rw [← hp, ← hset]
      refine ih _ _ w' (by simp [hsz]) ?_ (by rw [hset]; exact hx)
      have := countP_lt (List.range l.length) (fun i => !listed.getD i false) (fun j => !(listed.setIfInBounds i true).getD j false) (fun j hj => by
        by_cases hji : j = i
        · subst hji; rw [hf]; rfl
        · rw [getD_set_ne false (fun e => hji e.symm)] at hj; exact hj) i (List.mem_range.2 hl) (by rw [hf]; rfl) (by simp [hsz, hl])
      omega
    unfold wpOp
    simp only [ho]
    unfold givesW at hg
    rw [hwt]
    split
    · rename_i hw
      rw [if_pos hw] at hg
      exact .inl (wp_of_gives he hg hgo)
    · rename_i hw
      rw [if_neg hw] at hg
      exact hgo _ _ hg
/-- With guards. -/
theorem wp_region_invW {id : Nat} {Q : Exit → Act → World → Prop} {a0 : Act} {w : World} {l : List Oper} (hm : P.follows .mixedOrders = true) (hB : regB l = true) (S : (Nat → Bool) → (Nat → Value) → World → Prop)
    (h0 : S (fun _ => false) (fun _ => undef) { w with drawn := w.drawn + 1 })
    (hop : ∀ i o, l[i]? = some o → ∀ t v w, S t v w → t i = false → (∀ e ∈ o.after, Region.binds .any e = true → t e.on = true) → givesW P l.toArray o (full 0 l v a0) w (fun x w' => S (setB t i) (setV v i x) w'))
    (hend : ∀ t v w, S t v w → (∀ i, i < l.length → t i = true) → Q .normal (full 0 l v a0) w) : (Code.region id l.toArray true).wp P Q a0 w := by
  refine wp_region_any hm ?_
  have hz : (fun i => (Array.replicate l.length false).getD i false) = fun _ => false := by
    funext i; by_cases h : i < l.length <;> simp [h]
  have h := wpAny_inv hB S hop hend l.length (Array.replicate l.length false) (fun _ => undef) { w with drawn := w.drawn + 1 } (by simp) (Nat.le_trans List.countP_le_length (by simp)) (by rw [hz]; exact h0)
  rw [hz, puts_none] at h
  simpa using h
/-- Without. -/
theorem wp_region_inv {id : Nat} {Q : Exit → Act → World → Prop} {a0 : Act} {w : World} {l : List Oper} (hm : P.follows .mixedOrders = true) (hB : (regB l && l.all (·.guard.isNone)) = true) (S : (Nat → Bool) → (Nat → Value) → World → Prop)
    (h0 : S (fun _ => false) (fun _ => undef) { w with drawn := w.drawn + 1 })
    (hop : ∀ i o, l[i]? = some o → ∀ t v w, S t v w → t i = false → (∀ e ∈ o.after, Region.binds .any e = true → t e.on = true) → gives P o (full 0 l v a0) w (fun x w' => S (setB t i) (setV v i x) w'))
    (hend : ∀ t v w, S t v w → (∀ i, i < l.length → t i = true) → Q .normal (full 0 l v a0) w) : (Code.region id l.toArray true).wp P Q a0 w := by
  rw [Bool.and_eq_true] at hB
  refine wp_region_invW hm hB.1 S h0 (fun i o ho t v w hS ht hall => ?_) hend
  have hg : o.guard = none := by simpa using List.all_eq_true.1 hB.2 o (List.mem_of_getElem? ho)
  unfold givesW
  rw [if_pos (by simp [Region.wanted, hg])]
  exact hop i o ho t v w hS ht hall
/-- All values are known ahead: each operation, in the state in which all have come up, yields its value, and keeps the world in a class. -/
def allGive (P : Program) (ops : Array Oper) (C : World → Prop) (A : Act) : List Oper → List Value → Prop
  | [], _ => True
  | _ :: _, [] => False
  | o :: r, x :: xs => (∀ w, C w → givesW P ops o A w (fun y w' => y = x ∧ C w')) ∧ allGive P ops C A r xs
def fullL : List Oper → List Value → Act → Act
  | o :: r, x :: xs, a => fullL r xs (a.put o.dst x)
  | _, _, a => a
theorem allGive_at {ops : Array Oper} {C : World → Prop} {A : Act} : ∀ (r : List Oper) (xs : List Value), allGive P ops C A r xs → ∀ (i : Nat) (o : Oper), r[i]? = some o → ∃ x, xs[i]? = some x ∧ ∀ w, C w → givesW P ops o A w (fun y w' => y = x ∧ C w')
  | [], _, _, i, o, ho => by simp at ho
  | _ :: _, [], h, _, _, _ => h.elim
  | p :: r, x :: xs, h, i, o, ho => by
    cases i with
    | zero =>
      obtain rfl : p = o := by simpa using ho
      exact ⟨x, rfl, h.1⟩
    | succ i => exact allGive_at r xs h.2 i o (by simpa using ho)
theorem full_fullL (v : Nat → Value) : ∀ (r : List Oper) (xs : List Value) (k : Nat) (a : Act), r.length = xs.length → (∀ i x, xs[i]? = some x → v (k + i) = x) → full k r v a = fullL r xs a
  | [], [], _, _, _, _ => rfl
  | o :: r, x :: xs, k, a, hl, h => by
    rw [full, fullL, show v k = x from h 0 x rfl]
    exact full_fullL v r xs (k + 1) _ (by simpa using hl) (fun i y hy => by rw [show k + 1 + i = k + (i + 1) by omega]; exact h (i + 1) y (by simpa using hy))
  | [], _ :: _, _, _, hl, _ => by simp at hl
  | _ :: _, [], _, _, hl, _ => by simp at hl
theorem fullL_eval {ops : Array Oper} : ∀ (r : List Oper) (xs : List Value) (v : Nat → Value) (k : Nat) (a a' : Act) (x : Operand), r.length = xs.length → a.eval x = a'.eval x → a.tmps.size = a'.tmps.size →
    (∀ i p, r[i]? = some p → ∀ d, p.dst = some d → x = .tmp d → xs[i]? = some (v (k + i))) → (full k r v a).eval x = (fullL r xs a').eval x
  | [], [], _, _, _, _, _, _, h, _, _ => h
  | o :: r, y :: ys, v, k, a, a', x, hl, h, hs, hv => by
    rw [full, fullL]
    refine fullL_eval (ops := ops) r ys v (k + 1) _ _ x (by simpa using hl) ?_ (by rw [put_size, put_size, hs]) (fun i p hp d hd hx => by
      have := hv (i + 1) p (by simpa using hp) d hd hx
      rw [show k + 1 + i = k + (i + 1) by omega]; simpa using this)
    by_cases hx : ∃ d, o.dst = some d ∧ x = .tmp d
    · obtain ⟨d, hd, hx⟩ := hx
      have := hv 0 o rfl d hd hx
      have e : y = v k := by simpa using this
      rw [e]
      exact eval_both _ _ h hs
    · rw [Act.eval_put (fun d hd hxd => hx ⟨d, hd, hxd⟩), Act.eval_put (fun d hd hxd => hx ⟨d, hd, hxd⟩), h]
  | [], _ :: _, _, _, _, _, _, hl, _, _, _ => by simp at hl
  | _ :: _, [], _, _, _, _, _, hl, _, _, _ => by simp at hl
theorem givesW_congr {ops : Array Oper} {o : Oper} {a a' : Act} {w : World} {K K' : Value → World → Prop} (hsel : ∀ cs b, o.op ≠ .select cs b) (h : ∀ t ∈ o.looksAt ops, a.eval (.tmp t) = a'.eval (.tmp t)) (hK : ∀ x w, K x w → K' x w) (hg : givesW P ops o a w K) : givesW P ops o a' w K' := by
  have he : execOp a'.eval o = execOp a.eval o := by
    refine execOp_congr o hsel fun x hx => ?_
    cases x with
    | tmp d => exact (h d (List.mem_append_left _ (List.mem_filterMap.2 ⟨.tmp d, by simpa using hx, rfl⟩))).symm
    | const _ => rfl
    | global _ => rfl
    | func _ => rfl
  unfold givesW at *
  rw [← wanted_congr h]
  split
  · rename_i hw
    rw [if_pos hw] at hg
    unfold gives at *
    rw [he]
    generalize (execOp a.eval o).run P w = r at *
    cases r with
    | ok n w' =>
      cases n <;> simp only [givesUpon] at hg ⊢
      case value v => exact hK _ _ hg
      case skip => exact hK _ _ hg
      case enter f args =>
        refine Calls.mono hg fun e w'' he => ?_
        obtain ⟨v, rfl, hv⟩ := he
        exact ⟨v, rfl, hK _ _ hv⟩
    | halt x w' => simp only [givesUpon] at hg
  · rename_i hw
    rw [if_neg hw] at hg
    exact hK _ _ hg
theorem setB_lt (k : Nat) : setB (fun i => decide (i < k)) k = fun i => decide (i < k + 1) := by
  funext j
  by_cases h : j = k
  · subst h; rw [setB_self]; simp
  · rw [setB_other _ _ _ h]
    simp; omega
/-- The same for a statement whose order is that of the text. -/
theorem wpList_fixed {Q : Exit → Act → World → Prop} {a0 : Act} {l : List Oper} (hB : regB l = true) (vs : List Value) (hl : l.length = vs.length) (C : World → Prop)
    (hop : allGive P l.toArray C (fullL l vs a0) l vs) (hend : ∀ w, C w → Q .normal (fullL l vs a0) w) :
    ∀ (r : List Oper) (k : Nat) (v : Nat → Value) (w : World), l.drop k = r → C w → (∀ i x, vs[i]? = some x → i < k → v i = x) → wpList P l.toArray Q r (puts 0 l (fun i => decide (i < k)) v a0) w := by
  intro r
  induction r with
  | nil =>
    intro k v w hd hC hv
    have hk : l.length ≤ k := List.drop_eq_nil_iff.1 hd
    apply wpList_nil
    rw [puts_all _ v l 0 a0 (fun j hj => by simp; omega), full_fullL v l vs 0 a0 hl (fun i x hx => by rw [Nat.zero_add]; exact hv i x hx (by have := (List.getElem?_eq_some_iff.1 hx).1; omega))]
    exact hend w hC
  | cons o r ih =>
    intro k v w hd hC hv
    have ho : l[k]? = some o := by
      have := congrArg (fun x => x[0]?) hd
      simpa using this
    have hr : l.drop (k + 1) = r := by
      have := congrArg List.tail hd
      simpa using this
    obtain ⟨x, hx, hg⟩ := allGive_at l vs hop k o ho
    have ok := regB_ok hB k o ho
    have hev : ∀ d ∈ o.looksAt l.toArray, (puts 0 l (fun i => decide (i < k)) v a0).eval (.tmp d) = (fullL l vs a0).eval (.tmp d) := by
      intro d hd0
      have h1 : (puts 0 l (fun i => decide (i < k)) v a0).eval (.tmp d) = (full 0 l v a0).eval (.tmp d) := by
        refine puts_eval _ v (.tmp d) l 0 a0 a0 rfl rfl (fun j p hp hj d' hd' hxd => ?_)
        obtain rfl : d = d' := by cases hxd; rfl
        rw [Nat.zero_add] at hj
        by_cases hij : k = j
        · subst hij
          obtain rfl : o = p := Option.some.inj (ho.symm.trans hp)
          exact ok.own d hd' hd0
        · obtain ⟨e, he, hb, hon⟩ := ok.looks j p hp hij d hd' hd0
          have := ok.low e he hb
          simp at hj; omega
      rw [h1]
      refine fullL_eval (ops := l.toArray) l vs v 0 a0 a0 (.tmp d) hl rfl rfl (fun j p hp d' hd' hxd => ?_)
      obtain rfl : d = d' := by cases hxd; rfl
      rw [Nat.zero_add]
      have hjl : j < vs.length := by rw [← hl]; exact (List.getElem?_eq_some_iff.1 hp).1
      by_cases hij : k = j
      · subst hij
        obtain rfl : o = p := Option.some.inj (ho.symm.trans hp)
        exact absurd hd0 (ok.own d hd')
      · obtain ⟨e, he, hb, hon⟩ := ok.looks j p hp hij d hd' hd0
        have := ok.low e he hb
        rw [hv j _ (List.getElem?_eq_getElem hjl) (by omega)]
        exact List.getElem?_eq_getElem hjl
    have he : execOp (puts 0 l (fun i => decide (i < k)) v a0).eval o = execOp (fullL l vs a0).eval o := by
      refine execOp_congr o ok.sel fun x hx => ?_
      cases x with
      | tmp d => exact hev d (List.mem_append_left _ (List.mem_filterMap.2 ⟨.tmp d, by simpa using hx, rfl⟩))
      | const _ => rfl
      | global _ => rfl
      | func _ => rfl
    have hgo : ∀ y w', (y = x ∧ C w') → wpList P l.toArray Q r ((puts 0 l (fun i => decide (i < k)) v a0).put o.dst y) w' := by
      rintro y w' ⟨rfl, hC'⟩
      have hp := puts_set (fun i => decide (i < k)) v y o l 0 k a0 ho (by simp) (fun j p hp hne => ok.dst j p hp hne)
      rw [Nat.zero_add, setB_lt] at hp
      rw [← hp]
      refine ih (k + 1) _ w' hr hC' (fun i z hz hi => ?_)
      by_cases hik : i = k
      · subst hik
        rw [setV_self]
        exact Option.some.inj (hx.symm.trans hz)
      · rw [setV_other _ _ _ _ hik]
        exact hv i z hz (by omega)
    have hgw := hg w hC
    unfold givesW at hgw
    unfold wpList
    rw [wanted_congr hev]
    split
    · rename_i hw
      rw [if_pos hw] at hgw
      exact .inl (wp_of_gives he hgw hgo)
    · rename_i hw
      rw [if_neg hw] at hgw
      exact hgo _ _ hgw
theorem wp_list_text {Q : Exit → Act → World → Prop} {a0 : Act} {w : World} {l : List Oper} (hB : regB l = true) (vs : List Value) (hl : l.length = vs.length) (C : World → Prop)
    (h0 : C w) (hop : allGive P l.toArray C (fullL l vs a0) l vs) (hend : ∀ w, C w → Q .normal (fullL l vs a0) w) : wpList P l.toArray Q l a0 w := by
  have h := wpList_fixed hB vs hl C hop hend l 0 (fun _ => undef) w rfl h0 (fun i x _ hi => absurd hi (by omega))
  have e : (fun i : Nat => decide (i < 0)) = fun _ => false := by funext i; simp
  rw [e, puts_none] at h
  exact h
theorem wp_region_fixed {id : Nat} {Q : Exit → Act → World → Prop} {a0 : Act} {w : World} {l : List Oper} (hm : P.follows .mixedOrders = true) (hB : regB l = true) (vs : List Value) (hl : l.length = vs.length) (C : World → Prop)
    (h0 : C { w with drawn := w.drawn + 1 }) (hop : allGive P l.toArray C (fullL l vs a0) l vs) (hend : ∀ w, C w → Q .normal (fullL l vs a0) w) : (Code.region id l.toArray true).wp P Q a0 w := by
  refine wp_region_invW hm hB (fun t v w => C w ∧ ∀ i x, vs[i]? = some x → t i = true → v i = x) ⟨h0, fun _ _ _ h => by cases h⟩ ?_ ?_
  · intro i o ho t v w ⟨hC, hv⟩ hti hall
    obtain ⟨x, hx, hg⟩ := allGive_at l vs hop i o ho
    have ok := regB_ok hB i o ho
    refine givesW_congr ok.sel (fun d hd => ?_) (fun y w' ⟨hy, hC'⟩ => ?_) (hg w hC)
    · refine (fullL_eval (ops := l.toArray) l vs v 0 a0 a0 (.tmp d) hl rfl rfl (fun j p hp d' hd' hxd => ?_)).symm
      obtain rfl : d = d' := by cases hxd; rfl
      rw [Nat.zero_add]
      have hjl : j < vs.length := by rw [← hl]; exact (List.getElem?_eq_some_iff.1 hp).1
      by_cases hij : i = j
      · subst hij
        obtain rfl : o = p := Option.some.inj (ho.symm.trans hp)
        exact absurd hd (ok.own d hd')
      · obtain ⟨e, he, hb, hon⟩ := ok.looks j p hp hij d hd' hd
        have ht := hall e he hb
        rw [hon] at ht
        rw [hv j _ (List.getElem?_eq_getElem hjl) ht]
        exact List.getElem?_eq_getElem hjl
    · refine ⟨hC', fun j z hz ht => ?_⟩
      by_cases hji : j = i
      · subst hji
        rw [setV_self, hy]
        exact Option.some.inj (hx.symm.trans hz)
      · rw [setV_other _ _ _ _ hji]
        rw [setB_other _ _ _ hji] at ht
        exact hv j z hz ht
  · intro t v w ⟨hC, hv⟩ ht
    rw [full_fullL v l vs 0 a0 hl (fun i x hx => by rw [Nat.zero_add]; exact hv i x hx (ht i (by rw [hl]; exact (List.getElem?_eq_some_iff.1 hx).1)))]
    exact hend w hC
end Go.Proofs.YtpenicjlpiechaaDoor
namespace Go.Proofs.YtpenicjlpiechaaDoor
set_option maxRecDepth 10000
open Go Go.RowKit
variable {P : Program} {a : Act} {w : World} {K : Value → World → Prop} {dst : Option Tmp} {ty : TypeId} {pos : String} {aft : Array Edge} {gd : Option (Nat × Bool)}
theorem g_move (x : Operand) (v : Value) (hx : a.eval x = v) (hk : K v w) : gives P ⟨dst, .move x, ty, pos, aft, gd⟩ a w K := by
  unfold gives; simp only [execOp, hx, Sem.run_pure]; exact hk
theorem g_assign (x : Operand) (v : Value) (hx : a.eval x = v) (hk : K v w) : gives P ⟨dst, .assign x, ty, pos, aft, gd⟩ a w K := by
  unfold gives; simp only [execOp, hx, Sem.run_pure]; exact hk
theorem g_load (t : TypeId) (x : Operand) (b o n : Nat) (cs : List Value) (bt : TypeId) (d : TypeDesc) (hx : a.eval x = .pointer (some ⟨b, o, none⟩)) (hb : Blk w b cs bt)
    (hu : P.underlying t = some d) (hd : d.isRow = true) (hi : (P.info? t).map (·.size) = some n) (hl : o + n ≤ cs.length) (r : List Value) (hr : (cs.drop o).take n = r) (hk : K (.agg r.toArray) w) :
    gives P ⟨dst, .load t x, ty, pos, aft, gd⟩ a w K := by
  subst hr
  unfold gives
  simp only [execOp, hx, Sem.run_bind, run_loadAt_mid w b o t _ d (hb.range o n) hu hd (by rw [hi]; simp; omega), Result.andThen_ok, Sem.run_pure]
  exact hk
theorem g_load_all (t : TypeId) (x : Operand) (b : Nat) (cs : List Value) (bt : TypeId) (d : TypeDesc) (hx : a.eval x = .pointer (some ⟨b, 0, none⟩)) (hb : Blk w b cs bt)
    (hu : P.underlying t = some d) (hd : d.isRow = true) (hi : (P.info? t).map (·.size) = some cs.length) (hk : K (.agg cs.toArray) w) :
    gives P ⟨dst, .load t x, ty, pos, aft, gd⟩ a w K :=
  g_load t x b 0 cs.length cs bt d hx hb hu hd hi (by omega) cs (by simp) hk
theorem g_alloc (t : TypeId) (cs : List Value) (hz : ∀ w, (zeroValue t).run P w = .ok (.agg cs.toArray) w)
    (hk : ∀ w', Turn w.heap.size w w' → Blk w' w.heap.size cs t → K (.pointer (some ⟨w.heap.size, 0, none⟩)) w') : gives P ⟨dst, .alloc t, ty, pos, aft, gd⟩ a w K := by
  obtain ⟨h1, h2⟩ := turn_alloc w cs t
  unfold gives
  simp only [execOp, Instr.alloc, hz, newVar, newRow, Value.cells, Sem.run_bind, run_newObj, Result.andThen_ok, Sem.run_pure]
  exact hk _ h1 h2
theorem g_store_all (t : TypeId) (x y : Operand) (b : Nat) (vs cs : List Value) (bt : TypeId) (hx : a.eval x = .pointer (some ⟨b, 0, none⟩)) (hy : a.eval y = .agg vs.toArray) (hb : Blk w b cs bt)
    (hi : (P.info? t).map (·.size) = some vs.length) (hl : vs.length = cs.length) (h1 : ∀ v ∈ vs, v.oneCell' = true)
    (hk : ∀ w', Turn b w w' → Blk w' b vs bt → K undef w') : gives P ⟨dst, .store t x y, ty, pos, aft, gd⟩ a w K := by
  obtain ⟨h2, h3⟩ := turn_setCells b bt vs 0 w cs hb (by omega)
  rw [List.take_zero, List.nil_append, List.drop_eq_nil_of_le (by omega), List.append_nil] at h3
  unfold gives
  simp only [execOp, hx, hy, Sem.run_bind, run_storeAt_mid w b 0 t vs.toArray (hb.there 0 _ (by simp; omega)) (by simpa using hi) (all_oneCell_toArray h1), Result.andThen_ok, Sem.run_pure]
  exact hk _ h2 h3
/-- A call of a function with a body. -/
theorem g_call (f : FuncId) (args : List Operand) (ts : Array TypeId) (vs : List Value) (hc : (callFunc f vs.toArray).run P w = .ok (.enter f vs.toArray) w) (hv : args.map a.eval = vs)
    (h : Calls P f vs.toArray w (fun e w'' => ∃ v, e = .returned v ∧ K v w'')) : gives P ⟨dst, .call { callee := .value (.func f), args := args.toArray, argTypes := ts }, ty, pos, aft, gd⟩ a w K := by
  have e : a.eval (.func f) = .func (.func f) #[] #[] := rfl
  unfold gives
  simp only [execOp, resolve, e, Deferred.ofValue, invoke, List.map_toArray, hv, Sem.run_bind, Sem.run_pure, Result.andThen_ok, Array.append_empty, Array.empty_append, hc]
  exact h
/-- 'copy(x, s)'. -/
theorem g_copy (x y : Operand) (dT sT e : TypeId) (b o dl dc k : Nat) (s : ByteArray) (cs : List Value) (bt : TypeId) (hx : a.eval x = .slice (some ⟨b, o, none⟩) dl dc) (hy : a.eval y = .string s)
    (hu : P.underlying dT = some (.slice e)) (hs : ∀ w, (sizeOf e).run P w = .ok 1 w) (hb : Blk w b cs bt) (hl : o + dl ≤ cs.length) (hk : min s.size dl = k)
    (h : ∀ w', Turn b w w' → Blk w' b (cs.take o ++ (s.data.toList.take k).map (fun c => Value.int .u8 c.toNat) ++ cs.drop (o + k)) bt → K (.int .i64 k) w') :
    gives P ⟨dst, .call { callee := .builtin .copy, args := #[x, y], argTypes := #[dT, sT] }, ty, pos, aft, gd⟩ a w K := by
  obtain ⟨w', hrun, h1, h2⟩ := run_copy_blk dT sT ty e b o dl dc k s cs bt hu hs hb hl hk
  unfold gives
  simp only [execOp, resolve, invoke, builtin, List.map_toArray, List.map_cons, List.map_nil, hx, hy, Sem.run_bind, Sem.run_pure, Result.andThen_ok, hrun]
  exact h _ h1 h2
/-- What runs to a value. -/
theorem g_val {o : Oper} (v : Value) (w' : World) (hr : (execOp a.eval o).run P w = .ok (.value v) w') (hk : K v w') : gives P o a w K := by
  unfold gives; rw [hr]; exact hk
end Go.Proofs.YtpenicjlpiechaaDoor
namespace Go.Proofs.YtpenicjlpiechaaDoor
set_option maxRecDepth 10000
open Go Go.RowKit
variable {P : Program}
theorem equal_loop (e : TypeId) (d : Nat) (he : P.underlying e = some (.int .u8)) (ha : ∀ w, (isAgg e).run P w = .ok false w) (l m : List UInt8) (hm : m.length = l.length) (w : World) :
    ∀ (k i : Nat), i + k = l.length →
    (forIn (List.range' i k) ((none, ()) : Option Bool × Unit) fun i _ => do
            let a ← part e (bc l).toArray (i * 1)
            let b ← part e (bc m).toArray (i * 1)
            let r ← Op.equalIn (d + 1) e a b
            if (!r) = true then pure (ForInStep.done (some false, ())) else pure (ForInStep.yield (none, ()))).run P w =
      .ok (if l.drop i = m.drop i then (none, ()) else (some false, ())) w
  | 0, i, hi => by
    rw [List.drop_eq_nil_of_le (by omega), List.drop_eq_nil_of_le (by omega)]
    simp
  | k + 1, i, hi => by
    have h1 : (bc l)[i]? = some (.int .u8 ((l[i]'(by omega)).toNat : Int)) := by simp [bc, show i < l.length by omega]
    have h2 : (bc m)[i]? = some (.int .u8 ((m[i]'(by omega)).toNat : Int)) := by simp [bc, show i < m.length by omega]
    have p1 : (part e (bc l).toArray (i * 1)).run P w = .ok (.int .u8 ((l[i]'(by omega)).toNat : Int)) w := by simp [part, ha, h1]
    have p2 : (part e (bc m).toArray (i * 1)).run P w = .ok (.int .u8 ((m[i]'(by omega)).toNat : Int)) w := by simp [part, ha, h2]
    have ih := equal_loop e d he ha l m hm w k (i + 1) (by omega)
    rw [List.range'_succ, List.forIn_cons]
    rw [List.drop_eq_getElem_cons (l := l) (by omega), List.drop_eq_getElem_cons (l := m) (by omega)]
    simp only [Sem.run_bind, p1, p2, Result.andThen_ok, run_equalIn_int w d e .u8 .u8 _ _ he]
    by_cases hc : l[i]'(by omega) = m[i]'(by omega)
    · have hc' : (((l[i]'(by omega)).toNat : Int) == ((m[i]'(by omega)).toNat : Int)) = true := by simp [hc]
      simp only [hc', Bool.not_true, Bool.false_eq_true, if_false, Sem.run_pure, Result.andThen_ok]
      rw [ih]
      simp only [hc, List.cons.injEq, true_and]
    · have hc' : (((l[i]'(by omega)).toNat : Int) == ((m[i]'(by omega)).toNat : Int)) = false := by
        simp only [beq_eq_false_iff_ne, ne_eq]
        intro h
        exact hc (UInt8.toNat_inj.1 (by omega))
      simp only [hc', Bool.not_false, if_true, Sem.run_pure, Result.andThen_ok, List.cons.injEq, hc, false_and, if_false]
section
variable {ops : Array Oper} {rest : List Oper} {a : Act} {w : World} {Q : Exit → Act → World → Prop} {dst : Option Tmp} {ty yt : TypeId} {pos : String} {aft : Array Edge} {gd : Option (Nat × Bool)} {K : Value → World → Prop}
theorem g_iadd (t : TypeId) (x y : Operand) (p q r : Int) (hx : a.eval x = .int .i64 p) (hy : a.eval y = .int .i64 q) (hr : IntKind.i64.wrap (p + q) = r) (hk : K (.int .i64 r) w) : gives P ⟨dst, .binOp .add t x y yt, ty, pos, aft, gd⟩ a w K :=
  g_val (.int .i64 r) w (by simp [execOp, hx, hy, eqGuard, binOp, Op.intArith, hr]) hk
theorem g_sadd (t : TypeId) (x y : Operand) (p q r : ByteArray) (hx : a.eval x = .string p) (hy : a.eval y = .string q) (hr : p ++ q = r) (hs : p.size + q.size ≤ 1099511627776) (hk : K (.string r) w) : gives P ⟨dst, .binOp .add t x y yt, ty, pos, aft, gd⟩ a w K :=
  g_val (.string r) w (by simp [execOp, hx, hy, eqGuard, binOp, Op.stringOp, hr]; omega) hk
/-- An operation that its guard wants. -/
theorem gw {ops : Array Oper} {o : Oper} (hw : Region.wanted o (yielded ops a.tmps) = true) (h : gives P o a w K) : givesW P ops o a w K := by
  unfold givesW; rw [if_pos hw]; exact h
end
end Go.Proofs.YtpenicjlpiechaaDoor
namespace Go.Proofs.YtpenicjlpiechaaDoor
set_option maxRecDepth 10000
open Go
set_option linter.unusedVariables false
variable {P : Program}
end Go.Proofs.YtpenicjlpiechaaDoor
namespace Go.Proofs.YtpenicjlpiechaaDoor
open Go Go.RowKit
set_option linter.unusedVariables false
/-- A part of memory: which blocks are its own, and what they hold. -/
structure HP where
  P : (Nat → Prop) → World → Prop
  loc : ∀ F w w', P F w → (∀ k, F k → w'.heap[k]? = w.heap[k]?) → P F w'
  lt : ∀ F w, P F w → ∀ k, F k → k < w.heap.size
/-- One block. -/
def blk (b : Nat) (cs : List Value) (t : TypeId) : HP where
  P F w := (∀ k, F k ↔ k = b) ∧ Blk w b cs t
  loc F w w' h hk := ⟨h.1, by have e := hk b ((h.1 b).2 rfl); have h2 := h.2; unfold Blk at *; rw [e]; exact h2⟩
  lt F w h k hk := by obtain rfl := (h.1 k).1 hk; exact h.2.lt
/-- No block, but what holds. -/
def pu (p : Prop) : HP where
  P F w := (∀ k, ¬ F k) ∧ p
  loc F w w' h _ := h
  lt F w h k hk := absurd hk (h.1 k)
/-- All parts of a list, no two of which share a block. -/
def Star : List HP → (Nat → Prop) → World → Prop
  | [], F, _ => ∀ k, ¬ F k
  | A :: L, F, w => ∃ F1 F2, A.P F1 w ∧ Star L F2 w ∧ (∀ k, F k ↔ F1 k ∨ F2 k) ∧ ∀ k, F1 k → ¬ F2 k
theorem Star.loc : ∀ {L : List HP} {F : Nat → Prop} {w w' : World}, Star L F w → (∀ k, F k → w'.heap[k]? = w.heap[k]?) → Star L F w'
  | [], _, _, _, h, _ => h
  | A :: L, F, w, w', ⟨F1, F2, h1, h2, h3, h4⟩, hk =>
    ⟨F1, F2, A.loc F1 w w' h1 (fun k x => hk k ((h3 k).2 (.inl x))), h2.loc (fun k x => hk k ((h3 k).2 (.inr x))), h3, h4⟩
theorem Star.lt : ∀ {L : List HP} {F : Nat → Prop} {w : World}, Star L F w → ∀ k, F k → k < w.heap.size
  | [], _, _, h, k, hk => absurd hk (h k)
  | A :: L, F, w, ⟨F1, F2, h1, h2, h3, h4⟩, k, hk => by
    rcases (h3 k).1 hk with h | h
    · exact A.lt F1 w h1 k h
    · exact h2.lt k h
/-- A part that is there for some x. -/
def ex {α : Type} (f : α → List HP) : HP where
  P F w := ∃ x, Star (f x) F w
  loc F w w' h hk := by obtain ⟨x, h⟩ := h; exact ⟨x, h.loc hk⟩
  lt F w h k hk := by obtain ⟨x, h⟩ := h; exact h.lt k hk
theorem Star.swap {A B : HP} {L : List HP} {F : Nat → Prop} {w : World} (h : Star (A :: B :: L) F w) : Star (B :: A :: L) F w := by
  obtain ⟨F1, F2, h1, ⟨F3, F4, h2, h3, h4, h5⟩, h6, h7⟩ := h
  refine ⟨F3, fun k => F1 k ∨ F4 k, h2, ⟨F1, F4, h1, h3, fun k => Iff.rfl, fun k a b => h7 k a ((h4 k).2 (.inr b))⟩, fun k => ?_, fun k a b => ?_⟩
  · rw [h6 k, h4 k]
    constructor
    · rintro (h | h | h)
      · exact .inr (.inl h)
      · exact .inl h
      · exact .inr (.inr h)
    · rintro (h | h | h)
      · exact .inr (.inl h)
      · exact .inl h
      · exact .inr (.inr h)
  · rcases b with b | b
    · exact h7 k b ((h4 k).2 (.inl a))
    · exact h5 k a b
theorem Star.up {A : HP} : ∀ {L : List HP} {i : Nat} {F : Nat → Prop} {w : World}, L[i]? = some A → Star L F w → Star (A :: L.eraseIdx i) F w
  | [], _, _, _, hi, _ => by simp at hi
  | B :: L, 0, F, w, hi, h => by
    obtain rfl : B = A := by simpa using hi
    exact h
  | B :: L, i + 1, F, w, hi, h => by
    obtain ⟨F1, F2, h1, h2, h3, h4⟩ := h
    exact Star.swap ⟨F1, F2, h1, Star.up (by simpa using hi) h2, h3, h4⟩
theorem Star.down {A : HP} : ∀ {L : List HP} {i : Nat} {F : Nat → Prop} {w : World}, L[i]? = some A → Star (A :: L.eraseIdx i) F w → Star L F w
  | [], _, _, _, hi, _ => by simp at hi
  | B :: L, 0, F, w, hi, h => by
    obtain rfl : B = A := by simpa using hi
    exact h
  | B :: L, i + 1, F, w, hi, h => by
    obtain ⟨F1, F2, h1, h2, h3, h4⟩ := Star.swap h
    exact ⟨F1, F2, h1, Star.down (by simpa using hi) h2, h3, h4⟩
theorem star_append : ∀ {L M : List HP} {F : Nat → Prop} {w : World}, Star (L ++ M) F w ↔ ∃ F1 F2, Star L F1 w ∧ Star M F2 w ∧ (∀ k, F k ↔ F1 k ∨ F2 k) ∧ ∀ k, F1 k → ¬ F2 k
  | [], M, F, w => by
    constructor
    · intro h
      exact ⟨fun _ => False, F, fun _ h => h, h, fun k => ⟨.inr, fun h => h.elim (fun h => h.elim) id⟩, fun _ h => h.elim⟩
    · rintro ⟨F1, F2, h1, h2, h3, h4⟩
      have e : F = F2 := by
        funext k
        exact propext ⟨fun h => ((h3 k).1 h).elim (fun h => absurd h (h1 k)) id, fun h => (h3 k).2 (.inr h)⟩
      rw [e]; exact h2
  | A :: L, M, F, w => by
    constructor
    · rintro ⟨F1, F2, h1, h2, h3, h4⟩
      obtain ⟨F3, F4, h5, h6, h7, h8⟩ := star_append.1 h2
      refine ⟨fun k => F1 k ∨ F3 k, F4, ⟨F1, F3, h1, h5, fun k => Iff.rfl, fun k a b => h4 k a ((h7 k).2 (.inl b))⟩, h6, fun k => ?_, fun k a b => ?_⟩
      · rw [h3 k, h7 k, or_assoc]
      · rcases a with a | a
        · exact h4 k a ((h7 k).2 (.inr b))
        · exact h8 k a b
    · rintro ⟨F1, F2, ⟨F3, F4, h1, h2, h3, h4⟩, h5, h6, h7⟩
      refine ⟨F3, fun k => F4 k ∨ F2 k, h1, star_append.2 ⟨F4, F2, h2, h5, fun k => Iff.rfl, fun k a b => h7 k ((h3 k).2 (.inr a)) b⟩, fun k => ?_, fun k a b => ?_⟩
      · rw [h6 k, h3 k, or_assoc]
      · rcases b with b | b
        · exact h4 k a b
        · exact h7 k ((h3 k).2 (.inl a)) b
/-- The world w behind w0: what was there is as it was, and the parts of L are new. -/
structure Ms (w0 w : World) (L : List HP) : Prop where
  below : Below w0.heap.size w0 w
  mem : ∃ F, Star L F w ∧ ∀ k, F k → w0.heap.size ≤ k
namespace Ms
variable {w0 w w' : World} {L R : List HP} {A : HP}
theorem refl (w : World) : Ms w w [] := ⟨Below.refl _ _, fun _ => False, fun _ h => h, fun _ h => h.elim⟩
theorem get (h : Ms w0 w L) {b : Nat} {cs : List Value} {t : TypeId} (i : Nat) (hi : L[i]? = some (blk b cs t)) : Blk w b cs t := by
  obtain ⟨F, h1, _⟩ := h.mem
  obtain ⟨_, _, h2, _⟩ := h1.up hi
  exact h2.2
theorem lt (h : Ms w0 w L) {b : Nat} {cs : List Value} {t : TypeId} (i : Nat) (hi : L[i]? = some (blk b cs t)) : b < w.heap.size := (h.get i hi).lt
theorem up (h : Ms w0 w L) (i : Nat) (hi : L[i]? = some A) : Ms w0 w (A :: L.eraseIdx i) := by
  obtain ⟨F, h1, h2⟩ := h.mem
  exact ⟨h.below, F, h1.up hi, h2⟩
theorem down (i : Nat) (hi : L[i]? = some A) (h : Ms w0 w (A :: L.eraseIdx i)) : Ms w0 w L := by
  obtain ⟨F, h1, h2⟩ := h.mem
  exact ⟨h.below, F, Star.down hi h1, h2⟩
theorem tail (h : Ms w0 w (A :: L)) : Ms w0 w L := by
  obtain ⟨F, ⟨F1, F2, _, h1, h2, _⟩, h3⟩ := h.mem
  exact ⟨h.below, F2, h1, fun k hk => h3 k ((h2 k).2 (.inr hk))⟩
theorem erase (h : Ms w0 w L) (i : Nat) : Ms w0 w (L.eraseIdx i) := by
  cases hi : L[i]? with
  | none =>
    have e : L.eraseIdx i = L := List.eraseIdx_of_length_le (List.getElem?_eq_none_iff.1 hi)
    rw [e]; exact h
  | some A => exact (h.up i hi).tail
/-- What is not in the parts of L. -/
theorem call (h : Ms w0 w L) (hb : Below w.heap.size w w') : Ms w0 w' L := by
  obtain ⟨F, h1, h2⟩ := h.mem
  exact ⟨h.below.trans (hb.mono h.below.size), F, h1.loc (fun k hk => hb.block k (h1.lt k hk)), h2⟩
theorem drew (h : Ms w0 w L) : Ms w0 w.drew L := h.call (Below.refl _ _).drew
theorem fresh (h : Ms w0 w L) {p : Nat} {cs : List Value} {t : TypeId} (hb : Below w.heap.size w w') (hp : w.heap.size ≤ p) (hc : Blk w' p cs t) : Ms w0 w' (blk p cs t :: L) := by
  obtain ⟨F, h1, h2⟩ := h.mem
  refine ⟨h.below.trans (hb.mono h.below.size), fun k => k = p ∨ F k, ⟨fun k => k = p, F, ⟨fun k => Iff.rfl, hc⟩, h1.loc (fun k hk => hb.block k (h1.lt k hk)), fun k => Iff.rfl, ?_⟩, ?_⟩
  · rintro k rfl hk
    exact absurd (h1.lt k hk) (by omega)
  · rintro k (rfl | hk)
    · exact Nat.le_trans h.below.size hp
    · exact h2 k hk
theorem new (h : Ms w0 w L) {cs : List Value} {t : TypeId} (ht : Turn w.heap.size w w') (hc : Blk w' w.heap.size cs t) : Ms w0 w' (blk w.heap.size cs t :: L) :=
  h.fresh (ht.below (Below.refl _ _) (Nat.le_refl _)) (Nat.le_refl _) hc
/-- The first part is turned as the blocks k of its own are. -/
theorem turnF {F1 F1' F2 : Nat → Prop} (hb : Below w0.heap.size w0 w) (h2 : Star L F2 w) (hd : ∀ k, F1 k → ¬ F2 k) (h3 : ∀ k, F1 k → w0.heap.size ≤ k) (h4 : ∀ k, F2 k → w0.heap.size ≤ k)
    (hos : w'.os = w.os) (htp : w'.tape = w.tape) (hou : w'.output = w.output) (hsz : w.heap.size ≤ w'.heap.size) (hk : ∀ k, k < w.heap.size → ¬ F1 k → w'.heap[k]? = w.heap[k]?)
    (hA : A.P F1' w') (hF : ∀ k, F1' k → F1 k ∨ w.heap.size ≤ k) : Ms w0 w' (A :: L) := by
  have hs := hb.size
  refine ⟨hb.trans ⟨hos, htp, hou, hsz, fun k hk' => hk k (by omega) (fun h => absurd (h3 k h) (by omega))⟩, fun k => F1' k ∨ F2 k, ⟨F1', F2, hA, h2.loc (fun k h => hk k (h2.lt k h) (fun h' => hd k h' h)), fun k => Iff.rfl, ?_⟩, ?_⟩
  · intro k h h'
    rcases hF k h with h | h
    · exact hd k h h'
    · exact absurd (h2.lt k h') (by omega)
  · rintro k (h | h)
    · rcases hF k h with h | h
      · exact h3 k h
      · omega
    · exact h4 k h
theorem turn {b : Nat} {cs : List Value} {t : TypeId} (h : Ms w0 w (blk b cs t :: L)) {cs' : List Value} {t' : TypeId} (ht : Turn b w w') (hc : Blk w' b cs' t') : Ms w0 w' (blk b cs' t' :: L) := by
  obtain ⟨F, ⟨F1, F2, h1, h2, h3, h4⟩, h5⟩ := h.mem
  exact turnF h.below h2 h4 (fun k hk => h5 k ((h3 k).2 (.inl hk))) (fun k hk => h5 k ((h3 k).2 (.inr hk))) ht.os ht.tape ht.output ht.size (fun k _ hk => ht.block k (fun e => hk ((h1.1 k).2 e))) (A := blk b cs' t') (F1' := F1) ⟨h1.1, hc⟩ (fun k h => .inl h)
theorem put (h : Ms w0 w L) {b : Nat} {cs cs' : List Value} {t t' : TypeId} (i : Nat) (hi : L[i]? = some (blk b cs t)) (ht : Turn b w w') (hc : Blk w' b cs' t') : Ms w0 w' (L.set i (blk b cs' t')) := by
  have h1 := (h.up i hi).turn ht hc
  have hl : i < L.length := (List.getElem?_eq_some_iff.1 hi).1
  refine down i (A := blk b cs' t') (by rw [List.getElem?_set_self hl]) ?_
  rw [List.eraseIdx_set_eq]
  exact h1
theorem opn {α : Type} {f : α → List HP} (h : Ms w0 w (ex f :: L)) : ∃ x, Ms w0 w (f x ++ L) := by
  obtain ⟨F, ⟨F1, F2, ⟨x, h1⟩, h2, h3, h4⟩, h5⟩ := h.mem
  exact ⟨x, h.below, F, star_append.2 ⟨F1, F2, h1, h2, h3, h4⟩, h5⟩
theorem shut {α : Type} {f : α → List HP} (x : α) (h : Ms w0 w (f x ++ L)) : Ms w0 w (ex f :: L) := by
  obtain ⟨F, h1, h5⟩ := h.mem
  obtain ⟨F1, F2, h1, h2, h3, h4⟩ := star_append.1 h1
  exact ⟨h.below, F, ⟨F1, F2, ⟨x, h1⟩, h2, h3, h4⟩, h5⟩
end Ms
end Go.Proofs.YtpenicjlpiechaaDoor
namespace Go.Proofs.YtpenicjlpiechaaDoor
open Go Go.RowKit
set_option linter.unusedVariables false
variable {P : Program}
/-- What an operation looks at is the same in the state in which all have come up with these values. -/
theorem looks_same {l : List Oper} (hB : regB l = true) {i : Nat} {o : Oper} (ho : l[i]? = some o) {t : Nat → Bool} {v : Nat → Value} {a0 : Act} (vs : List Value) (hl : l.length = vs.length)
    (hall : ∀ e ∈ o.after, Region.binds .any e = true → t e.on = true) (hv : ∀ j, t j = true → j < l.length → vs[j]? = some (v j)) :
    ∀ d ∈ o.looksAt l.toArray, (fullL l vs a0).eval (.tmp d) = (full 0 l v a0).eval (.tmp d) := by
  intro d hd
  have ok := regB_ok hB i o ho
  refine (fullL_eval (ops := l.toArray) l vs v 0 a0 a0 (.tmp d) hl rfl rfl (fun j p hp d' hd' hxd => ?_)).symm
  obtain rfl : d = d' := by cases hxd; rfl
  rw [Nat.zero_add]
  have hjl : j < l.length := (List.getElem?_eq_some_iff.1 hp).1
  by_cases hij : i = j
  · subst hij
    obtain rfl : o = p := Option.some.inj (ho.symm.trans hp)
    exact absurd hd (ok.own d hd')
  · obtain ⟨e, he, hb, hon⟩ := ok.looks j p hp hij d hd' hd
    have ht := hall e he hb
    rw [hon] at ht
    exact hv j ht hjl
/-- ks: the operations that turn the memory, in their order; deps: behind how many of them an operation comes at least; his: at most. -/
def stepsB (l : List Oper) (ks deps his : List Nat) : Bool :=
  decide ks.Nodup && (List.range ks.length).all (fun j => (ks[j]?).all fun k => decide (k < l.length) && (deps.getD k 0 == j)) &&
  (List.range l.length).all fun i => (l[i]?).all fun o =>
    ((deps.getD i 0 == 0) || o.after.any fun e => Region.binds .any e && ((ks[deps.getD i 0 - 1]? == some e.on) || decide (deps.getD i 0 ≤ deps.getD e.on 0))) &&
    (decide (ks.length ≤ his.getD i ks.length) || ((ks[his.getD i ks.length]?).bind (fun k => l[k]?)).any fun p => p.after.any fun e => Region.binds .any e && (e.on == i))
theorem stepsB_ks {l : List Oper} {ks deps his : List Nat} (h : stepsB l ks deps his = true) : ks.Nodup ∧ ∀ j k, ks[j]? = some k → k < l.length ∧ deps.getD k 0 = j := by
  simp only [stepsB, Bool.and_eq_true] at h
  refine ⟨of_decide_eq_true h.1.1, fun j k hk => ?_⟩
  have h1 := List.all_eq_true.1 h.1.2 j (List.mem_range.2 (List.getElem?_eq_some_iff.1 hk).1)
  simp only [hk, Option.all_some, Bool.and_eq_true, decide_eq_true_eq, beq_iff_eq] at h1
  exact h1
theorem stepsB_op {l : List Oper} {ks deps his : List Nat} (h : stepsB l ks deps his = true) (i : Nat) (o : Oper) (ho : l[i]? = some o) :
    (deps.getD i 0 = 0 ∨ ∃ e ∈ o.after, Region.binds .any e = true ∧ (ks[deps.getD i 0 - 1]? = some e.on ∨ deps.getD i 0 ≤ deps.getD e.on 0)) ∧
    (ks.length ≤ his.getD i ks.length ∨ ∃ k p, ks[his.getD i ks.length]? = some k ∧ l[k]? = some p ∧ ∃ e ∈ p.after, Region.binds .any e = true ∧ e.on = i) := by
  simp only [stepsB, Bool.and_eq_true] at h
  have h1 := List.all_eq_true.1 h.2 i (List.mem_range.2 (List.getElem?_eq_some_iff.1 ho).1)
  simp only [ho, Option.all_some, Bool.and_eq_true, Bool.or_eq_true] at h1
  obtain ⟨h1, h2⟩ := h1
  constructor
  · rcases h1 with h1 | h1
    · exact .inl (by simpa using h1)
    · obtain ⟨e, he, hb⟩ := Array.any_eq_true'.1 h1
      simp only [Bool.and_eq_true, Bool.or_eq_true, beq_iff_eq, decide_eq_true_eq] at hb
      exact .inr ⟨e, he, hb.1, hb.2⟩
  · rcases h2 with h2 | h2
    · exact .inl (of_decide_eq_true h2)
    · cases hk : ks[his.getD i ks.length]? with
      | none => rw [hk] at h2; simp at h2
      | some k =>
        rw [hk] at h2
        cases hp : l[k]? with
        | none => simp [hp] at h2
        | some p =>
          simp only [Option.bind_some, hp, Option.any_some] at h2
          obtain ⟨e, he, hb⟩ := Array.any_eq_true'.1 h2
          simp only [Bool.and_eq_true, beq_iff_eq] at hb
          exact .inr ⟨k, p, rfl, hp, e, he, hb.1, hb.2⟩
theorem wp_region_steps {id : Nat} {Q : Exit → Act → World → Prop} {a0 : Act} {w : World} {l : List Oper} (hm : P.follows .mixedOrders = true) (hB : regB l = true) (ks deps his : List Nat) (hS : stepsB l ks deps his = true)
    {Pm : Type} (vs : Pm → List Value) (hl : ∀ π, l.length = (vs π).length) (C : Nat → Pm → World → Prop) (π0 : Pm) (h0 : C 0 π0 { w with drawn := w.drawn + 1 })
    (hsp : ∀ j k o, ks[j]? = some k → l[k]? = some o → ∀ π w, C j π w → givesW P l.toArray o (fullL l (vs π) a0) w (fun y w' => ∃ π', (vs π')[k]? = some y ∧ (∀ i, deps.getD i 0 ≤ j → i ≠ k → (vs π')[i]? = (vs π)[i]?) ∧ C (j + 1) π' w'))
    (hop : ∀ i o, l[i]? = some o → i ∉ ks → ∀ j, deps.getD i 0 ≤ j → j ≤ his.getD i ks.length → j ≤ ks.length → ∀ π w, C j π w → givesW P l.toArray o (fullL l (vs π) a0) w (fun y w' => (vs π)[i]? = some y ∧ C j π w'))
    (hend : ∀ π w, C ks.length π w → Q .normal (fullL l (vs π) a0) w) : (Code.region id l.toArray true).wp P Q a0 w := by
  obtain ⟨hnd, hks⟩ := stepsB_ks hS
  refine wp_region_invW hm hB (fun t v w => ∃ j π, j ≤ ks.length ∧ C j π w ∧ (∀ i, t i = true → i < l.length → (vs π)[i]? = some (v i) ∧ deps.getD i 0 ≤ j) ∧ (∀ jj k, ks[jj]? = some k → (t k = true ↔ jj < j)) ∧
    ∀ i, t i = true → ∀ o, l[i]? = some o → ∀ e ∈ o.after, Region.binds .any e = true → t e.on = true) ⟨0, π0, Nat.zero_le _, h0, (fun _ h => by cases h), (fun _ _ _ => by simp), (fun _ h => by cases h)⟩ ?_ ?_
  · intro i o ho t v w ⟨j, π, hj, hC, hv, hk, hcl⟩ hti hall
    have ok := regB_ok hB i o ho
    have hs := looks_same (a0 := a0) hB ho (vs π) (hl π) hall (fun j h1 h2 => (hv j h1 h2).1)
    have hil : i < l.length := (List.getElem?_eq_some_iff.1 ho).1
    obtain ⟨hd, hh⟩ := stepsB_op hS i o ho
    have hdep : deps.getD i 0 ≤ j := by
      rcases hd with hd | ⟨e, he, hb, hd⟩
      · omega
      · have hte := hall e he hb
        rcases hd with hd | hd
        · have := (hk _ _ hd).1 hte
          omega
        · have := (hv e.on hte (Nat.lt_trans (ok.low e he hb) hil)).2
          omega
    have hcl' : ∀ i', setB t i i' = true → ∀ o', l[i']? = some o' → ∀ e ∈ o'.after, Region.binds .any e = true → setB t i e.on = true := by
      intro i' hi' o' ho' e he hb
      have : t e.on = true := by
        by_cases hii : i' = i
        · subst hii
          obtain rfl : o = o' := Option.some.inj (ho.symm.trans ho')
          exact hall e he hb
        · rw [setB_other _ _ _ hii] at hi'
          exact hcl i' hi' o' ho' e he hb
      by_cases hei : e.on = i
      · rw [hei, setB_self]
      · rw [setB_other _ _ _ hei]; exact this
    by_cases hik : i ∈ ks
    · obtain ⟨jj, hjl, hjj⟩ := List.getElem_of_mem hik
      have hjj : ks[jj]? = some i := by rw [List.getElem?_eq_getElem hjl, hjj]
      have h1 : ¬ jj < j := fun h => by have := (hk jj i hjj).2 h; rw [hti] at this; cases this
      have h2 := (hks jj i hjj).2
      obtain rfl : jj = j := by omega
      refine givesW_congr ok.sel hs (fun y w' ⟨π', hy, hag, hC'⟩ => ?_) (hsp jj i o hjj ho π w hC)
      refine ⟨jj + 1, π', hjl, hC', fun i' hi' hil' => ?_, fun jj' k' hk' => ?_, hcl'⟩
      · by_cases hii : i' = i
        · subst hii
          rw [setV_self]
          exact ⟨hy, by omega⟩
        · rw [setB_other _ _ _ hii] at hi'
          rw [setV_other _ _ _ _ hii]
          obtain ⟨h3, h4⟩ := hv i' hi' hil'
          exact ⟨by rw [hag i' h4 hii]; exact h3, by omega⟩
      · by_cases hkk : k' = i
        · subst hkk
          rw [setB_self]
          have h3 := (hks jj' k' hk').2
          exact ⟨fun _ => by omega, fun _ => rfl⟩
        · rw [setB_other _ _ _ hkk, hk jj' k' hk']
          have : jj' ≠ jj := fun e => hkk (by subst e; exact Option.some.inj (hk'.symm.trans hjj))
          omega
    · have hhi : j ≤ his.getD i ks.length := by
        rcases hh with hh | ⟨k, p, hk1, hp, e, he, hb, hon⟩
        · omega
        · refine Nat.le_of_not_lt fun hlt => ?_
          have h1 := (hk _ _ hk1).2 hlt
          have h2 := hcl k h1 p hp e he hb
          rw [hon, hti] at h2
          cases h2
      refine givesW_congr ok.sel hs (fun y w' ⟨hy, hC'⟩ => ?_) (hop i o ho hik j hdep hhi hj π w hC)
      refine ⟨j, π, hj, hC', fun i' hi' hil' => ?_, fun jj' k' hk' => ?_, hcl'⟩
      · by_cases hii : i' = i
        · subst hii
          rw [setV_self]
          exact ⟨hy, hdep⟩
        · rw [setB_other _ _ _ hii] at hi'
          rw [setV_other _ _ _ _ hii]
          exact hv i' hi' hil'
      · rw [setB_other _ _ _ (fun e => hik (by subst e; exact List.mem_of_getElem? hk')), hk jj' k' hk']
  · intro t v w ⟨j, π, hj, hC, hv, hk, _⟩ ht
    have hjm : j = ks.length := by
      rcases Nat.lt_or_ge j ks.length with h | h
      · have hx : ks[j]? = some ks[j] := List.getElem?_eq_getElem h
        have := (hk j _ hx).1 (ht _ (hks j _ hx).1)
        omega
      · omega
    subst hjm
    rw [full_fullL v l (vs π) 0 a0 (hl π) (fun i x hx => by
      rw [Nat.zero_add]
      have hil : i < l.length := by rw [hl π]; exact (List.getElem?_eq_some_iff.1 hx).1
      exact Option.some.inj ((hv i (ht i hil) hil).1.symm.trans hx))]
    exact hend π w hC
end Go.Proofs.YtpenicjlpiechaaDoor
namespace Go.Proofs.YtpenicjlpiechaaDoor
open Go Go.RowKit
set_option linter.unusedVariables false
/-- The slice v of n elements, of so many cells each, holds the cells xs. -/
def row (e : TypeId) (size : Nat) (v : Value) (n : Nat) (xs : List Value) : HP :=
  ex fun x : Option (Nat × Nat × List Value) => match x with
    | none => [pu (v = .slice none 0 0 ∧ n = 0 ∧ xs = [])]
    | some (g, cap, cs) => [pu (v = .slice (some ⟨g, 0, none⟩) n cap ∧ xs.length = n * size ∧ n ≤ cap ∧ cap ≤ maxLen ∧ cap * size ≤ cs.length ∧ cs.take (n * size) = xs), blk g cs e]
section
variable {P : Program} {w0 w : World} {R : List HP} {e : TypeId} {size : Nat} {v : Value} {n : Nat} {xs : List Value}
end
section
variable {P : Program} {w0 w : World} {R : List HP} {a : Act} {K : Value → World → Prop} {dst : Option Tmp} {ty : TypeId} {pos : String} {aft : Array Edge} {gd : Option (Nat × Bool)}
end
end Go.Proofs.YtpenicjlpiechaaDoor
namespace Go.Proofs.YtpenicjlpiechaaDoor
set_option maxRecDepth 10000
open Go Go.RowKit
set_option linter.unusedVariables false
set_option linter.unusedSimpArgs false
section
variable {P : Program} {ops : Array Oper} {rest : List Oper} {a : Act} {w : World} {Q : Exit → Act → World → Prop} {dst : Option Tmp} {ty yt : TypeId} {pos : String} {aft : Array Edge} {gd : Option (Nat × Bool)} {K : Value → World → Prop}
theorem g_extract (x : Operand) (vs : Array Value) (i : Nat) (v : Value) (hx : a.eval x = .tuple vs) (hv : vs[i]? = some v) (hk : K v w) : gives P ⟨dst, .extract x i, ty, pos, aft, gd⟩ a w K :=
  g_val v w (by simp [execOp, hx, hv, Instr.extract]) hk
theorem g_pickt (c x y : Operand) (v : Value) (hc : a.eval c = .bool true) (hx : a.eval x = v) (hk : K v w) : gives P ⟨dst, .pick c x y, ty, pos, aft, gd⟩ a w K :=
  g_val v w (by simp [execOp, hc, hx, asBool]) hk
theorem g_pickf (c x y : Operand) (v : Value) (hc : a.eval c = .bool false) (hy : a.eval y = v) (hk : K v w) : gives P ⟨dst, .pick c x y, ty, pos, aft, gd⟩ a w K :=
  g_val v w (by simp [execOp, hc, hy, asBool]) hk
theorem g_igeq (t : TypeId) (x y : Operand) (k : IntKind) (p q : Int) (b : Bool) (hx : a.eval x = .int k p) (hy : a.eval y = .int k q) (hb : decide (q ≤ p) = b) (hk : K (.bool b) w) : gives P ⟨dst, .binOp .geq t x y yt, ty, pos, aft, gd⟩ a w K :=
  g_val (.bool b) w (by subst hb; simp [execOp, hx, hy, eqGuard, binOp, Op.intCmp]) hk
theorem g_ileq (t : TypeId) (x y : Operand) (k : IntKind) (p q : Int) (b : Bool) (hx : a.eval x = .int k p) (hy : a.eval y = .int k q) (hb : decide (p ≤ q) = b) (hk : K (.bool b) w) : gives P ⟨dst, .binOp .leq t x y yt, ty, pos, aft, gd⟩ a w K :=
  g_val (.bool b) w (by subst hb; simp [execOp, hx, hy, eqGuard, binOp, Op.intCmp]) hk
theorem g_igtr (t : TypeId) (x y : Operand) (k : IntKind) (p q : Int) (b : Bool) (hx : a.eval x = .int k p) (hy : a.eval y = .int k q) (hb : decide (q < p) = b) (hk : K (.bool b) w) : gives P ⟨dst, .binOp .gtr t x y yt, ty, pos, aft, gd⟩ a w K :=
  g_val (.bool b) w (by subst hb; simp [execOp, hx, hy, eqGuard, binOp, Op.intCmp]) hk
theorem g_ilss (t : TypeId) (x y : Operand) (k : IntKind) (p q : Int) (b : Bool) (hx : a.eval x = .int k p) (hy : a.eval y = .int k q) (hb : decide (p < q) = b) (hk : K (.bool b) w) : gives P ⟨dst, .binOp .lss t x y yt, ty, pos, aft, gd⟩ a w K :=
  g_val (.bool b) w (by subst hb; simp [execOp, hx, hy, eqGuard, binOp, Op.intCmp]) hk
theorem g_ieq (t : TypeId) (x y : Operand) (k : IntKind) (p q : Int) (b : Bool) (hx : a.eval x = .int k p) (hy : a.eval y = .int k q) (hb : decide (p = q) = b) (hk : K (.bool b) w) : gives P ⟨dst, .binOp .eql t x y yt, ty, pos, aft, gd⟩ a w K :=
  g_val (.bool b) w (by subst hb; simp [execOp, hx, hy, eqGuard, binOp, Op.intCmp]; rfl) hk
theorem g_ine (t : TypeId) (x y : Operand) (k : IntKind) (p q : Int) (b : Bool) (hx : a.eval x = .int k p) (hy : a.eval y = .int k q) (hb : decide (p ≠ q) = b) (hk : K (.bool b) w) : gives P ⟨dst, .binOp .neq t x y yt, ty, pos, aft, gd⟩ a w K :=
  g_val (.bool b) w (by subst hb; simp [execOp, hx, hy, eqGuard, binOp, Op.intCmp]; rfl) hk
theorem g_isub (t : TypeId) (x y : Operand) (k : IntKind) (p q r : Int) (hx : a.eval x = .int k p) (hy : a.eval y = .int k q) (hr : k.wrap (p - q) = r) (hk : K (.int k r) w) : gives P ⟨dst, .binOp .sub t x y yt, ty, pos, aft, gd⟩ a w K :=
  g_val (.int k r) w (by simp [execOp, hx, hy, eqGuard, binOp, Op.intArith, hr]) hk
theorem g_imul (t : TypeId) (x y : Operand) (k : IntKind) (p q r : Int) (hx : a.eval x = .int k p) (hy : a.eval y = .int k q) (hr : k.wrap (p * q) = r) (hk : K (.int k r) w) : gives P ⟨dst, .binOp .mul t x y yt, ty, pos, aft, gd⟩ a w K :=
  g_val (.int k r) w (by simp [execOp, hx, hy, eqGuard, binOp, Op.intArith, hr]) hk
theorem g_unot (t : TypeId) (x : Operand) (b : Bool) (hx : a.eval x = .bool b) (hk : K (.bool (!b)) w) : gives P ⟨dst, .unOp .not t x, ty, pos, aft, gd⟩ a w K :=
  g_val (.bool (!b)) w (by simp [execOp, hx, Op.unary]) hk
theorem L_give {o : Oper} (hw : Region.wanted o (yielded ops a.tmps) = true) (h : gives P o a w (fun v w' => wpList P ops Q rest (a.put o.dst v) w')) : wpList P ops Q (o :: rest) a w := by
  unfold wpList; rw [if_pos hw]; exact .inl (wp_of_gives rfl h (fun _ _ h => h))
theorem at_op {o : Op} (d : Tmp) (h : wpList P ops Q (⟨some d, o, ty, pos, aft, gd⟩ :: rest) a w) : wpList P ops Q (⟨some d, o, ty, pos, aft, gd⟩ :: rest) a w := h
theorem gn {o : Oper} (hw : Region.wanted o (yielded ops a.tmps) = false) (h : K undef w) : givesW P ops o a w K := by
  unfold givesW; rw [if_neg (by rw [hw]; decide)]; exact h
theorem g_ia (t : TypeId) (x y : Operand) (k : IntKind) (p q r : Int) (hx : a.eval x = .int k p) (hy : a.eval y = .int k q) (hr : k.wrap (p + q) = r) (hk : K (.int k r) w) : gives P ⟨dst, .binOp .add t x y yt, ty, pos, aft, gd⟩ a w K :=
  g_val (.int k r) w (by simp [execOp, hx, hy, eqGuard, binOp, Op.intArith, hr]) hk
theorem st_a {l : List Value} {i : Nat} {v : Value} : l.toArray.setIfInBounds i v = (l.set i v).toArray := List.setIfInBounds_toArray ..
theorem st_0 {l : List Value} {u v : Value} : (u :: l).set 0 v = v :: l := List.set_cons_zero ..
theorem st_s {l : List Value} {i : Nat} {u v : Value} : (u :: l).set (i + 1) v = u :: l.set i v := List.set_cons_succ ..
/-- A list's operations, sealed: nothing looks into it but the laws below. -/
structure WL (P : Program) (ops : Array Oper) (Q : Exit → Act → World → Prop) (l : List Oper) (a : Act) (w : World) : Prop where
  out : wpList P ops Q l a w
theorem wl_region {id : Nat} {l : List Oper} (h : WL P l.toArray Q l a w) : (Code.region id l.toArray false).wp P Q a w := wp_region_lit h.out
theorem wl_nil (h : Q .normal a w) : WL P ops Q [] a w := ⟨h⟩
theorem wl_skip {o : Oper} (hw : Region.wanted o (yielded ops a.tmps) = false) (h : WL P ops Q rest (a.put o.dst undef) w) : WL P ops Q (o :: rest) a w := ⟨wpList_skip hw h.out⟩
theorem wl_give {o : Oper} (hw : Region.wanted o (yielded ops a.tmps) = true) (h : gives P o a w (fun v w' => WL P ops Q rest (a.put o.dst v) w')) : WL P ops Q (o :: rest) a w := by
  refine ⟨?_⟩
  unfold wpList; rw [if_pos hw]; exact .inl (wp_of_gives rfl h (fun _ _ h => h.out))
theorem at_storeX {y : Operand} (x : Tmp) (t : TypeId) (h : wpList P ops Q (⟨dst, .store t (.tmp x) y, ty, pos, aft, gd⟩ :: rest) a w) : wpList P ops Q (⟨dst, .store t (.tmp x) y, ty, pos, aft, gd⟩ :: rest) a w := h
theorem g_iquo (t : TypeId) (x y : Operand) (k : IntKind) (p q r : Int) (hx : a.eval x = .int k p) (hy : a.eval y = .int k q) (hq : q ≠ 0) (hr : k.wrap (p.tdiv q) = r) (hk : K (.int k r) w) : gives P ⟨dst, .binOp .quo t x y yt, ty, pos, aft, gd⟩ a w K :=
  g_val (.int k r) w (by simp [execOp, hx, hy, eqGuard, binOp, Op.intDiv, hr, hq]) hk
theorem g_nil (x : Operand) (p : Addr) (hx : a.eval x = .pointer (some p)) (hk : K (.pointer (some p)) w) : gives P ⟨dst, .nilCheck x, ty, pos, aft, gd⟩ a w K :=
  g_val _ w (by simp only [execOp, hx, Sem.run_pure]) hk
theorem g_fa (s : TypeId) (x : Operand) (b o o' i : Nat) (hx : a.eval x = .pointer (some ⟨b, o, none⟩)) (hi : (Instr.fieldAt s (.pointer (some ⟨b, o, none⟩)) i).run P w = .ok (.pointer (some ⟨b, o', none⟩)) w) (hk : K (.pointer (some ⟨b, o', none⟩)) w) : gives P ⟨dst, .fieldAddr s x i, ty, pos, aft, gd⟩ a w K :=
  g_val _ w (by simp only [execOp, hx, Sem.run_bind, hi, Result.andThen_ok, Sem.run_pure]) hk
theorem g_ld1 (t : TypeId) (x : Operand) (b o : Nat) (v : Value) (hx : a.eval x = .pointer (some ⟨b, o, none⟩)) (hr : (Instr.loadAt t (.pointer (some ⟨b, o, none⟩))).run P w = .ok v w) (hk : K v w) : gives P ⟨dst, .load t x, ty, pos, aft, gd⟩ a w K :=
  g_val v w (by simp only [execOp, hx, Sem.run_bind, hr, Result.andThen_ok, Sem.run_pure]) hk
theorem g_box (t : TypeId) (x : Operand) (cs : List Value) (hx : a.eval x = .agg cs.toArray) (hk : ∀ w', Turn w.heap.size w w' → Blk w' w.heap.size cs t → K (.pointer (some ⟨w.heap.size, 0, none⟩)) w') : gives P ⟨dst, .box t x, ty, pos, aft, gd⟩ a w K := by
  obtain ⟨h1, h2⟩ := turn_alloc w cs t
  unfold gives
  simp only [execOp, hx, Instr.box, newVar, newRow, Value.cells, Sem.run_bind, run_newObj, Result.andThen_ok, Sem.run_pure]
  exact hk _ h1 h2
/-- One cell of a block is stored. -/
theorem g_st1 (t : TypeId) (x y : Operand) (b o : Nat) (v : Value) (cs : List Value) (bt : TypeId) (hx : a.eval x = .pointer (some ⟨b, o, none⟩)) (hy : a.eval y = v) (hb : Blk w b cs bt) (ho : o < cs.length) (hv : v.oneCell' = true) (hc : v.cells = #[v]) (hz : (P.info? t).map (·.size) = some 1)
    (hk : ∀ w', Turn b w w' → Blk w' b (cs.set o v) bt → K undef w') : gives P ⟨dst, .store t x y, ty, pos, aft, gd⟩ a w K := by
  obtain ⟨h1, h2⟩ := turn_setCell w b o v cs bt hb
  have hs : (sizeOf t).run P w = .ok 1 w := by
    cases hi : P.info? t with
    | none => rw [hi] at hz; cases hz
    | some i =>
      rw [hi] at hz
      have : i.size = 1 := by simpa using hz
      simp [sizeOf, typeInfo, hi, this]
  have hst := run_storeCells_cells (P := P) b o [v] 0 w (fun j hj => by
    have h0 : j = 0 := by simp at hj; omega
    subst h0
    exact (hb.there o 1 (by omega) 0 (by omega)).1) (fun j hj => hb.frozen _) (fun u hu => by obtain rfl := List.mem_singleton.1 hu; exact hv)
  have hr : (execOp a.eval ⟨dst, .store t x y, ty, pos, aft, gd⟩).run P w = .ok .skip (w.setCell ⟨b, o, none⟩ v) := by
    simp only [execOp, hx, hy, Instr.storeAt, Instr.sureAddr, storeVar, hc, Sem.run_bind, Sem.run_pure, Result.andThen_ok, hs]
    simp only [List.size_toArray, List.length_singleton, ne_eq, not_true_eq_false, if_false, hst]
    rfl
  unfold gives
  rw [hr]
  exact hk _ h1 h2
end
end Go.Proofs.YtpenicjlpiechaaDoor
