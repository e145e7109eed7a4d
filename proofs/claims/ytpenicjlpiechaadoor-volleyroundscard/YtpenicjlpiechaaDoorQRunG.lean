/- Statements walked by a function: operations that turn no memory, one after another. Over any program. -/
import Derived.Test.YtpenicjlpiechaaDoorQLib
namespace Go.Proofs.YtpenicjlpiechaaDoor
open Go Go.RowKit
set_option linter.unusedVariables false
/-- What is known of loads of one cell, and of fields. -/
structure Kn (P : Program) where
  f : TypeId → Bool
  g : TypeId → Nat → Option Nat
  hf : ∀ t, f t = true → ∀ (w : World) (b o : Nat) (v : Value), w.cell? ⟨b, o, none⟩ = some v → (Instr.loadAt t (.pointer (some ⟨b, o, none⟩))).run P w = .ok v w
  hg : ∀ s i k, g s i = some k → ∀ (w : World) (b o : Nat), (Instr.fieldAt s (.pointer (some ⟨b, o, none⟩)) i).run P w = .ok (.pointer (some ⟨b, o + k, none⟩)) w
/-- What an operation yields that turns no memory. -/
def pv {P : Program} (K : Kn P) (w : World) (a : Act) : Op → Option Value
  | .load t x => match a.eval x with
    | .pointer (some ⟨b, o, none⟩) => match K.f t with
      | true => w.cell? ⟨b, o, none⟩
      | false => none
    | _ => none
  | .fieldAddr s x i => match a.eval x with
    | .pointer (some ⟨b, o, none⟩) => match K.g s i with
      | some k => some (.pointer (some ⟨b, o + k, none⟩))
      | none => none
    | _ => none
  | .move x => some (a.eval x)
  | .assign x => some (a.eval x)
  | .pick c x y => match a.eval c with
    | .bool true => some (a.eval x)
    | .bool false => some (a.eval y)
    | _ => none
  | .extract x i => match a.eval x with
    | .tuple vs => vs[i]?
    | _ => none
  | .nilCheck x => match a.eval x with
    | .pointer (some p) => some (.pointer (some p))
    | _ => none
  | .unOp .not _ x => match a.eval x with
    | .bool b => some (.bool (!b))
    | _ => none
  | .binOp o _ x y _ => match a.eval x, a.eval y with
    | .int .i64 p, .int .i64 q => match o with
      | .add => some (.int .i64 (IntKind.i64.wrap (p + q)))
      | .sub => some (.int .i64 (IntKind.i64.wrap (p - q)))
      | .lss => some (.bool (decide (p < q)))
      | .leq => some (.bool (decide (p ≤ q)))
      | .gtr => some (.bool (decide (q < p)))
      | .geq => some (.bool (decide (q ≤ p)))
      | .eql => some (.bool (decide (p = q)))
      | .neq => some (.bool (decide (p ≠ q)))
      | _ => none
    | _, _ => none
  | _ => none
section
variable {P : Program} {ops : Array Oper} {Q : Exit → Act → World → Prop} {a : Act} {w : World} {rest : List Oper}
theorem pv_gives (J : Kn P) {o : Oper} {v : Value} {K : Value → World → Prop} (h : pv J w a o.op = some v) (hk : K v w) : gives P o a w K := by
  obtain ⟨dst, op, ty, pos, aft, gd⟩ := o
  revert h
  show pv J w a op = some v → _
  unfold pv
  split
  · split
    · next hx =>
      split
      · next hf => intro h; exact g_ld1 _ _ _ _ _ hx (J.hf _ hf _ _ _ _ h) hk
      · intro h; cases h
    · intro h; cases h
  · split
    · next hx =>
      split
      · next hg => intro h; cases h; exact g_fa _ _ _ _ _ _ hx (J.hg _ _ _ hg _ _ _) hk
      · intro h; cases h
    · intro h; cases h
  · intro h; cases h; exact g_move _ _ rfl hk
  · intro h; cases h; exact g_assign _ _ rfl hk
  · split
    · next hc => intro h; cases h; exact g_pickt _ _ _ _ hc rfl hk
    · next hc => intro h; cases h; exact g_pickf _ _ _ _ hc rfl hk
    · intro h; cases h
  · split
    · next hx => intro h; exact g_extract _ _ _ _ hx h hk
    · intro h; cases h
  · split
    · next hx => intro h; cases h; exact g_nil _ _ hx hk
    · intro h; cases h
  · split
    · next hx => intro h; cases h; exact g_unot _ _ _ hx hk
    · intro h; cases h
  · split
    · next hx hy =>
      split
      · intro h; cases h; exact g_iadd _ _ _ _ _ _ hx hy rfl hk
      · intro h; cases h; exact g_isub _ _ _ _ _ _ _ hx hy rfl hk
      · intro h; cases h; exact g_ilss _ _ _ _ _ _ _ hx hy rfl hk
      · intro h; cases h; exact g_ileq _ _ _ _ _ _ _ hx hy rfl hk
      · intro h; cases h; exact g_igtr _ _ _ _ _ _ _ hx hy rfl hk
      · intro h; cases h; exact g_igeq _ _ _ _ _ _ _ hx hy rfl hk
      · intro h; cases h; exact g_ieq _ _ _ _ _ _ _ hx hy rfl hk
      · intro h; cases h; exact g_ine _ _ _ _ _ _ _ hx hy rfl hk
      · intro h; cases h
    · intro h; cases h
  · intro h; cases h
/-- As far as it goes. -/
def fare (K : Kn P) (w : World) (ops : Array Oper) : List Oper → Act → List Oper × Act
  | [], a => ([], a)
  | o :: rest, a => match Region.wanted o (yielded ops a.tmps) with
    | true => match pv K w a o.op with
      | some v => fare K w ops rest (a.put o.dst v)
      | none => (o :: rest, a)
    | false => fare K w ops rest (a.put o.dst undef)
def WF (P : Program) (ops : Array Oper) (Q : Exit → Act → World → Prop) (p : List Oper × Act) (w : World) : Prop := WL P ops Q p.1 p.2 w
theorem wl_fare (K : Kn P) (h : WF P ops Q (fare K w ops rest a) w) : WL P ops Q rest a w := by
  induction rest generalizing a with
  | nil => exact h
  | cons o l ih =>
    unfold fare at h
    split at h
    · next hw =>
      split at h
      · next hv => exact wl_give hw (pv_gives K hv (ih h))
      · exact h
    · next hw => exact wl_skip hw (ih h)
theorem fr_nil (K : Kn P) : fare K w ops [] a = ([], a) := rfl
theorem fr_cons {o : Oper} (K : Kn P) : fare K w ops (o :: rest) a = match Region.wanted o (yielded ops a.tmps) with
    | true => match pv K w a o.op with
      | some v => fare K w ops rest (a.put o.dst v)
      | none => (o :: rest, a)
    | false => fare K w ops rest (a.put o.dst undef) := rfl
end
theorem fr_end {P : Program} {ops : Array Oper} {Q : Exit → Act → World → Prop} {a : Act} {w : World} {l : List Oper} : WF P ops Q (l, a) w = WL P ops Q l a w := rfl
theorem ev_t {l : List Value} {D : List Deferred} {i : Nat} : Act.eval ⟨l.toArray, D⟩ (.tmp i) = l.getD i undef := by simp [Act.eval]
theorem ev_c {a : Act} {v : Value} : a.eval (.const v) = v := rfl
theorem gd_0 {l : List Value} {u v : Value} : (u :: l).getD 0 v = u := rfl
theorem gd_s {l : List Value} {i : Nat} {u v : Value} : (u :: l).getD (i + 1) v = l.getD i v := List.getD_cons_succ
theorem wn_n {dst : Option Tmp} {op : Op} {ty : TypeId} {pos : String} {aft : Array Edge} {y : Nat → Option Bool} : Region.wanted ⟨dst, op, ty, pos, aft, none⟩ y = true := rfl
def bo : Value → Option Bool
  | .bool b => some b
  | _ => none
/-- What a guard's operation yielded. -/
def dl (l : List Oper) (t : List Value) (j : Nat) : Option Bool := match (l[j]?).bind (·.dst) with
  | some d => bo (t.getD d undef)
  | none => none
theorem wn_s {dst : Option Tmp} {op : Op} {ty : TypeId} {pos : String} {aft : Array Edge} {l : List Oper} {t : List Value} {j : Nat} {b : Bool} : Region.wanted ⟨dst, op, ty, pos, aft, some (j, b)⟩ (yielded l.toArray t.toArray) = (dl l t j == some b) := by
  show (yielded l.toArray t.toArray j == some b) = _
  congr 1
  unfold yielded dl
  simp only [List.getElem?_toArray]
  cases (l[j]?).bind (·.dst) with
  | none => rfl
  | some d =>
    simp only [Option.bind_some, List.getD_eq_getElem?_getD]
    cases t[d]? with
    | none => rfl
    | some v => cases v <;> rfl
theorem dl_0 {d : Tmp} {op : Op} {ty : TypeId} {pos : String} {aft : Array Edge} {g : Option (Nat × Bool)} {l : List Oper} {t : List Value} : dl (⟨some d, op, ty, pos, aft, g⟩ :: l) t 0 = bo (t.getD d undef) := rfl
theorem dl_s {o : Oper} {l : List Oper} {t : List Value} {j : Nat} : dl (o :: l) t (j + 1) = dl l t j := by
  unfold dl; rw [List.getElem?_cons_succ]
theorem bo_b {b : Bool} : bo (.bool b) = some b := rfl
theorem e_tt : (some true == some true) = true := rfl
theorem e_ff : (some false == some false) = true := rfl
theorem e_tf : (some true == some false) = false := rfl
theorem e_ft : (some false == some true) = false := rfl
theorem dt {p : Prop} [Decidable p] (h : p) : decide p = true := decide_eq_true h
theorem df {p : Prop} [Decidable p] (h : ¬ p) : decide p = false := decide_eq_false h
theorem wr {x : Int} (h : -9223372036854775808 ≤ x ∧ x ≤ 9223372036854775807) : IntKind.i64.wrap x = x := by
  rw [IntKind.wrap_i64]; omega
theorem pv_mv {P : Program} {K : Kn P} {w : World} {a : Act} {x : Operand} : pv K w a (.move x) = some (a.eval x) := rfl
theorem pv_as {P : Program} {K : Kn P} {w : World} {a : Act} {x : Operand} : pv K w a (.assign x) = some (a.eval x) := rfl
theorem pu_s {a : Act} {d : Tmp} {v : Value} : a.put (some d) v = ⟨a.tmps.setIfInBounds d v, a.defers⟩ := rfl
theorem pu_n {a : Act} {v : Value} : a.put none v = a := rfl
theorem ar_t {l : List Value} {i : Nat} : l.toArray[i]? = l[i]? := List.getElem?_toArray ..
theorem ge_0 {l : List Value} {u : Value} : (u :: l)[0]? = some u := rfl
theorem ge_s {l : List Value} {i : Nat} {u : Value} : (u :: l)[i + 1]? = l[i]? := List.getElem?_cons_succ
theorem ad0 {n : Nat} : 0 + n = n := Nat.zero_add n
theorem b_nt : (!true) = false := rfl
theorem b_nf : (!false) = true := rfl
set_option linter.defProp false in
def fx := (And.intro @pu_s (And.intro @pu_n (And.intro @pv_mv (And.intro @pv_as (And.intro @fr_nil (And.intro @fr_cons (And.intro @fr_end (And.intro @ev_t (And.intro @ev_c (And.intro @gd_0 (And.intro @gd_s (And.intro @wn_n (And.intro @wn_s (And.intro @dl_0 (And.intro @dl_s (And.intro @bo_b (And.intro @e_tt (And.intro @e_ff (And.intro @e_tf (And.intro @e_ft (And.intro @st_a (And.intro @st_0 (And.intro @st_s (And.intro @ar_t (And.intro @ge_0 (And.intro @ge_s (And.intro @dt (And.intro @df (And.intro @wr (And.intro @ad0 (And.intro @b_nt @b_nf)))))))))))))))))))))))))))))))
set_option linter.defProp false in
def nz := And.intro @pu_s (And.intro @pu_n (And.intro @st_a (And.intro @st_0 @st_s)))
/-- A call that leaves the memory as it is. -/
theorem g_cM {P : Program} {a : Act} {w0 w : World} {L : List HP} {K : Value → World → Prop} {dst : Option Tmp} {ty : TypeId} {pos : String} {aft : Array Edge} {gd : Option (Nat × Bool)} {f : FuncId} {args : List Operand} {ts : Array TypeId} {vs : List Value} {v : Value} (hM : Ms w0 w L) (hc : (callFunc f vs.toArray).run P w = .ok (.enter f vs.toArray) w) (h : Calls P f vs.toArray w (fun e w' => e = .returned v ∧ Below w.heap.size w w')) (hv : args.map a.eval = vs) (hk : ∀ w', Ms w0 w' L → K v w') : gives P ⟨dst, .call { callee := .value (.func f), args := args.toArray, argTypes := ts }, ty, pos, aft, gd⟩ a w K :=
  g_call f args ts vs hc hv (h.mono (fun e w' ⟨h1, h2⟩ => ⟨v, h1, hk w' (hM.call h2)⟩))
section
variable {P : Program} {ops : Array Oper} {A : Act} {C : World → Prop} {dst : Option Tmp} {ty : TypeId} {pos : String} {aft : Array Edge} {gd : Option (Nat × Bool)}
theorem wl_text {id : Nat} {Q : Exit → Act → World → Prop} {a0 : Act} {w : World} {l : List Oper} (hB : regB l = true) (vs : List Value) (hl : l.length = vs.length) (h0 : C w) (hop : allGive P l.toArray C (fullL l vs a0) l vs) (hend : ∀ w, C w → Q .normal (fullL l vs a0) w) : (Code.region id l.toArray false).wp P Q a0 w :=
  wp_region_lit (wp_list_text hB vs hl C h0 hop hend)
theorem mvL {x : Operand} {v : Value} (hw : Region.wanted ⟨dst, .move x, ty, pos, aft, gd⟩ (yielded ops A.tmps) = true) (h : A.eval x = v) : ∀ w, C w → givesW P ops ⟨dst, .move x, ty, pos, aft, gd⟩ A w (fun y w' => y = v ∧ C w') := fun w hC => gw hw (g_move x v h ⟨rfl, hC⟩)
theorem asL {x : Operand} {v : Value} (hw : Region.wanted ⟨dst, .assign x, ty, pos, aft, gd⟩ (yielded ops A.tmps) = true) (h : A.eval x = v) : ∀ w, C w → givesW P ops ⟨dst, .assign x, ty, pos, aft, gd⟩ A w (fun y w' => y = v ∧ C w') := fun w hC => gw hw (g_assign x v h ⟨rfl, hC⟩)
theorem ncL {x : Operand} {p : Addr} (hw : Region.wanted ⟨dst, .nilCheck x, ty, pos, aft, gd⟩ (yielded ops A.tmps) = true) (h : A.eval x = .pointer (some p)) : ∀ w, C w → givesW P ops ⟨dst, .nilCheck x, ty, pos, aft, gd⟩ A w (fun y w' => y = .pointer (some p) ∧ C w') := fun w hC => gw hw (g_nil x p h ⟨rfl, hC⟩)
theorem ptL {c x y : Operand} {v : Value} (hw : Region.wanted ⟨dst, .pick c x y, ty, pos, aft, gd⟩ (yielded ops A.tmps) = true) (hc : A.eval c = .bool true) (h : A.eval x = v) : ∀ w, C w → givesW P ops ⟨dst, .pick c x y, ty, pos, aft, gd⟩ A w (fun y w' => y = v ∧ C w') := fun w hC => gw hw (g_pickt c x y v hc h ⟨rfl, hC⟩)
theorem faL {s i : Nat} {x : Operand} {b o o' : Nat} (hw : Region.wanted ⟨dst, .fieldAddr s x i, ty, pos, aft, gd⟩ (yielded ops A.tmps) = true) (h : A.eval x = .pointer (some ⟨b, o, none⟩)) (hi : ∀ w, (Instr.fieldAt s (.pointer (some ⟨b, o, none⟩)) i).run P w = .ok (.pointer (some ⟨b, o', none⟩)) w) : ∀ w, C w → givesW P ops ⟨dst, .fieldAddr s x i, ty, pos, aft, gd⟩ A w (fun y w' => y = .pointer (some ⟨b, o', none⟩) ∧ C w') := fun w hC => gw hw (g_fa s x b o o' i h (hi w) ⟨rfl, hC⟩)
end
theorem so {α : Type} {a b : α} (h : some a = some b) : a = b := Option.some.inj h
end Go.Proofs.YtpenicjlpiechaaDoor
