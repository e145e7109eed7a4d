/- A walk through a function that sends or receives on channels, alone: statement by statement, what is still to do kept as a list; plain statements by their own law. Over any program. -/
import Derived.Test.YtcclcemdodoiiaaGreatDoorQLib
import Derived.Conc.LoneCalls
import Derived.Conc.LoneSelect
namespace Go.Proofs.YtcclcemdodoiiaaGreatDoor
set_option maxRecDepth 10000
open Go Go.RowKit Go.Conc
set_option linter.unusedVariables false
variable {P : Program} {b : Frame} {a : Act} {k : List Item} {cs : List Frame} {w : World} {Z : Goroutine → World → Prop}
/-- From here the run comes to a state of which Z holds. -/
def LT (P : Program) (Z : Goroutine → World → Prop) (b : Frame) (cs : List Frame) (k : List Item) (a : Act) (w : World) : Prop := LoneTo P Z (G (b.at a k) cs) w
theorem lt_steps {k' : List Item} {a' : Act} {w' : World} (hs : Steps P (lone (b.at a k) cs w) (lone (b.at a' k') cs w')) (h : LT P Z b cs k' a' w') : LT P Z b cs k a w := by
  obtain ⟨g, w2, h1, h2⟩ := h
  exact ⟨g, w2, hs.trans h1, h2⟩
theorem lt_seq {x y : Code} (h : LT P Z b cs (.code x :: .code y :: k) a w) : LT P Z b cs (.code (.seq x y) :: k) a w := lt_steps (.one step_seq) h
theorem lt_skip (h : LT P Z b cs k a w) : LT P Z b cs (.code .skip :: k) a w := lt_steps (.one step_skip) h
theorem lt_block {id : Nat} {c : Code} (h : LT P Z b cs (.code c :: .inBlock id :: k) a w) : LT P Z b cs (.code (.block id c) :: k) a w := lt_steps (.one step_block) h
theorem lt_over {id : Nat} (h : LT P Z b cs k a w) : LT P Z b cs (.inBlock id :: k) a w := lt_steps (.one step_inBlock) h
theorem lt_loop {c : Code} (h : LT P Z b cs (.code c :: .inLoop c :: k) a w) : LT P Z b cs (.code (.loop c) :: k) a w := lt_steps (.one step_loop) h
theorem lt_again {c : Code} (h : LT P Z b cs (.code c :: .inLoop c :: k) a w) : LT P Z b cs (.inLoop c :: k) a w := lt_steps (.one step_inLoop) h
theorem lt_exit {id : Nat} {k' : List Item} (hk : exitTo id k = some k') (h : LT P Z b cs k' a w) : LT P Z b cs (.code (.exit id) :: k) a w := lt_steps (.one (step_exit hk)) h
theorem lt_true {c : Operand} {x y : Code} (hc : a.eval c = .bool true) (h : LT P Z b cs (.code x :: k) a w) : LT P Z b cs (.code (.cond c x y) :: k) a w := lt_steps (.one (step_cond hc)) h
theorem lt_false {c : Operand} {x y : Code} (hc : a.eval c = .bool false) (h : LT P Z b cs (.code y :: k) a w) : LT P Z b cs (.code (.cond c x y) :: k) a w := lt_steps (.one (step_cond hc)) h
/-- A statement that goes straight on, by its own law. -/
theorem lt_wp {c : Code} (h : ∀ K : Act → World → Prop, (∀ a' w', LT P Z b cs k a' w' → K a' w') → c.wp P (Exit.then K (fun _ _ _ => False)) a w) : LT P Z b cs (.code c :: k) a w := by
  obtain ⟨e, a', w', hq, hr⟩ := h (fun a' w' => LT P Z b cs k a' w') (fun _ _ h => h) b k cs
  cases e with
  | normal => exact lt_steps hr hq
  | _ => exact hq.elim
/-- The function's end. -/
theorem lt_ret {fn : Func} {v : Value} {R : Ending → World → Prop} {f : FuncId} (hb : b.fn = f) (hk : b.kind = .normal) (hf : P.funcs[f]? = some fn) (ha : a.defers = []) (hr : (results fn a.tmps).run P w = .ok v w) (h : R (.returned v) w) :
    LT P (fun g' w' => ∃ e fr, g' = G fr cs ∧ R e w' ∧ fr.fn = f ∧ fr.leaving P w' e) b cs (.code .ret :: k) a w :=
  ⟨_, w, .one step_ret, .returned v, _, rfl, h, hb, rfl, ha, hk, fn, by rw [← hf, ← hb]; rfl, hr⟩
theorem calls_of_lt {f : FuncId} {fn : Func} {c : Code} {args : Array Value} {v : Value} {Q : World → Prop} (hf : P.funcs[f]? = some fn) (hc : fn.body = some c)
    (h : ∀ (b : Frame) cs, b.fn = f → b.kind = .normal → LT P (fun g' w' => ∃ e fr, g' = G fr cs ∧ (e = .returned v ∧ Q w') ∧ fr.fn = f ∧ fr.leaving P w' e) b cs [.code c] { tmps := args ++ Array.replicate (fn.ntmps - args.size) undef, defers := [] } w) :
    Calls P f args w (fun e w' => e = .returned v ∧ Q w') :=
  calls_of_loneTo fun cs => by
    have h1 := h { (default : Frame) with fn := f, kind := .normal } cs rfl rfl
    have e : Frame.enter P f args .normal = ({ (default : Frame) with fn := f, kind := .normal } : Frame).at { tmps := args ++ Array.replicate (fn.ntmps - args.size) undef, defers := [] } [.code c] := by
      simp [Frame.enter, Frame.at, hf, hc]
    rw [e]; exact h1
theorem calls_of_ltv {f : FuncId} {fn : Func} {c : Code} {args : Array Value} {Q : Value → World → Prop} (hf : P.funcs[f]? = some fn) (hc : fn.body = some c)
    (h : ∀ (b : Frame) cs, b.fn = f → b.kind = .normal → LT P (fun g' w' => ∃ e fr, g' = G fr cs ∧ (∃ v, e = .returned v ∧ Q v w') ∧ fr.fn = f ∧ fr.leaving P w' e) b cs [.code c] { tmps := args ++ Array.replicate (fn.ntmps - args.size) undef, defers := [] } w) :
    Calls P f args w (fun e w' => ∃ v, e = .returned v ∧ Q v w') :=
  calls_of_loneTo (hno := fun w' ⟨v, h1, _⟩ => by cases h1) fun cs => by
    have h1 := h { (default : Frame) with fn := f, kind := .normal } cs rfl rfl
    have e : Frame.enter P f args .normal = ({ (default : Frame) with fn := f, kind := .normal } : Frame).at { tmps := args ++ Array.replicate (fn.ntmps - args.size) undef, defers := [] } [.code c] := by
      simp [Frame.enter, Frame.at, hf, hc]
    rw [e]; exact h1
/-! ### A region, operation by operation -/
/-- The operations of these numbers are still to come. -/
def LI (P : Program) (Z : Goroutine → World → Prop) (b : Frame) (cs : List Frame) (k : List Item) (ops : Array Oper) (l : List Nat) (a : Act) (w : World) : Prop := LT P Z b cs (.inRegion ops l :: k) a w
variable {ops : Array Oper} {l : List Nat} {i : Nat}
theorem li_region {id : Nat} (h : LI P Z b cs k ops (List.range ops.size) a w) : LT P Z b cs (.code (.region id ops false) :: k) a w := lt_steps (.one step_region) h
theorem li_nil (h : LT P Z b cs k a w) : LI P Z b cs k ops [] a w := lt_steps (.one step_region_end) h
theorem li_give {o : Oper} (ho : ops[i]? = some o) (hw : Region.wanted o (yielded ops a.tmps) = true) (h : gives P o a w (fun v w' => LI P Z b cs k ops l (a.put o.dst v) w')) : LI P Z b cs k ops (i :: l) a w := by
  have hfin : ∀ v, (b.at a (.inRegion ops (i :: l) :: k)).finish v = b.at (a.put o.dst v) (.inRegion ops l :: k) := fun v => by rw [Frame.finish_at, ho]; rfl
  unfold gives at h
  cases hr : (execOp a.eval o).run P w with
  | halt x w' => rw [hr] at h; exact h.elim
  | ok n w' =>
    rw [hr] at h
    cases n <;> simp only [givesUpon] at h
    case value v => exact lt_steps (.one (step_lone_go (by rw [stepG_op ho hw, ← hfin]; simp [stepG.apply, hr]))) h
    case skip => exact lt_steps (.one (step_lone_go (by rw [stepG_op ho hw, ← hfin]; simp [stepG.apply, hr]))) h
    case enter f args =>
      obtain ⟨e, w2, fr, ⟨v, rfl, hv⟩, h1, _, h2⟩ := h (b.at a (.inRegion ops (i :: l) :: k) :: cs)
      have hen : step P (lone (b.at a (.inRegion ops (i :: l) :: k)) cs w) = .next (lone (Frame.enter P f args .normal) (b.at a (.inRegion ops (i :: l) :: k) :: cs) w') := step_lone_go (by rw [stepG_op ho hw]; simp [stepG.apply, hr, Frame.at])
      have hout := step_leave_returned (P := P) (c := b.at a (.inRegion ops (i :: l) :: k)) (cs := cs) h2
      rw [hfin] at hout
      exact lt_steps (.head hen (Steps.trans h1 (.one hout))) hv
/-! ### Channels -/
/-- The channel c, made by 'make', has room for cap things and holds these. -/
def Chn (w : World) (c cap : Nat) (l : List Value) : Prop := ∃ s r, w.heap[c]? = some (.chan cap l.toArray false s r false)
theorem Chn.lt {c cap : Nat} {l : List Value} (h : Chn w c cap l) : c < w.heap.size := by obtain ⟨s, r, h⟩ := h; exact (Array.getElem?_eq_some_iff.1 h).1
def ch (c cap : Nat) (l : List Value) : HP where
  P F w := (∀ k, F k ↔ k = c) ∧ Chn w c cap l
  loc F w w' h hk := ⟨h.1, by have e := hk c ((h.1 c).2 rfl); obtain ⟨s, r, h2⟩ := h.2; exact ⟨s, r, by rw [e]; exact h2⟩⟩
  lt F w h k hk := by obtain rfl := (h.1 k).1 hk; exact h.2.lt
section
variable {w0 : World} {R : List HP} {c cap : Nat} {vs : List Value}
theorem ch_get (h : Ms w0 w (ch c cap vs :: R)) : Chn w c cap vs := by obtain ⟨F, ⟨F1, F2, h1, _⟩, _⟩ := h.mem; exact h1.2
theorem ch_turn (h : Ms w0 w (ch c cap vs :: R)) {w' : World} {cap' : Nat} {vs' : List Value} (ht : Turn c w w') (hc : Chn w' c cap' vs') : Ms w0 w' (ch c cap' vs' :: R) := by
  obtain ⟨F, ⟨F1, F2, h1, h2, h3, h4⟩, h5⟩ := h.mem
  exact Ms.turnF h.below h2 h4 (fun k hk => h5 k ((h3 k).2 (.inl hk))) (fun k hk => h5 k ((h3 k).2 (.inr hk))) ht.os ht.tape ht.output ht.size (fun k _ hk => ht.block k (fun e => hk ((h1.1 k).2 e))) (A := ch c cap' vs') (F1' := F1) ⟨h1.1, hc⟩ (fun k h => .inl h)
theorem turn_setChan (c cap : Nat) (buf : Array Value) (cl : Bool) (s r : Nat) (tm : Bool) (w : World) : Turn c w (w.setChan c cap buf cl s r tm) := ⟨rfl, rfl, rfl, by simp [World.setChan], fun k hk => by simp only [World.setChan]; rw [Array.getElem?_setIfInBounds_ne (Ne.symm hk)]⟩
theorem stepG_of {cases : Array CommCase} {blocking : Bool} {shape : CommShape} {o : Oper} (hb : b.kind = .normal) (ho : ops[i]? = some o) (hw : Region.wanted o (yielded ops a.tmps) = true) (hr : (execOp a.eval o).run P w = .ok (.comm cases blocking shape) w) :
    stepG P true (G (b.at a (.inRegion ops (i :: l) :: k)) cs) w = .comm (G (b.at a (.inRegion ops (i :: l) :: k)) cs) cases blocking shape w (listed P b.fn a o w) :=
  stepG_comm ho hw (by rw [hb]; decide) hr
variable {dst : Option Tmp} {ty : TypeId} {pos : String} {aft : Array Edge}
theorem fin_at (ho : (ops[i]?).bind (·.dst) = dst) (v : Value) : (b.at a (.inRegion ops (i :: l) :: k)).finish v = b.at (a.put dst v) (.inRegion ops l :: k) := by rw [Frame.finish_at, ho]
/-- 'x <- y', and there is room. -/
theorem li_send {x y : Operand} {v : Value} (hb : b.kind = .normal) (ho : ops[i]? = some ⟨dst, .send x y, ty, pos, aft, none⟩) (hx : a.eval x = .chan (some c)) (hy : a.eval y = v) (hM : Ms w0 w (ch c cap vs :: R)) (hroom : vs.length < cap)
    (h : ∀ w', Ms w0 w' (ch c cap (vs ++ [v]) :: R) → LI P Z b cs k ops l (a.put dst undef) w') : LI P Z b cs k ops (i :: l) a w := by
  obtain ⟨s, r, hc⟩ := ch_get hM
  have hs := step_lone_send_room (P := P) (fr := b.at a (.inRegion ops (i :: l) :: k)) (cs := cs) (w := w) (z' := .tuple #[]) (v := v) (stepG_of hb ho rfl (by simp [execOp, hx, hy, scase])) hc (by simpa using hroom)
  rw [fin_at (by rw [ho])] at hs
  refine LoneTo.step hs (h _ ?_)
  exact ch_turn hM (turn_setChan _ _ _ _ _ _ _ _) ⟨s + 1, r, by rw [heap_setChan _ _ _ _ _ _ _ _ (ch_get hM).lt]; simp⟩
/-- '<-x', and there is something. -/
theorem li_recv {x : Operand} {t e : TypeId} {z v : Value} {d : ChanDir} (hb : b.kind = .normal) (ho : ops[i]? = some ⟨dst, .recv t x false, ty, pos, aft, none⟩) (ht : P.underlying t = some (.chan d e)) (hz : ∀ w, (zeroValue e).run P w = .ok z w) (hx : a.eval x = .chan (some c)) (hM : Ms w0 w (ch c cap (v :: vs) :: R))
    (h : ∀ w', Ms w0 w' (ch c cap vs :: R) → LI P Z b cs k ops l (a.put dst v) w') : LI P Z b cs k ops (i :: l) a w := by
  obtain ⟨s, r, hc⟩ := ch_get hM
  have hs := step_lone_recv_buf (P := P) (fr := b.at a (.inRegion ops (i :: l) :: k)) (cs := cs) (w := w) (z := z) false (stepG_of hb ho rfl (by simp [execOp, hx, rcase, run_underlying ht, hz, Result.andThen])) hc (by simp)
  rw [fin_at (by rw [ho])] at hs
  refine LoneTo.step hs (h _ ?_)
  exact ch_turn hM (turn_setChan _ _ _ _ _ _ _ _) ⟨s, r + 1, by rw [heap_setChan _ _ _ _ _ _ _ _ (ch_get hM).lt]; simp⟩
theorem run_select {x y : Operand} {t : TypeId} {z v : Value} {cv : Value} (hz : ∀ w, (zeroValue t).run P w = .ok z w) (hx : a.eval x = cv) (hy : a.eval y = v) :
    (execOp a.eval ⟨dst, .select #[{ chan := x, send := some y, elem := t }] false, ty, pos, aft, none⟩).run P w = .ok (.comm #[{ chan := cv, send := some v, zero := z }] false .select) w := by
  simp [execOp, hx, hy, hz, Result.andThen]
/-- 'select { case x <- y: .. default: .. }': there is room. -/
theorem li_sel_room {x y : Operand} {t : TypeId} {z v : Value} (hb : b.kind = .normal) (ho : ops[i]? = some ⟨dst, .select #[{ chan := x, send := some y, elem := t }] false, ty, pos, aft, none⟩) (hz : ∀ w, (zeroValue t).run P w = .ok z w) (hx : a.eval x = .chan (some c)) (hy : a.eval y = v)
    (hM : Ms w0 w (ch c cap vs :: R)) (hroom : vs.length < cap)
    (h : ∀ w', Ms w0 w' (ch c cap (vs ++ [v]) :: R) → LI P Z b cs k ops l (a.put dst (.tuple #[.int .i64 0, .bool false])) w') : LI P Z b cs k ops (i :: l) a w := by
  obtain ⟨s, r, hc⟩ := ch_get hM
  have hs := step_lone_select_send_room (P := P) (fr := b.at a (.inRegion ops (i :: l) :: k)) (cs := cs) (w := w) (z' := z) (v := v) (stepG_of hb ho rfl (run_select hz hx hy)) hc (by simpa using hroom)
  rw [fin_at (by rw [ho])] at hs
  refine LoneTo.step hs (h _ ?_)
  exact ch_turn hM (turn_setChan _ _ _ _ _ _ _ _) ⟨s + 1, r, by rw [heap_setChan _ _ _ _ _ _ _ _ (ch_get hM).lt]; simp⟩
/-- .. there is none. -/
theorem li_sel_full {x y : Operand} {t : TypeId} {z v : Value} (hb : b.kind = .normal) (ho : ops[i]? = some ⟨dst, .select #[{ chan := x, send := some y, elem := t }] false, ty, pos, aft, none⟩) (hz : ∀ w, (zeroValue t).run P w = .ok z w) (hx : a.eval x = .chan (some c)) (hy : a.eval y = v)
    (hM : Ms w0 w (ch c cap vs :: R)) (hfull : cap ≤ vs.length)
    (h : LI P Z b cs k ops l (a.put dst (.tuple #[.int .i64 (-1), .bool false])) w) : LI P Z b cs k ops (i :: l) a w := by
  obtain ⟨s, r, hc⟩ := ch_get hM
  have hs := step_lone_select_send_full (P := P) (fr := b.at a (.inRegion ops (i :: l) :: k)) (cs := cs) (w := w) (z' := z) (v := v) (stepG_of hb ho rfl (run_select hz hx hy)) hc (by simpa using hfull)
  rw [fin_at (by rw [ho])] at hs
  exact LoneTo.step hs h
/-- .. the channel is nil. -/
theorem li_sel_nil {x y : Operand} {t : TypeId} {z v : Value} (hb : b.kind = .normal) (ho : ops[i]? = some ⟨dst, .select #[{ chan := x, send := some y, elem := t }] false, ty, pos, aft, none⟩) (hz : ∀ w, (zeroValue t).run P w = .ok z w) (hx : a.eval x = .chan none) (hy : a.eval y = v)
    (h : LI P Z b cs k ops l (a.put dst (.tuple #[.int .i64 (-1), .bool false])) w) : LI P Z b cs k ops (i :: l) a w := by
  have hs := step_lone_select_send_nil (P := P) (fr := b.at a (.inRegion ops (i :: l) :: k)) (cs := cs) (w := w) (z' := z) (v := v) (stepG_of hb ho rfl (run_select hz hx hy))
  rw [fin_at (by rw [ho])] at hs
  exact LoneTo.step hs h
end
/-! ### The same over the operations themselves -/
/-- The operations from number n on are still to come. -/
def LO (P : Program) (Z : Goroutine → World → Prop) (b : Frame) (cs : List Frame) (k : List Item) (ops : Array Oper) (n : Nat) (l : List Oper) (a : Act) (w : World) : Prop := ops.toList.drop n = l → LI P Z b cs k ops (List.range' n l.length) a w
variable {n : Nat} {rest : List Oper}
theorem lt_region {id : Nat} {l : List Oper} (h : LO P Z b cs k l.toArray 0 l a w) : LT P Z b cs (.code (.region id l.toArray false) :: k) a w := by
  refine li_region ?_
  have h1 := h rfl
  rw [List.size_toArray, List.range_eq_range']
  exact h1
theorem lo_nil (h : LT P Z b cs k a w) : LO P Z b cs k ops n [] a w := fun _ => li_nil h
theorem bdrop_at {o : Oper} (h : ops.toList.drop n = o :: rest) : ops[n]? = some o ∧ ops.toList.drop (n + 1) = rest := by
  have h1 : (ops.toList.drop n)[0]? = some o := by rw [h]; rfl
  rw [List.getElem?_drop, Nat.add_zero] at h1
  refine ⟨by simpa using h1, ?_⟩
  have h2 := congrArg (List.drop 1) h
  rw [List.drop_drop] at h2
  simpa using h2
theorem lo_give {o : Oper} (hw : Region.wanted o (yielded ops a.tmps) = true) (h : gives P o a w (fun v w' => LO P Z b cs k ops (n + 1) rest (a.put o.dst v) w')) : LO P Z b cs k ops n (o :: rest) a w := fun hd =>
  li_give (bdrop_at hd).1 hw (gives_mono h fun _ _ h => h (bdrop_at hd).2)
section
variable {w0 : World} {R : List HP} {c cap : Nat} {vs : List Value} {dst : Option Tmp} {ty : TypeId} {pos : String} {aft : Array Edge}
theorem lo_send {x y : Operand} {v : Value} (hb : b.kind = .normal) (hx : a.eval x = .chan (some c)) (hy : a.eval y = v) (hM : Ms w0 w (ch c cap vs :: R)) (hroom : vs.length < cap)
    (h : ∀ w', Ms w0 w' (ch c cap (vs ++ [v]) :: R) → LO P Z b cs k ops (n + 1) rest (a.put dst undef) w') : LO P Z b cs k ops n (⟨dst, .send x y, ty, pos, aft, none⟩ :: rest) a w := fun hd =>
  li_send hb (bdrop_at hd).1 hx hy hM hroom fun w' h1 => h w' h1 (bdrop_at hd).2
theorem lo_recv {x : Operand} {t e : TypeId} {z v : Value} {d : ChanDir} (hb : b.kind = .normal) (ht : P.underlying t = some (.chan d e)) (hz : ∀ w, (zeroValue e).run P w = .ok z w) (hx : a.eval x = .chan (some c)) (hM : Ms w0 w (ch c cap (v :: vs) :: R))
    (h : ∀ w', Ms w0 w' (ch c cap vs :: R) → LO P Z b cs k ops (n + 1) rest (a.put dst v) w') : LO P Z b cs k ops n (⟨dst, .recv t x false, ty, pos, aft, none⟩ :: rest) a w := fun hd =>
  li_recv hb (bdrop_at hd).1 ht hz hx hM fun w' h1 => h w' h1 (bdrop_at hd).2
variable {x y : Operand} {t : TypeId} {z v : Value}
theorem lo_sel_room (hb : b.kind = .normal) (hz : ∀ w, (zeroValue t).run P w = .ok z w) (hx : a.eval x = .chan (some c)) (hy : a.eval y = v) (hM : Ms w0 w (ch c cap vs :: R)) (hroom : vs.length < cap)
    (h : ∀ w', Ms w0 w' (ch c cap (vs ++ [v]) :: R) → LO P Z b cs k ops (n + 1) rest (a.put dst (.tuple #[.int .i64 0, .bool false])) w') : LO P Z b cs k ops n (⟨dst, .select #[{ chan := x, send := some y, elem := t }] false, ty, pos, aft, none⟩ :: rest) a w := fun hd =>
  li_sel_room hb (bdrop_at hd).1 hz hx hy hM hroom fun w' h1 => h w' h1 (bdrop_at hd).2
theorem lo_sel_full (hb : b.kind = .normal) (hz : ∀ w, (zeroValue t).run P w = .ok z w) (hx : a.eval x = .chan (some c)) (hy : a.eval y = v) (hM : Ms w0 w (ch c cap vs :: R)) (hfull : cap ≤ vs.length)
    (h : LO P Z b cs k ops (n + 1) rest (a.put dst (.tuple #[.int .i64 (-1), .bool false])) w) : LO P Z b cs k ops n (⟨dst, .select #[{ chan := x, send := some y, elem := t }] false, ty, pos, aft, none⟩ :: rest) a w := fun hd =>
  li_sel_full hb (bdrop_at hd).1 hz hx hy hM hfull (h (bdrop_at hd).2)
theorem lo_sel_nil (hb : b.kind = .normal) (hz : ∀ w, (zeroValue t).run P w = .ok z w) (hx : a.eval x = .chan none) (hy : a.eval y = v)
    (h : LO P Z b cs k ops (n + 1) rest (a.put dst (.tuple #[.int .i64 (-1), .bool false])) w) : LO P Z b cs k ops n (⟨dst, .select #[{ chan := x, send := some y, elem := t }] false, ty, pos, aft, none⟩ :: rest) a w := fun hd =>
  li_sel_nil hb (bdrop_at hd).1 hz hx hy (h (bdrop_at hd).2)
end
end Go.Proofs.YtcclcemdodoiiaaGreatDoor
