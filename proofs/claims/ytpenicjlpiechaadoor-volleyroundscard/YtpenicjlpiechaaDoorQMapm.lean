/- Maps as lists of what they hold, in the order in which it came: looked up, turned, let go, and gone through. Over any program. -/
import Derived.Test.YtpenicjlpiechaaDoorQLib
import Derived.Maps.RangeWalk
import Derived.Carry
namespace Go.Proofs.YtpenicjlpiechaaDoor
set_option maxRecDepth 10000
open Go Go.RowKit
open Go.ChangeMaps (setBlock)
set_option linter.unusedVariables false
set_option linter.unusedSimpArgs false
set_option linter.unusedSectionVars false
section pure
variable {κ : Type} [DecidableEq κ]
def mlook (es : List (κ × Value)) (x : κ) : Option Value := (es.find? (fun p => decide (p.1 = x))).map (·.2)
def mput (es : List (κ × Value)) (x : κ) (v : Value) : List (κ × Value) := if x ∈ es.map (·.1) then es.map (fun p => if p.1 = x then (x, v) else p) else es ++ [(x, v)]
end pure
def ekv (e : MapEntry) : Value × Value := (e.key, e.val)
section
variable {κ : Type}
def pkv (enc : κ → Value) (p : κ × Value) : Value × Value := (enc p.1, p.2)
end
/-- Keys of this type: what a map answers that is asked for one. -/
structure KeyOk {κ : Type} [DecidableEq κ] (P : Program) (kt : TypeId) (enc : κ → Value) : Prop where
  inj' : ∀ x y, enc x = enc y → x = y
  find : ∀ (w : World) (x : κ) (A : List MapEntry) (es : List (κ × Value)), A.map ekv = es.map (pkv enc) → (x ∉ es.map (·.1) ∧ (Instr.findKey kt (enc x) A).run P w = .ok none w) ∨ ∃ j v, es[j]? = some (x, v) ∧ (Instr.findKey kt (enc x) A).run P w = .ok (some (j, v)) w
  check : ∀ (w : World) (em : Bool) (x : κ), (Instr.checkKey em 10000 kt (enc x)).run P w = .ok () w
  same : ∀ x, Instr.sameBits 10000 (enc x) (enc x) = true
variable {P : Program} {κ : Type} [DecidableEq κ] {enc : κ → Value}
theorem KeyOk.inj {kt : TypeId} (K : KeyOk P kt enc) {x y : κ} (h : enc x = enc y) : x = y := K.inj' x y h
theorem find_ask {kt : TypeId} (w : World) (he : ∀ x y, (Op.equal kt (enc x) (enc y)).run P w = .ok (decide (x = y)) w) (x : κ) : ∀ (A : List MapEntry) (es : List (κ × Value)) (i : Nat), A.map ekv = es.map (pkv enc) →
    (x ∉ es.map (·.1) ∧ (Instr.findAsking kt (enc x) A i).run P w = .ok none w) ∨ ∃ j v, es[j]? = some (x, v) ∧ (Instr.findAsking kt (enc x) A i).run P w = .ok (some (i + j, v)) w
  | [], es, i, h => by
    obtain rfl : es = [] := by simpa using h.symm
    exact .inl ⟨by simp, rfl⟩
  | e :: A, [], i, h => by simp at h
  | e :: A, (y, v) :: es, i, h => by
    simp only [List.map_cons, List.cons.injEq, ekv, pkv, Prod.mk.injEq] at h
    obtain ⟨⟨hk, hv⟩, h⟩ := h
    by_cases hxy : x = y
    · subst hxy
      refine .inr ⟨0, v, rfl, ?_⟩
      simp [Instr.findAsking, hk, he, hv]
    · rcases find_ask w he x A es (i + 1) h with ⟨h1, h2⟩ | ⟨j, u, h1, h2⟩
      · refine .inl ⟨by simp only [List.map_cons, List.mem_cons, not_or]; exact ⟨hxy, h1⟩, ?_⟩
        simp [Instr.findAsking, hk, he, hxy, h2]
      · refine .inr ⟨j + 1, u, by simpa using h1, ?_⟩
        simp [Instr.findAsking, hk, he, hxy, h2]; omega
/-- Keys that are told apart by asking: structs. -/
theorem KeyOk.asking {kt : TypeId} {d : TypeDesc} (hd : P.underlying kt = some d) (hn : ∀ x y, Instr.sameNow d (enc x) (enc y) = none) (inj : ∀ x y, enc x = enc y → x = y) (he : ∀ w x y, (Op.equal kt (enc x) (enc y)).run P w = .ok (decide (x = y)) w) (check : ∀ (w : World) (em : Bool) (x : κ), (Instr.checkKey em 10000 kt (enc x)).run P w = .ok () w) (same : ∀ x, Instr.sameBits 10000 (enc x) (enc x) = true) : KeyOk P kt enc where
  inj' := inj
  find w x A es h := by
    cases A with
    | nil =>
      obtain rfl : es = [] := by simpa using h.symm
      exact .inl ⟨by simp, by simp [Instr.findKey, run_underlying hd, Instr.findNow]⟩
    | cons e A =>
      obtain ⟨y, hy⟩ : ∃ y, e.key = enc y := by
        cases es with
        | nil => simp at h
        | cons p es =>
          simp only [List.map_cons, List.cons.injEq, ekv, pkv, Prod.mk.injEq] at h
          exact ⟨p.1, h.1.1⟩
      have h0 : Instr.findNow d (enc x) (e :: A) 0 = none := by simp [Instr.findNow, hy, hn]
      rcases find_ask w (he w) x (e :: A) es 0 h with ⟨h1, h2⟩ | ⟨j, v, h1, h2⟩
      · exact .inl ⟨h1, by simp [Instr.findKey, run_underlying hd, h0, h2]⟩
      · exact .inr ⟨j, v, h1, by rw [Nat.zero_add] at h2; simp [Instr.findKey, run_underlying hd, h0, h2]⟩
  check := check
  same := same
/-- What the block of a map holds. -/
structure MB (enc : κ → Value) (A : Array MapEntry) (clock : Nat) (es : List (κ × Value)) : Prop where
  kv : A.toList.map ekv = es.map (pkv enc)
  old : ∀ e ∈ A.toList, e.born < clock
  born : (A.toList.map (·.born)).Nodup
  keys : (es.map (·.1)).Nodup
theorem mlook_none {es : List (κ × Value)} {x : κ} (h : x ∉ es.map (·.1)) : mlook es x = none := by
  unfold mlook
  rw [List.find?_eq_none.2 (fun p hp => by simpa using fun e => h (List.mem_map.2 ⟨p, hp, e⟩))]; rfl
theorem mlook_some : ∀ {es : List (κ × Value)} {x : κ} {v : Value} {j : Nat}, (es.map (·.1)).Nodup → es[j]? = some (x, v) → mlook es x = some v := by
  intro es x v j hn hj
  have hm := List.mem_of_getElem? hj
  induction es generalizing j with
  | nil => simp at hj
  | cons p es ih =>
    simp only [List.map_cons, List.nodup_cons] at hn
    unfold mlook
    rcases j with _ | j
    · obtain rfl : p = (x, v) := by simpa using hj
      simp
    · have hj' : es[j]? = some (x, v) := by simpa using hj
      have hm' := List.mem_of_getElem? hj'
      have hne : p.1 ≠ x := fun e => hn.1 (List.mem_map.2 ⟨_, hm', e.symm⟩)
      have := ih hn.2 hj' hm'
      unfold mlook at this
      simp [hne, this]
theorem find_run {kt : TypeId} (K : KeyOk P kt enc) (w : World) {A : Array MapEntry} {clock : Nat} {es : List (κ × Value)} (h : MB enc A clock es) (x : κ) :
    (x ∉ es.map (·.1) ∧ (Instr.findKey kt (enc x) A.toList).run P w = .ok none w) ∨ ∃ j v, es[j]? = some (x, v) ∧ (Instr.findKey kt (enc x) A.toList).run P w = .ok (some (j, v)) w := K.find w x A.toList es h.kv
theorem check_run {kt : TypeId} (K : KeyOk P kt enc) (w : World) (em : Bool) (x : κ) : (Instr.checkKey em 10000 kt (enc x)).run P w = .ok () w := K.check w em x
theorem look_run {t kt et : TypeId} (K : KeyOk P kt enc) (ht : P.underlying t = some (.map kt et)) {z : Value} (hz : ∀ w, (zeroValue et).run P w = .ok z w) (w : World) {b : Nat} {A : Array MapEntry} {clock : Nat} {es : List (κ × Value)} (hb : w.heap[b]? = some (.map A clock)) (h : MB enc A clock es) (x : κ) :
    (Instr.lookup t (.map (some b)) (enc x) false).run P w = .ok ((mlook es x).getD z) w := by
  rcases find_run K w h x with ⟨h1, h2⟩ | ⟨j, v, h1, h2⟩
  · simp [Instr.lookup, run_underlying ht, MapKept.run_getObj_map hb, check_run K, h2, hz, Result.andThen, mlook_none h1]
  · simp [Instr.lookup, run_underlying ht, MapKept.run_getObj_map hb, check_run K, h2, Result.andThen, mlook_some h.keys h1]
theorem turn_setBlock (w : World) (b : Nat) (o : Obj) : Turn b w (setBlock w b o) := ⟨rfl, rfl, rfl, by simp [setBlock], fun k hk => by simp only [setBlock]; rw [Array.getElem?_setIfInBounds_ne (Ne.symm hk)]⟩
theorem setBlock_at {w : World} {b : Nat} {o o' : Obj} (h : w.heap[b]? = some o') : (setBlock w b o).heap[b]? = some o := by
  have := (Array.getElem?_eq_some_iff.1 h).1
  simp [setBlock, this]
theorem mput_new {es : List (κ × Value)} {x : κ} {v : Value} (h : x ∉ es.map (·.1)) : mput es x v = es ++ [(x, v)] := by unfold mput; rw [if_neg h]
theorem mput_set {es : List (κ × Value)} {x : κ} {u v : Value} {j : Nat} (hn : (es.map (·.1)).Nodup) (hj : es[j]? = some (x, u)) : mput es x v = es.set j (x, v) := by
  have hm : x ∈ es.map (·.1) := List.mem_map.2 ⟨_, List.mem_of_getElem? hj, rfl⟩
  unfold mput
  rw [if_pos hm]
  apply List.ext_getElem?
  intro i
  rw [List.getElem?_map, List.getElem?_set]
  by_cases hij : j = i
  · subst hij
    have hl := (List.getElem?_eq_some_iff.1 hj).1
    rw [hj]; simp [hl]
  · rw [if_neg hij]
    cases hi : es[i]? with
    | none => rfl
    | some p =>
      have hne : p.1 ≠ x := by
        intro e
        have h1 : (es.map (·.1))[i]? = (es.map (·.1))[j]? := by rw [List.getElem?_map, List.getElem?_map, hi, hj]; simp [e]
        have hil : i < (es.map (·.1)).length := by simpa using (List.getElem?_eq_some_iff.1 hi).1
        exact hij ((List.getElem?_inj hil hn).1 h1).symm
      simp [hne]
theorem put_run {t kt et : TypeId} (K : KeyOk P kt enc) (ht : P.underlying t = some (.map kt et)) (w : World) {b : Nat} {A : Array MapEntry} {clock : Nat} {es : List (κ × Value)} (hb : w.heap[b]? = some (.map A clock)) (h : MB enc A clock es) (x : κ) (v : Value) :
    ∃ A' clock', (Instr.mapUpdate t (.map (some b)) (enc x) v).run P w = .ok () (setBlock w b (.map A' clock')) ∧ MB enc A' clock' (mput es x v) := by
  rcases find_run K w h x with ⟨h1, h2⟩ | ⟨j, u, h1, h2⟩
  · refine ⟨A.push ⟨enc x, v, clock⟩, clock + 1, ?_, ?_⟩
    · simp [Instr.mapUpdate, run_underlying ht, MapKept.run_getObj_map hb, check_run K, h2, MapKept.run_setObj_map _ hb, Result.andThen, setBlock]
    · rw [mput_new h1]
      refine ⟨by simp [h.kv, ekv, pkv], fun e he => ?_, ?_, ?_⟩
      · simp only [Array.toList_push, List.mem_append, List.mem_singleton] at he
        rcases he with he | rfl
        · exact Nat.lt_succ_of_lt (h.old e he)
        · exact Nat.lt_succ_self _
      · simp only [Array.toList_push, List.map_append, List.map_cons, List.map_nil]
        refine List.nodup_append.2 ⟨h.born, by simp, ?_⟩
        rintro n hn m hm rfl
        obtain rfl := List.mem_singleton.1 hm
        obtain ⟨e, he, h3⟩ := List.mem_map.1 hn
        exact absurd (h.old e he) (by omega)
      · rw [List.map_append, List.map_singleton]
        refine List.nodup_append.2 ⟨h.keys, by simp, ?_⟩
        rintro n hn m hm rfl
        obtain rfl := List.mem_singleton.1 hm
        exact h1 hn
  · have hlen : A.toList.length = es.length := by simpa using congrArg List.length h.kv
    have hjl : j < A.size := by have := (List.getElem?_eq_some_iff.1 h1).1; simp at hlen; omega
    obtain ⟨e0, he0⟩ : ∃ e0, A[j]? = some e0 := ⟨_, Array.getElem?_eq_getElem hjl⟩
    have hk0 : ekv e0 = pkv enc (x, u) := by
      have h3 : (A.toList.map ekv)[j]? = (es.map (pkv enc))[j]? := by rw [h.kv]
      rw [List.getElem?_map, List.getElem?_map, h1] at h3
      simpa [he0] using h3
    have hk1 : e0.key = enc x := congrArg Prod.fst hk0
    have hst : (Instr.keyThatStays (enc x) (enc x)).run P w = .ok (enc x) w := by simp [Instr.keyThatStays, K.same]
    refine ⟨A.modify j (fun e => { e with key := enc x, val := v }), clock, ?_, ?_⟩
    · simp [Instr.mapUpdate, run_underlying ht, MapKept.run_getObj_map hb, check_run K, h2, he0, hk1, hst, MapKept.run_setObj_map _ hb, Result.andThen, setBlock]
    · rw [mput_set h.keys h1]
      have hl : (A.modify j (fun e => { e with key := enc x, val := v })).toList = A.toList.set j { e0 with key := enc x, val := v } := by
        apply List.ext_getElem?
        intro i
        rw [List.getElem?_set, Array.getElem?_toList, Array.getElem?_modify]
        by_cases hij : j = i
        · subst hij; rw [he0]; simp [hjl]
        · simp [hij]
      have hb0 : (A.toList.set j { e0 with key := enc x, val := v }).map (·.born) = A.toList.map (·.born) := by
        rw [List.map_set]
        apply List.ext_getElem?
        intro i
        rw [List.getElem?_set]
        by_cases hij : j = i
        · subst hij; rw [List.getElem?_map, Array.getElem?_toList, he0]; simp [hjl]
        · simp [hij]
      refine ⟨?_, fun e he => ?_, ?_, ?_⟩
      · rw [hl, List.map_set, h.kv, List.map_set]; rfl
      · have h4 : e.born ∈ (A.toList.set j { e0 with key := enc x, val := v }).map (·.born) := List.mem_map.2 ⟨e, by rwa [hl] at he, rfl⟩
        rw [hb0] at h4
        obtain ⟨e', he', h5⟩ := List.mem_map.1 h4
        rw [← h5]; exact h.old e' he'
      · rw [hl, hb0]; exact h.born
      · rw [List.map_set]
        have h6 : (es.map (·.1)).set j x = es.map (·.1) := by
          apply List.ext_getElem?
          intro i
          rw [List.getElem?_set]
          by_cases hij : j = i
          · subst hij
            have := (List.getElem?_eq_some_iff.1 h1).1
            rw [List.getElem?_map, h1]; simp [this]
          · simp [hij]
        rw [h6]; exact h.keys
/-! ### Parts of memory -/
/-- The map b holds these. -/
def mp (enc : κ → Value) (b : Nat) (es : List (κ × Value)) : HP where
  P F w := (∀ k, F k ↔ k = b) ∧ ∃ A clock, w.heap[b]? = some (.map A clock) ∧ MB enc A clock es
  loc F w w' h hk := ⟨h.1, by obtain ⟨A, c, h1, h2⟩ := h.2; exact ⟨A, c, by rw [hk b ((h.1 b).2 rfl)]; exact h1, h2⟩⟩
  lt F w h k hk := by obtain rfl := (h.1 k).1 hk; obtain ⟨A, c, h1, _⟩ := h.2; exact (Array.getElem?_eq_some_iff.1 h1).1
/-- What a map and the one who goes through it hold: what there is, what is still to come, where he stands. -/
structure RB (enc : κ → Value) (w : World) (b r : Nat) (es left : List (κ × Value)) (cur : Option (κ × Value)) : Prop where
  ne : r ≠ b
  st : ∃ A clock since seen, w.heap[b]? = some (.map A clock) ∧ w.heap[r]? = some (.mapIter (some b) since seen clock) ∧ MB enc A clock es ∧ since ≤ clock ∧ (∀ e ∈ A.toList, e.born < since) ∧
    (A.toList.filter (fun e => !seen.contains e.born)).map ekv = left.map (pkv enc) ∧ ∀ x, cur = some x → ∃ (e : MapEntry) (seen0 : Array Nat), e ∈ A.toList ∧ ekv e = pkv enc x ∧ seen = seen0.push e.born
section
variable {w0 w : World} {R : List HP} {b r : Nat} {es left : List (κ × Value)} {cur : Option (κ × Value)} {t kt et ty : TypeId}
theorem mp_get (h : Ms w0 w (mp enc b es :: R)) : ∃ A clock, w.heap[b]? = some (.map A clock) ∧ MB enc A clock es := by obtain ⟨F, ⟨F1, F2, h1, _⟩, _⟩ := h.mem; exact h1.2
theorem mp_turn {w' : World} {es' : List (κ × Value)} {A : Array MapEntry} {clock : Nat} (h : Ms w0 w (mp enc b es :: R)) (ht : Turn b w w') (hb : w'.heap[b]? = some (.map A clock)) (hm : MB enc A clock es') : Ms w0 w' (mp enc b es' :: R) := by
  obtain ⟨F, ⟨F1, F2, h1, h2, h3, h4⟩, h5⟩ := h.mem
  exact Ms.turnF h.below h2 h4 (fun k hk => h5 k ((h3 k).2 (.inl hk))) (fun k hk => h5 k ((h3 k).2 (.inr hk))) ht.os ht.tape ht.output ht.size (fun k _ hk => ht.block k (fun e => hk ((h1.1 k).2 e))) (A := mp enc b es') (F1' := F1) ⟨h1.1, A, clock, hb, hm⟩ (fun k h => .inl h)
theorem mp_new (h : Ms w0 w R) : Ms w0 (w.alloc (.map #[] 0)) (mp enc w.heap.size [] :: R) := by
  obtain ⟨F, h1, h2⟩ := h.mem
  have hb : Below w.heap.size w (w.alloc (.map #[] 0)) := (Below.refl _ _).alloc (Nat.le_refl _) _
  refine ⟨h.below.trans (hb.mono h.below.size), fun k => k = w.heap.size ∨ F k, ⟨fun k => k = w.heap.size, F, ⟨fun k => Iff.rfl, #[], 0, heap_alloc_new _ _, ⟨rfl, by simp, by simp, by simp⟩⟩, h1.loc (fun k hk => hb.block k (h1.lt k hk)), fun k => Iff.rfl, ?_⟩, ?_⟩
  · rintro k rfl hk
    exact absurd (h1.lt _ hk) (by omega)
  · rintro k (rfl | hk)
    · exact h.below.size
    · exact h2 k hk
theorem mp_look (K : KeyOk P kt enc) (ht : P.underlying t = some (.map kt et)) {z : Value} (hz : ∀ w, (zeroValue et).run P w = .ok z w) (h : Ms w0 w (mp enc b es :: R)) (x : κ) : (Instr.lookup t (.map (some b)) (enc x) false).run P w = .ok ((mlook es x).getD z) w := by
  obtain ⟨A, c, hb, hm⟩ := mp_get h
  exact look_run K ht hz w hb hm x
theorem mp_put (K : KeyOk P kt enc) (ht : P.underlying t = some (.map kt et)) (h : Ms w0 w (mp enc b es :: R)) (x : κ) (v : Value) : ∃ w', (Instr.mapUpdate t (.map (some b)) (enc x) v).run P w = .ok () w' ∧ Ms w0 w' (mp enc b (mput es x v) :: R) := by
  obtain ⟨A, c, hb, hm⟩ := mp_get h
  obtain ⟨A', c', h1, h2⟩ := put_run K ht w hb hm x v
  exact ⟨_, h1, mp_turn h (turn_setBlock _ _ _) (setBlock_at hb) h2⟩
end
theorem MB.key {kt : TypeId} (K : KeyOk P kt enc) {A : Array MapEntry} {clock : Nat} {es : List (κ × Value)} (h : MB enc A clock es) : (A.toList.map (·.key)).Nodup := by
  have h1 : A.toList.map (·.key) = (es.map (·.1)).map enc := by
    have := congrArg (List.map Prod.fst) h.kv
    rw [List.map_map, List.map_map] at this
    rw [List.map_map]; exact this
  rw [h1]
  exact List.pairwise_map.2 (h.keys.imp fun hne e => hne (K.inj e))
section
variable {w0 w : World} {R : List HP} {b r : Nat} {es left : List (κ × Value)} {cur : Option (κ × Value)} {t kt et ty : TypeId}
end
/-! ### What single operations yield -/
section
variable {w0 w : World} {R : List HP} {b r : Nat} {es left : List (κ × Value)} {cur : Option (κ × Value)} {t kt et ty : TypeId} {a : Act} {Q : Value → World → Prop} {dst : Option Tmp} {pos : String} {aft : Array Edge} {gd : Option (Nat × Bool)}
theorem g_mmap (h : Ms w0 w R) (hk : ∀ w', Ms w0 w' (mp enc w.heap.size [] :: R) → Q (.map (some w.heap.size)) w') : gives P ⟨dst, .makeMap t none, ty, pos, aft, gd⟩ a w Q :=
  g_val _ _ (by simp only [execOp, Option.map_none, Sem.run_bind, run_makeMap, Result.andThen_ok, Sem.run_pure]) (hk _ (mp_new h))
theorem g_look (K : KeyOk P kt enc) (ht : P.underlying t = some (.map kt et)) {z : Value} (hz : ∀ w, (zeroValue et).run P w = .ok z w) (x y : Operand) (k : κ) (v : Value) (hx : a.eval x = .map (some b)) (hy : a.eval y = enc k) (h : Ms w0 w (mp enc b es :: R)) (hv : (mlook es k).getD z = v) (hk : Q v w) : gives P ⟨dst, .lookup t x y false, ty, pos, aft, gd⟩ a w Q :=
  g_val v w (by subst hv; simp only [execOp, hx, hy, Sem.run_bind, mp_look K ht hz h k, Result.andThen_ok, Sem.run_pure]) hk
theorem g_mup (K : KeyOk P kt enc) (ht : P.underlying t = some (.map kt et)) (x y z : Operand) (k : κ) (v : Value) (hx : a.eval x = .map (some b)) (hy : a.eval y = enc k) (hz : a.eval z = v) (h : Ms w0 w (mp enc b es :: R)) (hk : ∀ w', Ms w0 w' (mp enc b (mput es k v) :: R) → Q undef w') : gives P ⟨dst, .mapUpdate t x y z, ty, pos, aft, gd⟩ a w Q := by
  obtain ⟨w', h1, h2⟩ := mp_put K ht h k v
  unfold gives
  simp only [execOp, hx, hy, hz, Sem.run_bind, h1, Result.andThen_ok, Sem.run_pure]
  exact hk _ h2
end
end Go.Proofs.YtpenicjlpiechaaDoor
