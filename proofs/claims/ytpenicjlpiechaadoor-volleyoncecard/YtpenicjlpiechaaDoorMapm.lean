/- Maps as lists of what they hold, in the order in which it came: looked up, turned, let go, and gone through. Over any program. -/
import Derived.Test.YtpenicjlpiechaaDoorLib
import Derived.Maps.RangeWalk
import Derived.Carry
namespace Go.Proofs.YtpenicjlpiechaaDoor
set_option maxRecDepth 10000
open Go Go.RowKit
open Go.ChangeMaps (setBlock)
set_option linter.unusedVariables false
set_option linter.unusedSimpArgs false
set_option linter.unusedSectionVars false
section pure
variable {κ : Type} [DecidableEq κ]
def mlook (es : List (κ × Value)) (x : κ) : Option Value := (es.find? (fun p => decide (p.1 = x))).map (·.2)
def mdel (es : List (κ × Value)) (x : κ) : List (κ × Value) := es.filter (fun p => !decide (p.1 = x))
def mput (es : List (κ × Value)) (x : κ) (v : Value) : List (κ × Value) := if x ∈ es.map (·.1) then es.map (fun p => if p.1 = x then (x, v) else p) else es ++ [(x, v)]
end pure
def ekv (e : MapEntry) : Value × Value := (e.key, e.val)
section
variable {κ : Type}
def pkv (enc : κ → Value) (p : κ × Value) : Value × Value := (enc p.1, p.2)
end
/-- Keys of this type: what a map answers that is asked for one. -/
structure KeyOk {κ : Type} [DecidableEq κ] (P : Program) (kt : TypeId) (enc : κ → Value) : Prop where
  inj' : ∀ x y, enc x = enc y → x = y
  find : ∀ (w : World) (x : κ) (A : List MapEntry) (es : List (κ × Value)), A.map ekv = es.map (pkv enc) → (x ∉ es.map (·.1) ∧ (Instr.findKey kt (enc x) A).run P w = .ok none w) ∨ ∃ j v, es[j]? = some (x, v) ∧ (Instr.findKey kt (enc x) A).run P w = .ok (some (j, v)) w
  check : ∀ (w : World) (em : Bool) (x : κ), (Instr.checkKey em 10000 kt (enc x)).run P w = .ok () w
  same : ∀ x, Instr.sameBits 10000 (enc x) (enc x) = true
variable {P : Program} {κ : Type} [DecidableEq κ] {enc : κ → Value}
theorem KeyOk.inj {kt : TypeId} (K : KeyOk P kt enc) {x y : κ} (h : enc x = enc y) : x = y := K.inj' x y h
theorem find_now {d : TypeDesc} (hs : ∀ x y, Instr.sameNow d (enc x) (enc y) = some (decide (x = y))) (x : κ) : ∀ (A : List MapEntry) (es : List (κ × Value)) (i : Nat), A.map ekv = es.map (pkv enc) →
    (x ∉ es.map (·.1) ∧ Instr.findNow d (enc x) A i = some none) ∨ ∃ j v, es[j]? = some (x, v) ∧ (∀ j' p, j' < j → es[j']? = some p → p.1 ≠ x) ∧ Instr.findNow d (enc x) A i = some (some (i + j, v))
  | [], es, i, h => by
    obtain rfl : es = [] := by simpa using h.symm
    exact .inl ⟨by simp, rfl⟩
  | e :: A, [], i, h => by simp at h
  | e :: A, (y, v) :: es, i, h => by
    simp only [List.map_cons, List.cons.injEq, ekv, pkv, Prod.mk.injEq] at h
    obtain ⟨⟨hk, hv⟩, h⟩ := h
    by_cases hxy : x = y
    · subst hxy
      refine .inr ⟨0, v, rfl, fun j' p hj => absurd hj (by omega), ?_⟩
      simp [Instr.findNow, hk, hs, hv]
    · rcases find_now hs x A es (i + 1) h with ⟨h1, h2⟩ | ⟨j, u, h1, h2, h3⟩
      · refine .inl ⟨by simp only [List.map_cons, List.mem_cons, not_or]; exact ⟨hxy, h1⟩, ?_⟩
        simp [Instr.findNow, hk, hs, hxy, h2]
      · refine .inr ⟨j + 1, u, by simpa using h1, fun j' p hj hp => ?_, ?_⟩
        · rcases j' with _ | j'
          · obtain rfl : (y, v) = p := by simpa using hp
            exact fun e => hxy e.symm
          · exact h2 j' p (by omega) (by simpa using hp)
        · simp [Instr.findNow, hk, hs, hxy, h3]; omega
/-- Keys that are told apart at once: numbers, texts, bools. -/
theorem KeyOk.now {kt : TypeId} {d : TypeDesc} (hd : P.underlying kt = some d) (hk : ∀ x, MapKept.IsKey d (enc x)) (hs : ∀ x y, Instr.sameNow d (enc x) (enc y) = some (decide (x = y))) (same : ∀ x, Instr.sameBits 10000 (enc x) (enc x) = true) : KeyOk P kt enc where
  inj' x y h := by
    have h1 := hs x y
    rw [← h, hs x x] at h1
    simpa using h1.symm
  find w x A es h := by
    rcases find_now hs x A es 0 h with ⟨h1, h2⟩ | ⟨j, v, h1, _, h2⟩
    · exact .inl ⟨h1, by simp [Instr.findKey, run_underlying hd, h2]⟩
    · exact .inr ⟨j, v, h1, by simp [Instr.findKey, run_underlying hd, h2]⟩
  check w em x := MapKept.run_checkKey hd (hk x) em 9999
  same := same
theorem find_ask {kt : TypeId} (w : World) (he : ∀ x y, (Op.equal kt (enc x) (enc y)).run P w = .ok (decide (x = y)) w) (x : κ) : ∀ (A : List MapEntry) (es : List (κ × Value)) (i : Nat), A.map ekv = es.map (pkv enc) →
    (x ∉ es.map (·.1) ∧ (Instr.findAsking kt (enc x) A i).run P w = .ok none w) ∨ ∃ j v, es[j]? = some (x, v) ∧ (Instr.findAsking kt (enc x) A i).run P w = .ok (some (i + j, v)) w
  | [], es, i, h => by
    obtain rfl : es = [] := by simpa using h.symm
    exact .inl ⟨by simp, rfl⟩
  | e :: A, [], i, h => by simp at h
  | e :: A, (y, v) :: es, i, h => by
    simp only [List.map_cons, List.cons.injEq, ekv, pkv, Prod.mk.injEq] at h
    obtain ⟨⟨hk, hv⟩, h⟩ := h
    by_cases hxy : x = y
    · subst hxy
      refine .inr ⟨0, v, rfl, ?_⟩
      simp [Instr.findAsking, hk, he, hv]
    · rcases find_ask w he x A es (i + 1) h with ⟨h1, h2⟩ | ⟨j, u, h1, h2⟩
      · refine .inl ⟨by simp only [List.map_cons, List.mem_cons, not_or]; exact ⟨hxy, h1⟩, ?_⟩
        simp [Instr.findAsking, hk, he, hxy, h2]
      · refine .inr ⟨j + 1, u, by simpa using h1, ?_⟩
        simp [Instr.findAsking, hk, he, hxy, h2]; omega
/-- Keys that are told apart by asking: structs. -/
theorem KeyOk.asking {kt : TypeId} {d : TypeDesc} (hd : P.underlying kt = some d) (hn : ∀ x y, Instr.sameNow d (enc x) (enc y) = none) (inj : ∀ x y, enc x = enc y → x = y) (he : ∀ w x y, (Op.equal kt (enc x) (enc y)).run P w = .ok (decide (x = y)) w) (check : ∀ (w : World) (em : Bool) (x : κ), (Instr.checkKey em 10000 kt (enc x)).run P w = .ok () w) (same : ∀ x, Instr.sameBits 10000 (enc x) (enc x) = true) : KeyOk P kt enc where
  inj' := inj
  find w x A es h := by
    cases A with
    | nil =>
      obtain rfl : es = [] := by simpa using h.symm
      exact .inl ⟨by simp, by simp [Instr.findKey, run_underlying hd, Instr.findNow]⟩
    | cons e A =>
      obtain ⟨y, hy⟩ : ∃ y, e.key = enc y := by
        cases es with
        | nil => simp at h
        | cons p es =>
          simp only [List.map_cons, List.cons.injEq, ekv, pkv, Prod.mk.injEq] at h
          exact ⟨p.1, h.1.1⟩
      have h0 : Instr.findNow d (enc x) (e :: A) 0 = none := by simp [Instr.findNow, hy, hn]
      rcases find_ask w (he w) x (e :: A) es 0 h with ⟨h1, h2⟩ | ⟨j, v, h1, h2⟩
      · exact .inl ⟨h1, by simp [Instr.findKey, run_underlying hd, h0, h2]⟩
      · exact .inr ⟨j, v, h1, by rw [Nat.zero_add] at h2; simp [Instr.findKey, run_underlying hd, h0, h2]⟩
  check := check
  same := same
/-- What the block of a map holds. -/
structure MB (enc : κ → Value) (A : Array MapEntry) (clock : Nat) (es : List (κ × Value)) : Prop where
  kv : A.toList.map ekv = es.map (pkv enc)
  old : ∀ e ∈ A.toList, e.born < clock
  born : (A.toList.map (·.born)).Nodup
  keys : (es.map (·.1)).Nodup
theorem mlook_none {es : List (κ × Value)} {x : κ} (h : x ∉ es.map (·.1)) : mlook es x = none := by
  unfold mlook
  rw [List.find?_eq_none.2 (fun p hp => by simpa using fun e => h (List.mem_map.2 ⟨p, hp, e⟩))]; rfl
theorem mlook_some : ∀ {es : List (κ × Value)} {x : κ} {v : Value} {j : Nat}, (es.map (·.1)).Nodup → es[j]? = some (x, v) → mlook es x = some v := by
  intro es x v j hn hj
  have hm := List.mem_of_getElem? hj
  induction es generalizing j with
  | nil => simp at hj
  | cons p es ih =>
    simp only [List.map_cons, List.nodup_cons] at hn
    unfold mlook
    rcases j with _ | j
    · obtain rfl : p = (x, v) := by simpa using hj
      simp
    · have hj' : es[j]? = some (x, v) := by simpa using hj
      have hm' := List.mem_of_getElem? hj'
      have hne : p.1 ≠ x := fun e => hn.1 (List.mem_map.2 ⟨_, hm', e.symm⟩)
      have := ih hn.2 hj' hm'
      unfold mlook at this
      simp [hne, this]
theorem find_run {kt : TypeId} (K : KeyOk P kt enc) (w : World) {A : Array MapEntry} {clock : Nat} {es : List (κ × Value)} (h : MB enc A clock es) (x : κ) :
    (x ∉ es.map (·.1) ∧ (Instr.findKey kt (enc x) A.toList).run P w = .ok none w) ∨ ∃ j v, es[j]? = some (x, v) ∧ (Instr.findKey kt (enc x) A.toList).run P w = .ok (some (j, v)) w := K.find w x A.toList es h.kv
theorem check_run {kt : TypeId} (K : KeyOk P kt enc) (w : World) (em : Bool) (x : κ) : (Instr.checkKey em 10000 kt (enc x)).run P w = .ok () w := K.check w em x
theorem look_run {t kt et : TypeId} (K : KeyOk P kt enc) (ht : P.underlying t = some (.map kt et)) {z : Value} (hz : ∀ w, (zeroValue et).run P w = .ok z w) (w : World) {b : Nat} {A : Array MapEntry} {clock : Nat} {es : List (κ × Value)} (hb : w.heap[b]? = some (.map A clock)) (h : MB enc A clock es) (x : κ) :
    (Instr.lookup t (.map (some b)) (enc x) false).run P w = .ok ((mlook es x).getD z) w := by
  rcases find_run K w h x with ⟨h1, h2⟩ | ⟨j, v, h1, h2⟩
  · simp [Instr.lookup, run_underlying ht, MapKept.run_getObj_map hb, check_run K, h2, hz, Result.andThen, mlook_none h1]
  · simp [Instr.lookup, run_underlying ht, MapKept.run_getObj_map hb, check_run K, h2, Result.andThen, mlook_some h.keys h1]
theorem turn_setBlock (w : World) (b : Nat) (o : Obj) : Turn b w (setBlock w b o) := ⟨rfl, rfl, rfl, by simp [setBlock], fun k hk => by simp only [setBlock]; rw [Array.getElem?_setIfInBounds_ne (Ne.symm hk)]⟩
theorem setBlock_at {w : World} {b : Nat} {o o' : Obj} (h : w.heap[b]? = some o') : (setBlock w b o).heap[b]? = some o := by
  have := (Array.getElem?_eq_some_iff.1 h).1
  simp [setBlock, this]
theorem mput_new {es : List (κ × Value)} {x : κ} {v : Value} (h : x ∉ es.map (·.1)) : mput es x v = es ++ [(x, v)] := by unfold mput; rw [if_neg h]
theorem mput_set {es : List (κ × Value)} {x : κ} {u v : Value} {j : Nat} (hn : (es.map (·.1)).Nodup) (hj : es[j]? = some (x, u)) : mput es x v = es.set j (x, v) := by
  have hm : x ∈ es.map (·.1) := List.mem_map.2 ⟨_, List.mem_of_getElem? hj, rfl⟩
  unfold mput
  rw [if_pos hm]
  apply List.ext_getElem?
  intro i
  rw [List.getElem?_map, List.getElem?_set]
  by_cases hij : j = i
  · subst hij
    have hl := (List.getElem?_eq_some_iff.1 hj).1
    rw [hj]; simp [hl]
  · rw [if_neg hij]
    cases hi : es[i]? with
    | none => rfl
    | some p =>
      have hne : p.1 ≠ x := by
        intro e
        have h1 : (es.map (·.1))[i]? = (es.map (·.1))[j]? := by rw [List.getElem?_map, List.getElem?_map, hi, hj]; simp [e]
        have hil : i < (es.map (·.1)).length := by simpa using (List.getElem?_eq_some_iff.1 hi).1
        exact hij ((List.getElem?_inj hil hn).1 h1).symm
      simp [hne]
theorem mput_keys {es : List (κ × Value)} {x : κ} {v : Value} : (mput es x v).map (·.1) = if x ∈ es.map (·.1) then es.map (·.1) else es.map (·.1) ++ [x] := by
  unfold mput
  split
  · rw [List.map_map]
    refine List.map_congr_left fun p _ => ?_
    simp only [Function.comp]
    split
    · rename_i h; exact h.symm
    · rfl
  · simp
theorem put_run {t kt et : TypeId} (K : KeyOk P kt enc) (ht : P.underlying t = some (.map kt et)) (w : World) {b : Nat} {A : Array MapEntry} {clock : Nat} {es : List (κ × Value)} (hb : w.heap[b]? = some (.map A clock)) (h : MB enc A clock es) (x : κ) (v : Value) :
    ∃ A' clock', (Instr.mapUpdate t (.map (some b)) (enc x) v).run P w = .ok () (setBlock w b (.map A' clock')) ∧ MB enc A' clock' (mput es x v) := by
  rcases find_run K w h x with ⟨h1, h2⟩ | ⟨j, u, h1, h2⟩
  · refine ⟨A.push ⟨enc x, v, clock⟩, clock + 1, ?_, ?_⟩
    · simp [Instr.mapUpdate, run_underlying ht, MapKept.run_getObj_map hb, check_run K, h2, MapKept.run_setObj_map _ hb, Result.andThen, setBlock]
    · rw [mput_new h1]
      refine ⟨by simp [h.kv, ekv, pkv], fun e he => ?_, ?_, ?_⟩
      · simp only [Array.toList_push, List.mem_append, List.mem_singleton] at he
        rcases he with he | rfl
        · exact Nat.lt_succ_of_lt (h.old e he)
        · exact Nat.lt_succ_self _
      · simp only [Array.toList_push, List.map_append, List.map_cons, List.map_nil]
        refine List.nodup_append.2 ⟨h.born, by simp, ?_⟩
        rintro n hn m hm rfl
        obtain rfl := List.mem_singleton.1 hm
        obtain ⟨e, he, h3⟩ := List.mem_map.1 hn
        exact absurd (h.old e he) (by omega)
      · rw [List.map_append, List.map_singleton]
        refine List.nodup_append.2 ⟨h.keys, by simp, ?_⟩
        rintro n hn m hm rfl
        obtain rfl := List.mem_singleton.1 hm
        exact h1 hn
  · have hlen : A.toList.length = es.length := by simpa using congrArg List.length h.kv
    have hjl : j < A.size := by have := (List.getElem?_eq_some_iff.1 h1).1; simp at hlen; omega
    obtain ⟨e0, he0⟩ : ∃ e0, A[j]? = some e0 := ⟨_, Array.getElem?_eq_getElem hjl⟩
    have hk0 : ekv e0 = pkv enc (x, u) := by
      have h3 : (A.toList.map ekv)[j]? = (es.map (pkv enc))[j]? := by rw [h.kv]
      rw [List.getElem?_map, List.getElem?_map, h1] at h3
      simpa [he0] using h3
    have hk1 : e0.key = enc x := congrArg Prod.fst hk0
    have hst : (Instr.keyThatStays (enc x) (enc x)).run P w = .ok (enc x) w := by simp [Instr.keyThatStays, K.same]
    refine ⟨A.modify j (fun e => { e with key := enc x, val := v }), clock, ?_, ?_⟩
    · simp [Instr.mapUpdate, run_underlying ht, MapKept.run_getObj_map hb, check_run K, h2, he0, hk1, hst, MapKept.run_setObj_map _ hb, Result.andThen, setBlock]
    · rw [mput_set h.keys h1]
      have hl : (A.modify j (fun e => { e with key := enc x, val := v })).toList = A.toList.set j { e0 with key := enc x, val := v } := by
        apply List.ext_getElem?
        intro i
        rw [List.getElem?_set, Array.getElem?_toList, Array.getElem?_modify]
        by_cases hij : j = i
        · subst hij; rw [he0]; simp [hjl]
        · simp [hij]
      have hb0 : (A.toList.set j { e0 with key := enc x, val := v }).map (·.born) = A.toList.map (·.born) := by
        rw [List.map_set]
        apply List.ext_getElem?
        intro i
        rw [List.getElem?_set]
        by_cases hij : j = i
        · subst hij; rw [List.getElem?_map, Array.getElem?_toList, he0]; simp [hjl]
        · simp [hij]
      refine ⟨?_, fun e he => ?_, ?_, ?_⟩
      · rw [hl, List.map_set, h.kv, List.map_set]; rfl
      · have h4 : e.born ∈ (A.toList.set j { e0 with key := enc x, val := v }).map (·.born) := List.mem_map.2 ⟨e, by rwa [hl] at he, rfl⟩
        rw [hb0] at h4
        obtain ⟨e', he', h5⟩ := List.mem_map.1 h4
        rw [← h5]; exact h.old e' he'
      · rw [hl, hb0]; exact h.born
      · rw [List.map_set]
        have h6 : (es.map (·.1)).set j x = es.map (·.1) := by
          apply List.ext_getElem?
          intro i
          rw [List.getElem?_set]
          by_cases hij : j = i
          · subst hij
            have := (List.getElem?_eq_some_iff.1 h1).1
            rw [List.getElem?_map, h1]; simp [this]
          · simp [hij]
        rw [h6]; exact h.keys
theorem mdel_none {es : List (κ × Value)} {x : κ} (h : x ∉ es.map (·.1)) : mdel es x = es := by
  unfold mdel
  exact List.filter_eq_self.2 fun p hp => by simpa using fun e => h (List.mem_map.2 ⟨p, hp, e⟩)
theorem mdel_erase : ∀ {es : List (κ × Value)} {x : κ} {u : Value} {j : Nat}, (es.map (·.1)).Nodup → es[j]? = some (x, u) → mdel es x = es.eraseIdx j := by
  intro es x u j hn hj
  induction es generalizing j with
  | nil => simp at hj
  | cons p es ih =>
    simp only [List.map_cons, List.nodup_cons] at hn
    rcases j with _ | j
    · obtain rfl : p = (x, u) := by simpa using hj
      have := mdel_none (x := x) hn.1
      unfold mdel at *
      simp [this]
    · have hj' : es[j]? = some (x, u) := by simpa using hj
      have hne : p.1 ≠ x := fun e => hn.1 (List.mem_map.2 ⟨_, List.mem_of_getElem? hj', e.symm⟩)
      have := ih hn.2 hj'
      unfold mdel at *
      simp [hne, this]
theorem mdel_keys {es : List (κ × Value)} {x : κ} (h : (es.map (·.1)).Nodup) : ((mdel es x).map (·.1)).Nodup := h.sublist (List.Sublist.map _ List.filter_sublist)
theorem par_keys {x : κ} {kt : TypeId} (K : KeyOk P kt enc) {A : List MapEntry} {es : List (κ × Value)} (h : A.map ekv = es.map (pkv enc)) (hx : x ∉ es.map (·.1)) : ∀ e ∈ A, e.key ≠ enc x := by
  intro e he e5
  have h3 : ekv e ∈ es.map (pkv enc) := by rw [← h]; exact List.mem_map.2 ⟨e, he, rfl⟩
  obtain ⟨p, hp, h4⟩ := List.mem_map.1 h3
  have h5 : enc p.1 = e.key := congrArg Prod.fst h4
  exact hx (List.mem_map.2 ⟨p, hp, K.inj (h5.trans e5)⟩)
theorem par_absent {x : κ} {A : List MapEntry} (hA : ∀ e ∈ A, e.key ≠ enc x) {p : MapEntry → Bool} {l : List (κ × Value)} (h : (A.filter p).map ekv = l.map (pkv enc)) : x ∉ l.map (·.1) := by
  intro hx
  obtain ⟨q, hq, rfl⟩ := List.mem_map.1 hx
  have h3 : pkv enc q ∈ (A.filter p).map ekv := by rw [h]; exact List.mem_map.2 ⟨q, hq, rfl⟩
  obtain ⟨e, he, h4⟩ := List.mem_map.1 h3
  exact hA e (List.mem_filter.1 he).1 (congrArg Prod.fst h4)
theorem par_del {x : κ} {kt : TypeId} (K : KeyOk P kt enc) {u : Value} (p : MapEntry → Bool) : ∀ (A : List MapEntry) (es : List (κ × Value)) (j : Nat) (l : List (κ × Value)), A.map ekv = es.map (pkv enc) → (es.map (·.1)).Nodup → es[j]? = some (x, u) →
    (A.filter p).map ekv = l.map (pkv enc) → ((A.eraseIdx j).filter p).map ekv = (mdel l x).map (pkv enc)
  | [], es, j, l, h, _, hj, _ => by
    obtain rfl : es = [] := by simpa using h.symm
    simp at hj
  | e :: A, [], j, l, h, _, _, _ => by simp at h
  | e :: A, q :: es, j, l, h, hn, hj, hl => by
    simp only [List.map_cons, List.cons.injEq] at h
    simp only [List.map_cons, List.nodup_cons] at hn
    have hk : e.key = enc q.1 := congrArg Prod.fst h.1
    rcases j with _ | j
    · obtain rfl : q = (x, u) := by simpa using hj
      have hA := par_keys K h.2 hn.1
      rw [List.eraseIdx_cons_zero]
      by_cases hp : p e = true
      · rw [List.filter_cons_of_pos hp] at hl
        cases l with
        | nil => simp at hl
        | cons r l =>
          simp only [List.map_cons, List.cons.injEq] at hl
          have hr : r.1 = x := K.inj ((congrArg Prod.fst hl.1).symm.trans hk)
          have h5 : mdel (r :: l) x = mdel l x := by unfold mdel; simp [hr]
          rw [h5, mdel_none (par_absent hA hl.2)]
          exact hl.2
      · rw [List.filter_cons_of_neg hp] at hl
        rw [mdel_none (par_absent hA hl)]
        exact hl
    · have hj' : es[j]? = some (x, u) := by simpa using hj
      have hne : q.1 ≠ x := fun e => hn.1 (List.mem_map.2 ⟨_, List.mem_of_getElem? hj', e.symm⟩)
      rw [List.eraseIdx_cons_succ]
      by_cases hp : p e = true
      · rw [List.filter_cons_of_pos hp] at hl ⊢
        cases l with
        | nil => simp at hl
        | cons r l =>
          simp only [List.map_cons, List.cons.injEq] at hl
          have hr : r.1 = q.1 := K.inj ((congrArg Prod.fst hl.1).symm.trans hk)
          have h5 : mdel (r :: l) x = r :: mdel l x := by unfold mdel; simp [hr, hne]
          rw [h5, List.map_cons, List.map_cons, hl.1, par_del K p A es j l h.2 hn.2 hj' hl.2]
      · rw [List.filter_cons_of_neg hp] at hl ⊢
        exact par_del K p A es j l h.2 hn.2 hj' hl
theorem del_run {t kt et ty : TypeId} (K : KeyOk P kt enc) (ht : P.underlying t = some (.map kt et)) (w : World) {b : Nat} {A : Array MapEntry} {clock : Nat} {es : List (κ × Value)} (hb : w.heap[b]? = some (.map A clock)) (h : MB enc A clock es) (x : κ) :
    ∃ A', (Builtin.delete_ #[t, kt] ty #[.map (some b), enc x]).run P w = .ok (.tuple #[]) (setBlock w b (.map A' clock)) ∧ MB enc A' clock (mdel es x) ∧ (∀ e ∈ A'.toList, e ∈ A.toList) ∧
      ∀ (p : MapEntry → Bool) (l : List (κ × Value)), (A.toList.filter p).map ekv = l.map (pkv enc) → (A'.toList.filter p).map ekv = (mdel l x).map (pkv enc) := by
  rcases find_run K w h x with ⟨h1, h2⟩ | ⟨j, u, h1, h2⟩
  · refine ⟨A, ?_, by rw [mdel_none h1]; exact h, fun _ h => h, fun p l hl => ?_⟩
    · simp [Builtin.delete_, run_underlying ht, MapKept.run_getObj_map hb, check_run K, h2, MapKept.run_setObj_map _ hb, Result.andThen, setBlock]
    · rw [mdel_none (par_absent (par_keys K h.kv h1) hl)]; exact hl
  · have hlen : A.toList.length = es.length := by simpa using congrArg List.length h.kv
    have hjl : j < A.size := by have := (List.getElem?_eq_some_iff.1 h1).1; simp at hlen; omega
    have hsub : (A.eraseIdxIfInBounds j).toList = A.toList.eraseIdx j := by
      unfold Array.eraseIdxIfInBounds
      rw [dif_pos hjl]
      simp
    have hall := par_del K (fun _ => true) A.toList es j es h.kv h.keys h1 (by rw [List.filter_eq_self.2 (fun _ _ => rfl)]; exact h.kv)
    rw [List.filter_eq_self.2 (fun _ _ => rfl)] at hall
    refine ⟨A.eraseIdxIfInBounds j, ?_, ⟨?_, fun e he => ?_, ?_, mdel_keys h.keys⟩, fun e he => ?_, fun p l hl => ?_⟩
    · simp [Builtin.delete_, run_underlying ht, MapKept.run_getObj_map hb, check_run K, h2, MapKept.run_setObj_map _ hb, Result.andThen, setBlock]
    · rw [hsub]; exact hall
    · rw [hsub] at he
      exact h.old e (List.mem_of_mem_eraseIdx he)
    · rw [hsub]
      exact h.born.sublist (List.Sublist.map _ (List.eraseIdx_sublist _ _))
    · rw [hsub] at he
      exact List.mem_of_mem_eraseIdx he
    · rw [hsub]; exact par_del K p A.toList es j l h.kv h.keys h1 hl
/-! ### Parts of memory -/
/-- The map b holds these. -/
def mp (enc : κ → Value) (b : Nat) (es : List (κ × Value)) : HP where
  P F w := (∀ k, F k ↔ k = b) ∧ ∃ A clock, w.heap[b]? = some (.map A clock) ∧ MB enc A clock es
  loc F w w' h hk := ⟨h.1, by obtain ⟨A, c, h1, h2⟩ := h.2; exact ⟨A, c, by rw [hk b ((h.1 b).2 rfl)]; exact h1, h2⟩⟩
  lt F w h k hk := by obtain rfl := (h.1 k).1 hk; obtain ⟨A, c, h1, _⟩ := h.2; exact (Array.getElem?_eq_some_iff.1 h1).1
/-- What a map and the one who goes through it hold: what there is, what is still to come, where he stands. -/
structure RB (enc : κ → Value) (w : World) (b r : Nat) (es left : List (κ × Value)) (cur : Option (κ × Value)) : Prop where
  ne : r ≠ b
  st : ∃ A clock since seen, w.heap[b]? = some (.map A clock) ∧ w.heap[r]? = some (.mapIter (some b) since seen clock) ∧ MB enc A clock es ∧ since ≤ clock ∧ (∀ e ∈ A.toList, e.born < since) ∧
    (A.toList.filter (fun e => !seen.contains e.born)).map ekv = left.map (pkv enc) ∧ ∀ x, cur = some x → ∃ (e : MapEntry) (seen0 : Array Nat), e ∈ A.toList ∧ ekv e = pkv enc x ∧ seen = seen0.push e.born
def rg (enc : κ → Value) (b r : Nat) (es left : List (κ × Value)) (cur : Option (κ × Value)) : HP where
  P F w := (∀ k, F k ↔ k = b ∨ k = r) ∧ RB enc w b r es left cur
  loc F w w' h hk := ⟨h.1, h.2.ne, by obtain ⟨A, c, s, n, h1, h2, h3⟩ := h.2.st; exact ⟨A, c, s, n, by rw [hk b ((h.1 b).2 (.inl rfl))]; exact h1, by rw [hk r ((h.1 r).2 (.inr rfl))]; exact h2, h3⟩⟩
  lt F w h k hk := by
    obtain ⟨A, c, s, n, h1, h2, h3⟩ := h.2.st
    rcases (h.1 k).1 hk with rfl | rfl
    · exact (Array.getElem?_eq_some_iff.1 h1).1
    · exact (Array.getElem?_eq_some_iff.1 h2).1
section
variable {w0 w : World} {R : List HP} {b r : Nat} {es left : List (κ × Value)} {cur : Option (κ × Value)} {t kt et ty : TypeId}
theorem mp_get (h : Ms w0 w (mp enc b es :: R)) : ∃ A clock, w.heap[b]? = some (.map A clock) ∧ MB enc A clock es := by obtain ⟨F, ⟨F1, F2, h1, _⟩, _⟩ := h.mem; exact h1.2
theorem mp_keys (h : Ms w0 w (mp enc b es :: R)) : (es.map (·.1)).Nodup := by obtain ⟨A, c, _, h1⟩ := mp_get h; exact h1.keys
theorem mp_turn {w' : World} {es' : List (κ × Value)} {A : Array MapEntry} {clock : Nat} (h : Ms w0 w (mp enc b es :: R)) (ht : Turn b w w') (hb : w'.heap[b]? = some (.map A clock)) (hm : MB enc A clock es') : Ms w0 w' (mp enc b es' :: R) := by
  obtain ⟨F, ⟨F1, F2, h1, h2, h3, h4⟩, h5⟩ := h.mem
  exact Ms.turnF h.below h2 h4 (fun k hk => h5 k ((h3 k).2 (.inl hk))) (fun k hk => h5 k ((h3 k).2 (.inr hk))) ht.os ht.tape ht.output ht.size (fun k _ hk => ht.block k (fun e => hk ((h1.1 k).2 e))) (A := mp enc b es') (F1' := F1) ⟨h1.1, A, clock, hb, hm⟩ (fun k h => .inl h)
theorem mp_new (h : Ms w0 w R) : Ms w0 (w.alloc (.map #[] 0)) (mp enc w.heap.size [] :: R) := by
  obtain ⟨F, h1, h2⟩ := h.mem
  have hb : Below w.heap.size w (w.alloc (.map #[] 0)) := (Below.refl _ _).alloc (Nat.le_refl _) _
  refine ⟨h.below.trans (hb.mono h.below.size), fun k => k = w.heap.size ∨ F k, ⟨fun k => k = w.heap.size, F, ⟨fun k => Iff.rfl, #[], 0, heap_alloc_new _ _, ⟨rfl, by simp, by simp, by simp⟩⟩, h1.loc (fun k hk => hb.block k (h1.lt k hk)), fun k => Iff.rfl, ?_⟩, ?_⟩
  · rintro k rfl hk
    exact absurd (h1.lt _ hk) (by omega)
  · rintro k (rfl | hk)
    · exact h.below.size
    · exact h2 k hk
theorem mp_look (K : KeyOk P kt enc) (ht : P.underlying t = some (.map kt et)) {z : Value} (hz : ∀ w, (zeroValue et).run P w = .ok z w) (h : Ms w0 w (mp enc b es :: R)) (x : κ) : (Instr.lookup t (.map (some b)) (enc x) false).run P w = .ok ((mlook es x).getD z) w := by
  obtain ⟨A, c, hb, hm⟩ := mp_get h
  exact look_run K ht hz w hb hm x
theorem mp_put (K : KeyOk P kt enc) (ht : P.underlying t = some (.map kt et)) (h : Ms w0 w (mp enc b es :: R)) (x : κ) (v : Value) : ∃ w', (Instr.mapUpdate t (.map (some b)) (enc x) v).run P w = .ok () w' ∧ Ms w0 w' (mp enc b (mput es x v) :: R) := by
  obtain ⟨A, c, hb, hm⟩ := mp_get h
  obtain ⟨A', c', h1, h2⟩ := put_run K ht w hb hm x v
  exact ⟨_, h1, mp_turn h (turn_setBlock _ _ _) (setBlock_at hb) h2⟩
theorem mp_del (K : KeyOk P kt enc) (ht : P.underlying t = some (.map kt et)) (h : Ms w0 w (mp enc b es :: R)) (x : κ) : ∃ w', (Builtin.delete_ #[t, kt] ty #[.map (some b), enc x]).run P w = .ok (.tuple #[]) w' ∧ Ms w0 w' (mp enc b (mdel es x) :: R) := by
  obtain ⟨A, c, hb, hm⟩ := mp_get h
  obtain ⟨A', h1, h2, _⟩ := del_run (ty := ty) K ht w hb hm x
  exact ⟨_, h1, mp_turn h (turn_setBlock _ _ _) (setBlock_at hb) h2⟩
theorem mp_len (ht : P.underlying t = some (.map kt et)) (h : Ms w0 w (mp enc b es :: R)) : (Builtin.len_ #[t] ty #[.map (some b)]).run P w = .ok (.int .i64 es.length) w := by
  obtain ⟨A, c, hb, hm⟩ := mp_get h
  have hl : A.size = es.length := by simpa using congrArg List.length hm.kv
  simp [Builtin.len_, run_underlying ht, MapKept.run_getObj_map hb, hl, goInt]
theorem rg_start (ht : P.underlying t = some (.map kt et)) (h : Ms w0 w (mp enc b es :: R)) : ∃ w', (Instr.range t (.map (some b))).run P w = .ok (.pointer (some ⟨w.heap.size, 0, none⟩)) w' ∧ Ms w0 w' (rg enc b w.heap.size es es none :: R) := by
  obtain ⟨A, c, hb, hm⟩ := mp_get h
  refine ⟨w.alloc (.mapIter (some b) c #[] c), by simp [Instr.range, run_underlying ht, MapKept.run_getObj_map hb, Result.andThen], ?_⟩
  obtain ⟨F, ⟨F1, F2, h1, h2, h3, h4⟩, h5⟩ := h.mem
  have hbl : Below w.heap.size w (w.alloc (.mapIter (some b) c #[] c)) := (Below.refl _ _).alloc (Nat.le_refl _) _
  have hlt : b < w.heap.size := (Array.getElem?_eq_some_iff.1 hb).1
  have hF1 : ∀ k, F1 k → w0.heap.size ≤ k := fun k hk => h5 k ((h3 k).2 (.inl hk))
  have hR : RB enc (w.alloc (.mapIter (some b) c #[] c)) b w.heap.size es es none :=
    ⟨by omega, A, c, c, #[], (hbl.block b hlt).trans hb, heap_alloc_new _ _, hm, Nat.le_refl _, hm.old, by rw [List.filter_eq_self.2 (fun _ _ => by simp)]; exact hm.kv, fun x hx => by cases hx⟩
  refine Ms.turnF h.below h2 h4 hF1 (fun k hk => h5 k ((h3 k).2 (.inr hk))) rfl rfl rfl hbl.size (fun k hk _ => hbl.block k hk) (A := rg enc b w.heap.size es es none) (F1' := fun k => k = b ∨ k = w.heap.size) ⟨fun k => Iff.rfl, hR⟩ ?_
  rintro k (rfl | rfl)
  · exact .inl ((h1.1 _).2 rfl)
  · exact .inr (Nat.le_refl _)
theorem rg_get (h : Ms w0 w (rg enc b r es left cur :: R)) : RB enc w b r es left cur := by obtain ⟨F, ⟨F1, F2, h1, _⟩, _⟩ := h.mem; exact h1.2
theorem rg_end (h : Ms w0 w (rg enc b r es left cur :: R)) : Ms w0 w (mp enc b es :: R) := by
  obtain ⟨F, ⟨F1, F2, h1, h2, h3, h4⟩, h5⟩ := h.mem
  obtain ⟨A, c, s, n, h6, h7, h8, _⟩ := h1.2.st
  refine ⟨h.below, fun k => k = b ∨ F2 k, ⟨fun k => k = b, F2, ⟨fun k => Iff.rfl, A, c, h6, h8⟩, h2, fun k => Iff.rfl, fun k hk => h4 k ((h1.1 k).2 (.inl hk))⟩, ?_⟩
  rintro k (hk | hk)
  · exact h5 k ((h3 k).2 (.inl ((h1.1 k).2 (.inl hk))))
  · exact h5 k ((h3 k).2 (.inr hk))
theorem rg_turn {w' : World} {es' left' : List (κ × Value)} {cur' : Option (κ × Value)} (h : Ms w0 w (rg enc b r es left cur :: R)) (hos : w'.os = w.os) (htp : w'.tape = w.tape) (hou : w'.output = w.output) (hsz : w.heap.size ≤ w'.heap.size) (hk : ∀ k, k ≠ b → k ≠ r → w'.heap[k]? = w.heap[k]?)
    (hR : RB enc w' b r es' left' cur') : Ms w0 w' (rg enc b r es' left' cur' :: R) := by
  obtain ⟨F, ⟨F1, F2, h1, h2, h3, h4⟩, h5⟩ := h.mem
  exact Ms.turnF h.below h2 h4 (fun k hk => h5 k ((h3 k).2 (.inl hk))) (fun k hk => h5 k ((h3 k).2 (.inr hk))) hos htp hou hsz (fun k _ hn => hk k (fun e => hn ((h1.1 k).2 (.inl e))) (fun e => hn ((h1.1 k).2 (.inr e)))) (A := rg enc b r es' left' cur') (F1' := F1) ⟨h1.1, hR⟩ (fun k h => .inl h)
end
theorem one_of {α β : Type} {f : α → β} : ∀ {l : List α}, (l.map f).Nodup → ∀ {x y : α}, x ∈ l → y ∈ l → f x = f y → x = y
  | [], _, _, _, hx, _, _ => by cases hx
  | z :: l, hn, x, y, hx, hy, h => by
    simp only [List.map_cons, List.nodup_cons] at hn
    rcases List.mem_cons.1 hx with e1 | h1
    · rcases List.mem_cons.1 hy with e2 | h2
      · rw [e1, e2]
      · exact absurd (List.mem_map.2 ⟨y, h2, by rw [← h, e1]⟩) hn.1
    · rcases List.mem_cons.1 hy with e2 | h2
      · exact absurd (List.mem_map.2 ⟨x, h1, by rw [h, e2]⟩) hn.1
      · exact one_of hn.2 h1 h2 h
theorem par_filter (p : MapEntry → Bool) (q : κ × Value → Bool) : ∀ {A : List MapEntry} {l : List (κ × Value)}, A.map ekv = l.map (pkv enc) → (∀ e ∈ A, ∀ x, ekv e = pkv enc x → p e = q x) → (A.filter p).map ekv = (l.filter q).map (pkv enc)
  | [], l, h, _ => by
    obtain rfl : l = [] := by simpa using h.symm
    rfl
  | e :: A, [], h, _ => by simp at h
  | e :: A, x :: l, h, hp => by
    simp only [List.map_cons, List.cons.injEq] at h
    have h1 := hp e (by simp) x h.1
    have h2 := par_filter p q h.2 (fun e he => hp e (List.mem_cons_of_mem _ he))
    rw [List.filter_cons, List.filter_cons, h1]
    split
    · rw [List.map_cons, List.map_cons, h.1, h2]
    · exact h2
theorem MB.key {kt : TypeId} (K : KeyOk P kt enc) {A : Array MapEntry} {clock : Nat} {es : List (κ × Value)} (h : MB enc A clock es) : (A.toList.map (·.key)).Nodup := by
  have h1 : A.toList.map (·.key) = (es.map (·.1)).map enc := by
    have := congrArg (List.map Prod.fst) h.kv
    rw [List.map_map, List.map_map] at this
    rw [List.map_map]; exact this
  rw [h1]
  exact List.pairwise_map.2 (h.keys.imp fun hne e => hne (K.inj e))
section
variable {w0 w : World} {R : List HP} {b r : Nat} {es left : List (κ × Value)} {cur : Option (κ × Value)} {t kt et ty : TypeId}
theorem rg_next0 (h : Ms w0 w (rg enc b r es [] cur :: R)) : (Instr.next (.pointer (some ⟨r, 0, none⟩)) false ty).run P w = .ok (.tuple #[.bool false]) w := by
  obtain ⟨hne, A, c, s, n, h1, h2, hm, hs, ho, hf, _⟩ := rg_get h
  rcases run_next_at (P := P) w ty r b s c n A c h2 h1 ho hs with ⟨_, h3⟩ | ⟨e, he, _⟩
  · exact h3
  · exfalso
    have h4 : A.toList.filter (fun e => !n.contains e.born) = [] := List.map_eq_nil_iff.1 hf
    have h5 : e ∈ A.toList.filter (fun e => !n.contains e.born) := by unfold leftOf at he; rw [← Array.toList_filter]; exact he
    rw [h4] at h5; cases h5
theorem rg_next1 (K : KeyOk P kt enc) (h : Ms w0 w (rg enc b r es left cur :: R)) (hl : left ≠ []) : ∃ x ∈ left, ∃ w', (Instr.next (.pointer (some ⟨r, 0, none⟩)) false ty).run P w = .ok (.tuple #[.bool true, enc x.1, x.2]) w' ∧ Ms w0 w' (rg enc b r es (mdel left x.1) (some x) :: R) := by
  obtain ⟨hne, A, c, s, n, h1, h2, hm, hs, ho, hf, _⟩ := rg_get h
  rcases run_next_at (P := P) w ty r b s c n A c h2 h1 ho hs with ⟨h0, _⟩ | ⟨e, he, w1, hw1, h3⟩
  · exfalso
    have h4 : A.toList.filter (fun e => !n.contains e.born) = [] := by
      unfold leftOf at h0
      rw [← Array.toList_filter]; exact List.eq_nil_of_length_eq_zero (by rw [Array.length_toList]; exact h0)
    rw [h4] at hf
    exact hl (List.map_eq_nil_iff.1 hf.symm)
  · have h5 : e ∈ A.toList.filter (fun e => !n.contains e.born) := by unfold leftOf at he; rw [← Array.toList_filter]; exact he
    have heA := (List.mem_filter.1 h5).1
    obtain ⟨x, hx, h6⟩ : ∃ x ∈ left, pkv enc x = ekv e := List.mem_map.1 (by rw [← hf]; exact List.mem_map.2 ⟨e, h5, rfl⟩)
    have hk : enc x.1 = e.key := congrArg Prod.fst h6
    have hv : x.2 = e.val := congrArg Prod.snd h6
    have hsame : w1.os = w.os ∧ w1.tape = w.tape ∧ w1.output = w.output ∧ w1.heap = w.heap := by rcases hw1 with rfl | rfl <;> exact ⟨rfl, rfl, rfl, rfl⟩
    have hT := turn_setBlock w1 r (.mapIter (some b) s (n.push e.born) c)
    refine ⟨x, hx, _, by rw [h3, hk, hv], rg_turn h (hT.os.trans hsame.1) (hT.tape.trans hsame.2.1) (hT.output.trans hsame.2.2.1) (by have := hT.size; rw [hsame.2.2.2] at this; exact this) (fun k _ hk => (hT.block k hk).trans (by rw [hsame.2.2.2])) ⟨hne, A, c, s, n.push e.born, ?_, ?_, hm, hs, ho, ?_, ?_⟩⟩
    · rw [hT.block b (Ne.symm hne), hsame.2.2.2]; exact h1
    · exact setBlock_at (o' := .mapIter (some b) s n c) (by rw [hsame.2.2.2]; exact h2)
    · have e1 : A.toList.filter (fun e' => !(n.push e.born).contains e'.born) = (A.toList.filter (fun e => !n.contains e.born)).filter (fun e' => !decide (e'.born = e.born)) := by
        rw [List.filter_filter]
        refine List.filter_congr fun e' _ => ?_
        rw [Bool.eq_iff_iff]
        simp [not_or, and_comm]
      rw [e1]
      refine par_filter _ _ hf fun e' he' x' hx' => ?_
      have heA' := (List.mem_filter.1 he').1
      have hk' : e'.key = enc x'.1 := congrArg Prod.fst hx'
      rw [Bool.eq_iff_iff]
      simp only [Bool.not_eq_true', decide_eq_false_iff_not]
      constructor
      · intro h7 h8
        exact h7 (congrArg MapEntry.born (one_of (hm.key K) heA' heA (by rw [hk', h8, hk])))
      · intro h7 h8
        obtain rfl := one_of hm.born heA' heA h8
        exact h7 (K.inj (hk'.symm.trans hk.symm))
    · rintro y hy
      obtain rfl := Option.some.inj hy
      exact ⟨e, n, heA, h6.symm, rfl⟩
theorem rg_entry {x : κ × Value} (h : Ms w0 w (rg enc b r es left (some x) :: R)) : (Instr.entry (.pointer (some ⟨r, 0, none⟩))).run P w = .ok (.tuple #[enc x.1, x.2]) w := by
  obtain ⟨hne, A, c, s, n, h1, h2, hm, hs, ho, hf, hc⟩ := rg_get h
  obtain ⟨e, n0, he, h6, rfl⟩ := hc x rfl
  have hk : e.key = enc x.1 := congrArg Prod.fst h6
  have hv : e.val = x.2 := congrArg Prod.snd h6
  rw [← hk, ← hv]
  exact run_entry_at w r b s n0 A c e h2 h1 he hm.born
theorem rg_del (K : KeyOk P kt enc) (ht : P.underlying t = some (.map kt et)) (h : Ms w0 w (rg enc b r es left cur :: R)) (x : κ) : ∃ w', (Builtin.delete_ #[t, kt] ty #[.map (some b), enc x]).run P w = .ok (.tuple #[]) w' ∧ Ms w0 w' (rg enc b r (mdel es x) (mdel left x) none :: R) := by
  obtain ⟨hne, A, c, s, n, h1, h2, hm, hs, ho, hf, hc⟩ := rg_get h
  obtain ⟨A', h3, h4, h5, h6⟩ := del_run (ty := ty) K ht w h1 hm x
  have hT := turn_setBlock w b (.map A' c)
  exact ⟨_, h3, rg_turn h hT.os hT.tape hT.output hT.size (fun k hk _ => hT.block k hk) ⟨hne, A', c, s, n, setBlock_at h1, (hT.block r hne).trans h2, h4, hs, fun e he => ho e (h5 e he), h6 _ _ hf, fun y hy => by cases hy⟩⟩
end
/-! ### What single operations yield -/
section
variable {w0 w : World} {R : List HP} {b r : Nat} {es left : List (κ × Value)} {cur : Option (κ × Value)} {t kt et ty : TypeId} {a : Act} {Q : Value → World → Prop} {dst : Option Tmp} {pos : String} {aft : Array Edge} {gd : Option (Nat × Bool)}
theorem g_mmap (h : Ms w0 w R) (hk : ∀ w', Ms w0 w' (mp enc w.heap.size [] :: R) → Q (.map (some w.heap.size)) w') : gives P ⟨dst, .makeMap t none, ty, pos, aft, gd⟩ a w Q :=
  g_val _ _ (by simp only [execOp, Option.map_none, Sem.run_bind, run_makeMap, Result.andThen_ok, Sem.run_pure]) (hk _ (mp_new h))
theorem g_look (K : KeyOk P kt enc) (ht : P.underlying t = some (.map kt et)) {z : Value} (hz : ∀ w, (zeroValue et).run P w = .ok z w) (x y : Operand) (k : κ) (v : Value) (hx : a.eval x = .map (some b)) (hy : a.eval y = enc k) (h : Ms w0 w (mp enc b es :: R)) (hv : (mlook es k).getD z = v) (hk : Q v w) : gives P ⟨dst, .lookup t x y false, ty, pos, aft, gd⟩ a w Q :=
  g_val v w (by subst hv; simp only [execOp, hx, hy, Sem.run_bind, mp_look K ht hz h k, Result.andThen_ok, Sem.run_pure]) hk
theorem g_mup (K : KeyOk P kt enc) (ht : P.underlying t = some (.map kt et)) (x y z : Operand) (k : κ) (v : Value) (hx : a.eval x = .map (some b)) (hy : a.eval y = enc k) (hz : a.eval z = v) (h : Ms w0 w (mp enc b es :: R)) (hk : ∀ w', Ms w0 w' (mp enc b (mput es k v) :: R) → Q undef w') : gives P ⟨dst, .mapUpdate t x y z, ty, pos, aft, gd⟩ a w Q := by
  obtain ⟨w', h1, h2⟩ := mp_put K ht h k v
  unfold gives
  simp only [execOp, hx, hy, hz, Sem.run_bind, h1, Result.andThen_ok, Sem.run_pure]
  exact hk _ h2
theorem g_mdel (K : KeyOk P kt enc) (ht : P.underlying t = some (.map kt et)) (x y : Operand) (k : κ) (hx : a.eval x = .map (some b)) (hy : a.eval y = enc k) (h : Ms w0 w (mp enc b es :: R)) (hk : ∀ w', Ms w0 w' (mp enc b (mdel es k) :: R) → Q (.tuple #[]) w') : gives P ⟨dst, .call { callee := .builtin .delete, args := #[x, y], argTypes := #[t, kt] }, ty, pos, aft, gd⟩ a w Q := by
  obtain ⟨w', h1, h2⟩ := mp_del (ty := ty) K ht h k
  exact g_val _ w' (by simp only [execOp, resolve, invoke, builtin, Sem.run_bind, Sem.run_pure, Result.andThen_ok, List.map_toArray, List.map_cons, List.map_nil, hx, hy, h1]) (hk _ h2)
theorem g_mlen (ht : P.underlying t = some (.map kt et)) (x : Operand) (n : Int) (hx : a.eval x = .map (some b)) (h : Ms w0 w (mp enc b es :: R)) (hn : ((es.length : Nat) : Int) = n) (hk : Q (.int .i64 n) w) : gives P ⟨dst, .call { callee := .builtin .len, args := #[x], argTypes := #[t] }, ty, pos, aft, gd⟩ a w Q :=
  g_val _ w (by subst hn; simp only [execOp, resolve, invoke, builtin, Sem.run_bind, Sem.run_pure, Result.andThen_ok, List.map_toArray, List.map_cons, List.map_nil, hx, mp_len (ty := ty) ht h]) hk
theorem g_range (ht : P.underlying t = some (.map kt et)) (x : Operand) (hx : a.eval x = .map (some b)) (h : Ms w0 w (mp enc b es :: R)) (hk : ∀ w', Ms w0 w' (rg enc b w.heap.size es es none :: R) → Q (.pointer (some ⟨w.heap.size, 0, none⟩)) w') : gives P ⟨dst, .range t x, ty, pos, aft, gd⟩ a w Q := by
  obtain ⟨w', h1, h2⟩ := rg_start ht h
  exact g_val _ w' (by simp only [execOp, hx, Sem.run_bind, h1, Result.andThen_ok, Sem.run_pure]) (hk _ h2)
theorem g_next0 (x : Operand) (hx : a.eval x = .pointer (some ⟨r, 0, none⟩)) (h : Ms w0 w (rg enc b r es [] cur :: R)) (hk : Q (.tuple #[.bool false]) w) : gives P ⟨dst, .next x false, ty, pos, aft, gd⟩ a w Q :=
  g_val _ w (by simp only [execOp, hx, Sem.run_bind, rg_next0 h, Result.andThen_ok, Sem.run_pure]) hk
theorem g_next1 (K : KeyOk P kt enc) (x : Operand) (hx : a.eval x = .pointer (some ⟨r, 0, none⟩)) (h : Ms w0 w (rg enc b r es left cur :: R)) (hl : left ≠ []) (hk : ∀ y w', y ∈ left → Ms w0 w' (rg enc b r es (mdel left y.1) (some y) :: R) → Q (.tuple #[.bool true, enc y.1, y.2]) w') : gives P ⟨dst, .next x false, ty, pos, aft, gd⟩ a w Q := by
  obtain ⟨y, hy, w', h1, h2⟩ := rg_next1 (ty := ty) K h hl
  exact g_val _ w' (by simp only [execOp, hx, Sem.run_bind, h1, Result.andThen_ok, Sem.run_pure]) (hk _ _ hy h2)
theorem g_entry (x : Operand) (y : κ × Value) (hx : a.eval x = .pointer (some ⟨r, 0, none⟩)) (h : Ms w0 w (rg enc b r es left (some y) :: R)) (hk : Q (.tuple #[enc y.1, y.2]) w) : gives P ⟨dst, .entry x, ty, pos, aft, gd⟩ a w Q :=
  g_val _ w (by simp only [execOp, hx, Sem.run_bind, rg_entry h, Result.andThen_ok, Sem.run_pure]) hk
theorem g_rdel (K : KeyOk P kt enc) (ht : P.underlying t = some (.map kt et)) (x y : Operand) (k : κ) (hx : a.eval x = .map (some b)) (hy : a.eval y = enc k) (h : Ms w0 w (rg enc b r es left cur :: R)) (hk : ∀ w', Ms w0 w' (rg enc b r (mdel es k) (mdel left k) none :: R) → Q (.tuple #[]) w') : gives P ⟨dst, .call { callee := .builtin .delete, args := #[x, y], argTypes := #[t, kt] }, ty, pos, aft, gd⟩ a w Q := by
  obtain ⟨w', h1, h2⟩ := rg_del (ty := ty) K ht h k
  exact g_val _ w' (by simp only [execOp, resolve, invoke, builtin, Sem.run_bind, Sem.run_pure, Result.andThen_ok, List.map_toArray, List.map_cons, List.map_nil, hx, hy, h1]) (hk _ h2)
end
end Go.Proofs.YtpenicjlpiechaaDoor
