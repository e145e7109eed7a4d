/- Buffers as lists of things (an interval, a text) in the order in which they came: no program. What single operations on buffers, things and texts yield; buffers, the program's and the reference's, as parts of memory. -/
import Derived.Below
import Derived.Test.YtcclcemdodoiiaaGreatDoorQSdOps
import Derived.Test.YtcclcemdodoiiaaGreatDoorQMapm
import Derived.Test.YtcclcemdodoiiaaGreatDoorQLone
import Derived.Conc.SmallLaws
namespace Go.Proofs.YtcclcemdodoiiaaGreatDoor
set_option maxRecDepth 10000
abbrev Thg := Int × ByteArray
/-- An interval's texts. -/
def ofI (i : Int) (L : List Thg) : List ByteArray := (L.filter (fun t => decide (t.1 = i))).map (·.2)
/-- One interval more, among rising ones. -/
def ins (x : Int) : List Int → List Int
  | [] => [x]
  | y :: l => if x < y then x :: y :: l else if x = y then y :: l else y :: ins x l
/-- The intervals that have some, rising. -/
def ivs (L : List Thg) : List Int := L.foldl (fun out t => ins t.1 out) []
def notI (i : Int) (L : List Thg) : List Thg := L.filter (fun t => !decide (t.1 = i))
/-- Does it lie there? -/
def hasT (i : Int) (s : ByteArray) (L : List Thg) : Bool := L.any (fun t => decide (t.1 = i) && decide (t.2 = s))
theorem hasT_iff {i : Int} {s : ByteArray} {L : List Thg} : hasT i s L = true ↔ (i, s) ∈ L := by
  unfold hasT
  rw [List.any_eq_true]
  constructor
  · rintro ⟨t, h1, h2⟩
    simp only [Bool.and_eq_true, decide_eq_true_eq] at h2
    obtain ⟨rfl, rfl⟩ := h2
    exact h1
  · intro h
    exact ⟨(i, s), h, by simp⟩
/-- What Put answers. -/
def bpE (each slots i : Int) (s : ByteArray) (L : List Thg) : Int :=
  if i < 1 then 1 else if hasT i s L = true then 11 else if each ≤ (ofI i L).length ∨ ((ofI i L).length = 0 ∧ slots ≤ (ivs L).length) then 4 else 0
def bpL (each slots i : Int) (s : ByteArray) (L : List Thg) : List Thg := if bpE each slots i s L = 0 then L ++ [(i, s)] else L
def bpD (each slots i : Int) (s : ByteArray) (L : List Thg) (d : Int) : Int := if bpE each slots i s L = 4 then d + 1 else d
theorem mem_ins {x z : Int} : ∀ {l : List Int}, z ∈ ins x l ↔ z = x ∨ z ∈ l
  | [] => by simp [ins]
  | y :: l => by
    unfold ins
    split
    · simp
    · split
      · rename_i h; subst h; simp
      · rw [List.mem_cons, mem_ins, List.mem_cons]; constructor
        · rintro (h | h | h) <;> simp [h]
        · rintro (h | h | h) <;> simp [h]
theorem ins_sorted {x : Int} : ∀ {l : List Int}, l.Pairwise (· < ·) → (ins x l).Pairwise (· < ·)
  | [], _ => by simp [ins]
  | y :: l, h => by
    rw [List.pairwise_cons] at h
    unfold ins
    split
    · rename_i hxy
      exact List.pairwise_cons.2 ⟨fun z hz => by rcases List.mem_cons.1 hz with rfl | hz; exact hxy; exact Int.lt_trans hxy (h.1 z hz), List.pairwise_cons.2 h⟩
    · split
      · exact List.pairwise_cons.2 h
      · rename_i h1 h2
        refine List.pairwise_cons.2 ⟨fun z hz => ?_, ins_sorted h.2⟩
        rcases mem_ins.1 hz with rfl | hz
        · omega
        · exact h.1 z hz
theorem fold_ins (L : List Thg) : ∀ out : List Int, (∀ z, z ∈ L.foldl (fun out t => ins t.1 out) out ↔ z ∈ out ∨ ∃ t ∈ L, t.1 = z) ∧ (out.Pairwise (· < ·) → (L.foldl (fun out t => ins t.1 out) out).Pairwise (· < ·)) := by
  induction L with
  | nil => intro out; exact ⟨fun z => by simp, id⟩
  | cons t L ih =>
    intro out
    obtain ⟨h1, h2⟩ := ih (ins t.1 out)
    refine ⟨fun z => ?_, fun h => h2 (ins_sorted h)⟩
    rw [List.foldl_cons, h1, mem_ins]
    constructor
    · rintro ((rfl | h) | ⟨u, hu, rfl⟩)
      · exact .inr ⟨t, by simp, rfl⟩
      · exact .inl h
      · exact .inr ⟨u, by simp [hu], rfl⟩
    · rintro (h | ⟨u, hu, rfl⟩)
      · exact .inl (.inr h)
      · rcases List.mem_cons.1 hu with rfl | hu
        · exact .inl (.inl rfl)
        · exact .inr ⟨u, hu, rfl⟩
theorem mem_ivs {L : List Thg} {i : Int} : i ∈ ivs L ↔ ∃ t ∈ L, t.1 = i := by
  have := (fold_ins L []).1 i
  simpa [ivs] using this
theorem sorted_ivs (L : List Thg) : (ivs L).Pairwise (· < ·) := (fold_ins L []).2 List.Pairwise.nil
theorem rising_eq : ∀ {a b : List Int}, a.Pairwise (· < ·) → b.Pairwise (· < ·) → (∀ z, z ∈ a ↔ z ∈ b) → a = b
  | [], [], _, _, _ => rfl
  | [], y :: b, _, _, h => by have := (h y).2 (by simp); cases this
  | x :: a, [], _, _, h => by have := (h x).1 (by simp); cases this
  | x :: a, y :: b, ha, hb, h => by
    rw [List.pairwise_cons] at ha hb
    have e : x = y := by
      rcases List.mem_cons.1 ((h x).1 (by simp)) with e | h1
      · exact e
      · rcases List.mem_cons.1 ((h y).2 (by simp)) with e | h2
        · exact e.symm
        · have := ha.1 y h2
          have := hb.1 x h1
          omega
    subst e
    rw [rising_eq ha.2 hb.2 fun z => ?_]
    constructor
    · intro hz
      rcases List.mem_cons.1 ((h z).1 (List.mem_cons_of_mem _ hz)) with e | h1
      · have := ha.1 z hz; omega
      · exact h1
    · intro hz
      rcases List.mem_cons.1 ((h z).2 (List.mem_cons_of_mem _ hz)) with e | h1
      · have := hb.1 z hz; omega
      · exact h1
/-- Sorted keys, each there once. -/
theorem sorted_keys {ks : List Int} {L : List Thg} (hn : ks.Nodup) (hm : ∀ i, i ∈ ks ↔ ∃ t ∈ L, t.1 = i) : ks.mergeSort (fun x y => decide (x ≤ y)) = ivs L := by
  have hp := List.mergeSort_perm ks (fun x y : Int => decide (x ≤ y))
  refine rising_eq ?_ (sorted_ivs L) fun z => by rw [hp.mem_iff, hm, mem_ivs]
  have h1 := List.pairwise_mergeSort (le := fun x y : Int => decide (x ≤ y)) (fun a b c h1 h2 => by simp at *; omega) (fun a b => by simp; omega) ks
  have h2 : (ks.mergeSort (fun x y => decide (x ≤ y))).Nodup := hp.symm.nodup hn
  refine (List.Pairwise.and h1 h2).imp ?_
  rintro a b ⟨h3, h4⟩
  have := of_decide_eq_true h3
  omega
theorem keys_length {ks : List Int} {L : List Thg} (hn : ks.Nodup) (hm : ∀ i, i ∈ ks ↔ ∃ t ∈ L, t.1 = i) : ks.length = (ivs L).length := by
  rw [← sorted_keys hn hm, List.length_mergeSort]
theorem mem_ofI {i : Int} {s : ByteArray} {L : List Thg} : s ∈ ofI i L ↔ (i, s) ∈ L := by
  unfold ofI
  rw [List.mem_map]
  constructor
  · rintro ⟨t, ht, rfl⟩
    obtain ⟨h1, h2⟩ := List.mem_filter.1 ht
    obtain rfl := of_decide_eq_true h2
    exact h1
  · intro h
    exact ⟨(i, s), List.mem_filter.2 ⟨h, by simp⟩, rfl⟩
theorem ofI_nil {i : Int} {L : List Thg} : ofI i L = [] ↔ ¬ ∃ t ∈ L, t.1 = i := by
  unfold ofI
  rw [List.map_eq_nil_iff, List.filter_eq_nil_iff]
  constructor
  · rintro h ⟨t, h1, h2⟩
    exact h t h1 (by simpa using h2)
  · intro h t h1 h2
    exact h ⟨t, h1, by simpa using h2⟩
theorem ofI_snoc (i : Int) (L : List Thg) (t : Thg) : ofI i (L ++ [t]) = ofI i L ++ (if t.1 = i then [t.2] else []) := by
  unfold ofI
  rw [List.filter_append, List.map_append]
  congr 1
  by_cases h : t.1 = i <;> simp [h]
theorem ofI_notI (i j : Int) (L : List Thg) : ofI i (notI j L) = if i = j then [] else ofI i L := by
  unfold ofI notI
  rw [List.filter_filter]
  split
  · rename_i h
    subst h
    simp
  · rename_i h
    congr 1
    refine List.filter_congr fun t _ => ?_
    by_cases h1 : t.1 = i
    · simp [h1, h]
    · simp [h1]
theorem ofI_le (i : Int) (L : List Thg) : (ofI i L).length ≤ L.length := by unfold ofI; rw [List.length_map]; exact List.length_filter_le _ _
theorem length_part (p : Thg → Bool) : ∀ L : List Thg, (L.filter p).length + (L.filter (fun t => !p t)).length = L.length
  | [] => rfl
  | t :: L => by
    have := length_part p L
    rw [List.filter_cons, List.filter_cons]
    cases h : p t <;> simp <;> omega
theorem notI_length (i : Int) (L : List Thg) : (ofI i L).length + (notI i L).length = L.length := by
  unfold ofI notI; rw [List.length_map]; exact length_part _ L
/-- What lies there, counted interval by interval. -/
def cnt (ks : List Int) (L : List Thg) : Nat := (ks.map (fun i => (ofI i L).length)).sum
theorem cnt_cons (k : Int) (ks : List Int) (L : List Thg) : cnt (k :: ks) L = (ofI k L).length + cnt ks L := by simp [cnt]
theorem cnt_perm {a b : List Int} (h : a.Perm b) (L : List Thg) : cnt a L = cnt b L := (h.map _).sum_nat
theorem cnt_notI {ks : List Int} {k : Int} (h : k ∉ ks) (L : List Thg) : cnt ks (notI k L) = cnt ks L := by
  unfold cnt
  congr 1
  refine List.map_congr_left fun i hi => ?_
  rw [ofI_notI, if_neg (fun e => h (by rw [← e]; exact hi))]
theorem cnt_all : ∀ {ks : List Int} {L : List Thg}, ks.Nodup → (∀ t ∈ L, t.1 ∈ ks) → cnt ks L = L.length
  | [], L, _, h => by
    cases L with
    | nil => rfl
    | cons t L => have := h t (by simp); cases this
  | k :: ks, L, hn, h => by
    rw [List.nodup_cons] at hn
    rw [cnt_cons, ← cnt_notI hn.1 L, cnt_all hn.2 (fun t ht => ?_), notI_length]
    obtain ⟨h1, h2⟩ := List.mem_filter.1 ht
    rcases List.mem_cons.1 (h t h1) with e | h3
    · simp [e] at h2
    · exact h3
theorem ins_le (x : Int) : ∀ l : List Int, (ins x l).length ≤ l.length + 1
  | [] => by simp [ins]
  | y :: l => by
    have := ins_le x l
    unfold ins
    split
    · simp
    · split
      · simp
      · simp; omega
theorem ivs_le (L : List Thg) : (ivs L).length ≤ L.length := by
  have key : ∀ (L : List Thg) (out : List Int), (L.foldl (fun out t => ins t.1 out) out).length ≤ out.length + L.length := by
    intro L
    induction L with
    | nil => intro out; simp
    | cons t L ih =>
      intro out
      have h1 := ih (ins t.1 out)
      have h2 := ins_le t.1 out
      rw [List.foldl_cons, List.length_cons]; omega
  have := key L []
  simpa [ivs] using this
end Go.Proofs.YtcclcemdodoiiaaGreatDoor
namespace Go.Proofs.YtcclcemdodoiiaaGreatDoor
set_option maxRecDepth 10000
open Go Go.RowKit
set_option linter.unusedVariables false
set_option linter.unusedSimpArgs false
def kI (i : Int) : Value := .int .i64 i
def kS (s : ByteArray) : Value := .string s
theorem ba_beq (x y : ByteArray) : (x == y) = decide (x = y) := by
  obtain ⟨p⟩ := x
  obtain ⟨q⟩ := y
  show (p == q) = _
  by_cases h : p = q
  · subst h; simp
  · rw [decide_eq_false (fun e => h (by injection e))]
    exact beq_eq_false_iff_ne.2 h
theorem keyI : KeyOk Tryz.prog 3 kI := ⟨⟨.int .i64, Tryz.underlying3, fun _ => rfl, fun x y => by simp only [kI, Instr.sameNow, if_true]; congr 1⟩, fun x => by simp [kI, Instr.sameBits]⟩
theorem keyS : KeyOk Tryz.prog 9 kS := ⟨⟨.string, Tryz.underlying9, fun _ => trivial, fun x y => by simp only [kS, Instr.sameNow]; congr 1; exact ba_beq x y⟩, fun x => by simp only [kS, Instr.sameBits]; exact (ba_beq x x).trans (decide_eq_true rfl)⟩
section
variable {P : Program} {ops : Array Oper} {rest : List Oper} {a : Act} {w : World} {Q : Exit → Act → World → Prop} {dst : Option Tmp} {ty yt : TypeId} {pos : String} {aft : Array Edge} {gd : Option (Nat × Bool)} {K : Value → World → Prop}
theorem toList_beq (p q : ByteArray) : (p.toList == q.toList) = decide (p = q) := by
  by_cases h : p = q
  · subst h; simp
  · rw [decide_eq_false h]
    simp only [beq_eq_false_iff_ne, ne_eq]
    intro e
    apply h
    rw [Go.Lib.toList_data, Go.Lib.toList_data] at e
    apply ByteArray.ext
    exact Array.toList_inj.1 e
theorem g_steq (t : TypeId) (x y : Operand) (p q : ByteArray) (b : Bool) (hx : a.eval x = .string p) (hy : a.eval y = .string q) (hb : decide (p = q) = b) (hk : K (.bool b) w) : gives P ⟨dst, .binOp .eql t x y yt, ty, pos, aft, gd⟩ a w K :=
  g_val (.bool b) w (by subst hb; simp [execOp, hx, hy, eqGuard, binOp, Op.stringOp, toList_beq]) hk
end
/-! ### Parts -/
/-- A thing's cells. -/
def tc (t : Thg) : List Value := [.int .i64 t.1, .string t.2]
def tcs (L : List Thg) : List Value := L.flatMap tc
/-- An interval's channel, as the map has it. -/
def mv (e : Int × Nat) : Int × Value := (e.1, .chan (some e.2))
/-- The channels of these intervals. -/
def chs (each : Nat) (L : List Thg) (E : List (Int × Nat)) : List HP := E.map fun e => ch e.2 each ((ofI e.1 L).map Value.string)
/-- The map's keys are the intervals that have some; no channel holds more than it has room for. -/
structure Bu (each : Nat) (E : List (Int × Nat)) (L : List Thg) : Prop where
  keys : (E.map (·.1)).Nodup
  dom : ∀ i, i ∈ E.map (·.1) ↔ ∃ t ∈ L, t.1 = i
  full : ∀ i, (ofI i L).length ≤ each
  low : ∀ t ∈ L, 1 ≤ t.1 ∧ t.1 ≤ 9223372036854775807
/-- The program's buffer at p, its map's block and its channels' known. -/
def bfo (p m : Nat) (each : Nat) (slots d : Int) (L : List Thg) (E : List (Int × Nat)) : List HP :=
  blk p [.int .i64 ((each : Nat) : Int), .int .i64 slots, .map (some m), .int .i64 d] 130 :: mp kI m (E.map mv) :: chs each L E
/-- The program's buffer at p. -/
def bf (p : Nat) (each : Nat) (slots d : Int) (L : List Thg) : HP :=
  ex fun x : Nat × List (Int × Nat) => pu (Bu each x.2 L) :: bfo p x.1 each slots d L x.2
section
variable {w0 w : World} {R : List HP} {p m each : Nat} {slots d : Int} {L : List Thg} {E : List (Int × Nat)}
theorem bf_open (h : Ms w0 w (bf p each slots d L :: R)) : ∃ m E, Bu each E L ∧ Ms w0 w (bfo p m each slots d L E ++ R) := by
  obtain ⟨⟨m, E⟩, h⟩ := h.opn
  obtain ⟨h1, h2⟩ := h.unpu
  exact ⟨m, E, h1, h2⟩
theorem bf_mk (h : Ms w0 w (bfo p m each slots d L E ++ R)) (hB : Bu each E L) : Ms w0 w (bf p each slots d L :: R) := Ms.shut (m, E) (Ms.mkpu hB h)
theorem star_perm {A B : List HP} (h : A.Perm B) : ∀ {F : Nat → Prop} {w : World}, Star A F w → Star B F w := by
  induction h with
  | nil => exact fun h => h
  | cons x _ ih => rintro F w ⟨F1, F2, h1, h2, h3⟩; exact ⟨F1, F2, h1, ih h2, h3⟩
  | swap x y l => exact fun h => h.swap
  | trans _ _ h1 h2 => exact fun h => h2 (h1 h)
theorem Ms.perm {A B : List HP} (hp : A.Perm B) (h : Ms w0 w A) : Ms w0 w B := by
  obtain ⟨F, h1, h2⟩ := h.mem
  exact ⟨h.below, F, star_perm hp h1, h2⟩
/-- An interval's channel to the head. -/
theorem chs_at {i : Int} {c : Nat} {E1 E2 : List (Int × Nat)} : (chs each L (E1 ++ (i, c) :: E2)).Perm (ch c each ((ofI i L).map Value.string) :: (chs each L E1 ++ chs each L E2)) := by
  unfold chs
  rw [List.map_append, List.map_cons]
  exact List.perm_middle
theorem chs_same {L' : List Thg} (h : ∀ e ∈ E, ofI e.1 L' = ofI e.1 L) : chs each L' E = chs each L E := by
  unfold chs
  exact List.map_congr_left fun e he => by rw [h e he]
theorem look_in {i : Int} {c : Nat} {E1 E2 : List (Int × Nat)} (h : ((E1 ++ (i, c) :: E2).map (·.1)).Nodup) : mlook ((E1 ++ (i, c) :: E2).map mv) i = some (.chan (some c)) := by
  refine mlook_some (j := E1.length) ?_ ?_
  · rw [List.map_map]; exact h
  · rw [List.getElem?_map, List.getElem?_append_right (Nat.le_refl _), Nat.sub_self]; rfl
theorem look_out {i : Int} (h : i ∉ E.map (·.1)) : mlook (E.map mv) i = none := by
  refine mlook_none ?_
  rw [List.map_map]; exact h
end
theorem ld5 (w : World) (b o : Nat) (v : Value) (hc : w.cell? ⟨b, o, none⟩ = some v) : (Instr.loadAt 5 (.pointer (some ⟨b, o, none⟩))).run Tryz.prog w = .ok v w := by go_simp
theorem ld135 (w : World) (b o : Nat) (v : Value) (hc : w.cell? ⟨b, o, none⟩ = some v) : (Instr.loadAt 135 (.pointer (some ⟨b, o, none⟩))).run Tryz.prog w = .ok v w := by go_simp
theorem ld54 (w : World) (b o : Nat) (v : Value) (hc : w.cell? ⟨b, o, none⟩ = some v) : (Instr.loadAt 54 (.pointer (some ⟨b, o, none⟩))).run Tryz.prog w = .ok v w := by go_simp
theorem ld128 (w : World) (b o : Nat) (v : Value) (hc : w.cell? ⟨b, o, none⟩ = some v) : (Instr.loadAt 128 (.pointer (some ⟨b, o, none⟩))).run Tryz.prog w = .ok v w := by go_simp
theorem fa130_0 (w : World) (b o : Nat) : (Instr.fieldAt 130 (.pointer (some ⟨b, o, none⟩)) 0).run Tryz.prog w = .ok (.pointer (some ⟨b, o, none⟩)) w := by go_simp
theorem fa130_1 (w : World) (b o : Nat) : (Instr.fieldAt 130 (.pointer (some ⟨b, o, none⟩)) 1).run Tryz.prog w = .ok (.pointer (some ⟨b, o + 1, none⟩)) w := by go_simp
theorem fa130_2 (w : World) (b o : Nat) : (Instr.fieldAt 130 (.pointer (some ⟨b, o, none⟩)) 2).run Tryz.prog w = .ok (.pointer (some ⟨b, o + 2, none⟩)) w := by go_simp
theorem fa130_3 (w : World) (b o : Nat) : (Instr.fieldAt 130 (.pointer (some ⟨b, o, none⟩)) 3).run Tryz.prog w = .ok (.pointer (some ⟨b, o + 3, none⟩)) w := by go_simp
theorem fa56_0 (w : World) (b o : Nat) : (Instr.fieldAt 56 (.pointer (some ⟨b, o, none⟩)) 0).run Tryz.prog w = .ok (.pointer (some ⟨b, o, none⟩)) w := by go_simp
theorem fa56_1 (w : World) (b o : Nat) : (Instr.fieldAt 56 (.pointer (some ⟨b, o, none⟩)) 1).run Tryz.prog w = .ok (.pointer (some ⟨b, o + 1, none⟩)) w := by go_simp
theorem fa56_2 (w : World) (b o : Nat) : (Instr.fieldAt 56 (.pointer (some ⟨b, o, none⟩)) 2).run Tryz.prog w = .ok (.pointer (some ⟨b, o + 2, none⟩)) w := by go_simp
theorem fa56_3 (w : World) (b o : Nat) : (Instr.fieldAt 56 (.pointer (some ⟨b, o, none⟩)) 3).run Tryz.prog w = .ok (.pointer (some ⟨b, o + 3, none⟩)) w := by go_simp
theorem fa134_0 (w : World) (b o : Nat) : (Instr.fieldAt 134 (.pointer (some ⟨b, o, none⟩)) 0).run Tryz.prog w = .ok (.pointer (some ⟨b, o, none⟩)) w := by go_simp
theorem fa134_1 (w : World) (b o : Nat) : (Instr.fieldAt 134 (.pointer (some ⟨b, o, none⟩)) 1).run Tryz.prog w = .ok (.pointer (some ⟨b, o + 1, none⟩)) w := by go_simp
section
variable {ops : Array Oper} {rest : List Oper} {a : Act} {w : World} {Q : Exit → Act → World → Prop} {dst : Option Tmp} {ty yt : TypeId} {pos : String} {aft : Array Edge} {gd : Option (Nat × Bool)} {K : Value → World → Prop}
theorem g_bld130 (x y z : Operand) (e s : Int) (m : Option Nat) (hx : a.eval x = .int .i64 e) (hy : a.eval y = .int .i64 s) (hz : a.eval z = .map m) (hk : K (.agg ([.int .i64 e, .int .i64 s, .map m, .int .i64 0] : List Value).toArray) w) : gives Tryz.prog ⟨dst, .build 130 #[(0, x), (1, y), (2, z)], ty, pos, aft, gd⟩ a w K :=
  g_val _ w (by simp only [execOp, hx, hy, hz, List.map_toArray, List.map_cons, List.map_nil]; go_simp; try rfl) hk
theorem run_eqC (w : World) (d : Nat) (p q : Option Nat) : (Op.equalIn (d + 1) 140 (.chan p) (.chan q)).run Tryz.prog w = .ok (p == q) w := by
  simp [Op.equalIn, run_underlying Tryz.underlying140]
theorem ar0 : Array.range 0 = #[] := by simp
theorem ar1 : Array.range 1 = #[0] := by rw [Array.range_succ, ar0]; rfl
theorem ar2 : Array.range 2 = #[0, 1] := by rw [Array.range_succ, ar1]; rfl
theorem g_ceq (x : Operand) (p : Option Nat) (b : Bool) (hx : a.eval x = .chan p) (hb : p.isNone = b) (hk : K (.bool b) w) : gives Tryz.prog ⟨dst, .binOp .eql 140 x (.const (.chan none)) yt, ty, pos, aft, gd⟩ a w K :=
  g_val (.bool b) w (by subst hb; have e : a.eval (.const (.chan none)) = .chan none := rfl; cases p <;> simp [execOp, hx, e, eqGuard, binOp, Op.equal, Op.maxDepth, run_eqC]) hk
theorem g_lenC0 (x : Operand) (hx : a.eval x = .chan none) (hk : K (.int .i64 0) w) : gives Tryz.prog ⟨dst, .call { callee := .builtin .len, args := #[x], argTypes := #[140] }, ty, pos, aft, gd⟩ a w K :=
  g_val (.int .i64 0) w (by simp [execOp, resolve, invoke, builtin, hx, Builtin.len_, run_underlying Tryz.underlying140, Result.andThen, goInt]) hk
theorem g_lenC {w0 : World} {R : List HP} {c cap : Nat} {vs : List Value} (x : Operand) (r : Int) (hx : a.eval x = .chan (some c)) (hM : Ms w0 w (ch c cap vs :: R)) (hr : ((vs.length : Nat) : Int) = r) (hk : K (.int .i64 r) w) : gives Tryz.prog ⟨dst, .call { callee := .builtin .len, args := #[x], argTypes := #[140] }, ty, pos, aft, gd⟩ a w K := by
  obtain ⟨s, q, hc⟩ := ch_get hM
  refine g_val (.int .i64 r) w ?_ hk
  subst hr
  simp [execOp, resolve, invoke, builtin, hx, Builtin.len_, run_underlying Tryz.underlying140, run_getObj_chan _ _ hc, Result.andThen, goInt]
theorem info9 : ∃ i, Tryz.prog.info? 9 = some i ∧ i.bytes = 16 := by
  have h : (Tryz.prog.info? 9).map (·.bytes) = some 16 := by kernel_rfl
  obtain ⟨i, hi, hb⟩ := Option.map_eq_some_iff.1 h
  exact ⟨i, hi, hb⟩
theorem ch_new {w0 w : World} {R : List HP} {cap : Nat} (h : Ms w0 w R) : Ms w0 (w.alloc (.chan cap #[] false 0 0 false)) (ch w.heap.size cap [] :: R) := by
  obtain ⟨F, h1, h2⟩ := h.mem
  have hb : Below w.heap.size w (w.alloc (.chan cap #[] false 0 0 false)) := (Below.refl _ _).alloc (Nat.le_refl _) _
  refine ⟨h.below.trans (hb.mono h.below.size), fun k => k = w.heap.size ∨ F k, ⟨fun k => k = w.heap.size, F, ⟨fun k => Iff.rfl, 0, 0, heap_alloc_new _ _⟩, h1.loc (fun k hk => hb.block k (h1.lt k hk)), fun k => Iff.rfl, ?_⟩, ?_⟩
  · rintro k rfl hk
    exact absurd (h1.lt _ hk) (by omega)
  · rintro k (rfl | hk)
    · exact h.below.size
    · exact h2 k hk
theorem g_mchan {w0 : World} {R : List HP} (x : Operand) (n : Nat) (hx : a.eval x = .int .i64 ((n : Nat) : Int)) (hn : n ≤ 1000) (h : Ms w0 w R) (hk : ∀ w', Ms w0 w' (ch w.heap.size n [] :: R) → K (.chan (some w.heap.size)) w') : gives Tryz.prog ⟨dst, .makeChan 140 x, ty, pos, aft, gd⟩ a w K := by
  obtain ⟨i, hi, hb⟩ := info9
  have hr := Go.Conc.run_makeChan (P := Tryz.prog) (w := w) Tryz.underlying140 hi .i64 n (by omega) (by rw [hb]; omega)
  exact g_val _ _ (by simp only [execOp, hx, Sem.run_bind, hr, Result.andThen_ok, Sem.run_pure]) (hk _ (ch_new h))
theorem szof3 : ∀ w, (sizeOf 3).run Tryz.prog w = .ok 1 w := by intro w; kernel_rfl
theorem szof9 : ∀ w, (sizeOf 9).run Tryz.prog w = .ok 1 w := by intro w; kernel_rfl
theorem szof4 : ∀ w, (sizeOf 4).run Tryz.prog w = .ok 1 w := by intro w; kernel_rfl
theorem run_bs1 (t e : Nat) (ht : Tryz.prog.underlying t = some (.slice e)) (hs : ∀ w, (sizeOf e).run Tryz.prog w = .ok 1 w) (z : Value) (hz : ∀ w, (zeroValue e).run Tryz.prog w = .ok z w) (hzc : z.cells = #[z]) (w : World) (v : Value) (hc : v.cells = #[v]) :
    (Instr.buildSlice t 1 #[(0, v)]).run Tryz.prog w = .ok (.slice (some ⟨w.heap.size, 0, none⟩) 1 1) (w.alloc (.cells #[v] e)) := by
  simp [Instr.buildSlice, run_underlying ht, hs, hz, hzc, hc, Instr.fill, newRow, ar1]
end
section
variable {a : Act} {w0 w : World} {R : List HP} {dst : Option Tmp} {ty : TypeId} {pos : String} {aft : Array Edge} {gd : Option (Nat × Bool)} {K : Value → World → Prop}
theorem g_bs1 (t e : Nat) (ht : Tryz.prog.underlying t = some (.slice e)) (hs : ∀ w, (sizeOf e).run Tryz.prog w = .ok 1 w) (z : Value) (hz : ∀ w, (zeroValue e).run Tryz.prog w = .ok z w) (hzc : z.cells = #[z]) (x : Operand) (v : Value) (hx : a.eval x = v) (hc : v.cells = #[v]) (h : Ms w0 w R) (hk : ∀ w', Ms w0 w' (blk w.heap.size [v] e :: R) → K (.slice (some ⟨w.heap.size, 0, none⟩) 1 1) w') : gives Tryz.prog ⟨dst, .buildSlice t 1 #[(0, x)], ty, pos, aft, gd⟩ a w K := by
  obtain ⟨h1, h2⟩ := turn_alloc w [v] e
  exact g_val _ _ (by simp only [execOp, List.map_toArray, List.map_cons, List.map_nil, hx, Sem.run_bind, run_bs1 t e ht hs z hz hzc w v hc, Result.andThen_ok, Sem.run_pure]) (hk _ (h.new h1 h2))
theorem inf9_some : (Tryz.prog.info? 9).map (fun i => (i.size, i.bytes, i.zero.map (fun z => z.cells.size))) = some (1, 16, some 1) := by kernel_rfl
theorem inf9 : ∃ i z, Tryz.prog.info? 9 = some i ∧ i.zero = some z ∧ i.size = 1 ∧ i.bytes = 16 ∧ z.cells.size = 1 := by
  have h := inf9_some
  cases hi : Tryz.prog.info? 9 with
  | none => rw [hi] at h; cases h
  | some i =>
    rw [hi] at h
    simp only [Option.map_some, Option.some.injEq, Prod.mk.injEq] at h
    obtain ⟨h1, h2, h3⟩ := h
    cases hz : i.zero with
    | none => rw [hz] at h3; cases h3
    | some z =>
      rw [hz] at h3
      simp only [Option.map_some, Option.some.injEq] at h3
      exact ⟨i, z, rfl, hz, h1, h2, h3⟩
/-- append(row, one) -/
theorem g_apS (x y : Operand) (v : Value) (n : Nat) (xs : List Value) (b c : Nat) (news : List Value) (bt : TypeId) (hx : a.eval x = v) (hy : a.eval y = .slice (some ⟨b, 0, none⟩) 1 c) (h : Ms w0 w (row 9 1 v n xs :: blk b news bt :: R)) (hl : news.length = 1) (h1 : ∀ u ∈ news, u.oneCell' = true)
    (hmx : n + 1 ≤ 100000) (hk : ∀ v' w', Ms w0 w' (row 9 1 v' (n + 1) (xs ++ news) :: blk b news bt :: R) → K v' w') :
    gives Tryz.prog ⟨dst, .call { callee := .builtin .append, args := #[x, y], argTypes := #[59, 59] }, ty, pos, aft, gd⟩ a w K := by
  obtain ⟨i, z, h2, h3, h4, h5, h6⟩ := inf9
  exact g_apR x y 59 9 1 i z _ Tryz.underlying59 h2 h3 h4 h5 h6 v n xs b c news bt hx hy h hl h1 (by omega) hmx hk
end
end Go.Proofs.YtcclcemdodoiiaaGreatDoor
