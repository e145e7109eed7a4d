/- Buffers as lists of things (an interval, a text) in the order in which they came: no program. -/
import Derived.Below
namespace Go.Proofs.Ytpkjocibgmjhdaa
abbrev Thg := Int × ByteArray
/-- An interval's texts. -/
def ofI (i : Int) (L : List Thg) : List ByteArray := (L.filter (fun t => decide (t.1 = i))).map (·.2)
/-- One interval more, among rising ones. -/
def ins (x : Int) : List Int → List Int
  | [] => [x]
  | y :: l => if x < y then x :: y :: l else if x = y then y :: l else y :: ins x l
/-- The intervals that have some, rising. -/
def ivs (L : List Thg) : List Int := L.foldl (fun out t => ins t.1 out) []
def notI (i : Int) (L : List Thg) : List Thg := L.filter (fun t => !decide (t.1 = i))
def notB (b : Int) (L : List Thg) : List Thg := L.filter (fun t => !decide (t.1 < b))
/-- Does it lie there? -/
def hasT (i : Int) (s : ByteArray) (L : List Thg) : Bool := L.any (fun t => decide (t.1 = i) && decide (t.2 = s))
theorem hasT_iff {i : Int} {s : ByteArray} {L : List Thg} : hasT i s L = true ↔ (i, s) ∈ L := by
  unfold hasT
  rw [List.any_eq_true]
  constructor
  · rintro ⟨t, h1, h2⟩
    simp only [Bool.and_eq_true, decide_eq_true_eq] at h2
    obtain ⟨rfl, rfl⟩ := h2
    exact h1
  · intro h
    exact ⟨(i, s), h, by simp⟩
/-- What Put answers. -/
def bpE (each slots i : Int) (s : ByteArray) (L : List Thg) : Int :=
  if i < 1 then 1 else if hasT i s L = true then 11 else if each ≤ (ofI i L).length ∨ ((ofI i L).length = 0 ∧ slots ≤ (ivs L).length) then 4 else 0
def bpL (each slots i : Int) (s : ByteArray) (L : List Thg) : List Thg := if bpE each slots i s L = 0 then L ++ [(i, s)] else L
def bpD (each slots i : Int) (s : ByteArray) (L : List Thg) (d : Int) : Int := if bpE each slots i s L = 4 then d + 1 else d
theorem mem_ins {x z : Int} : ∀ {l : List Int}, z ∈ ins x l ↔ z = x ∨ z ∈ l
  | [] => by simp [ins]
  | y :: l => by
    unfold ins
    split
    · simp
    · split
      · rename_i h; subst h; simp
      · rw [List.mem_cons, mem_ins, List.mem_cons]; constructor
        · rintro (h | h | h) <;> simp [h]
        · rintro (h | h | h) <;> simp [h]
theorem ins_sorted {x : Int} : ∀ {l : List Int}, l.Pairwise (· < ·) → (ins x l).Pairwise (· < ·)
  | [], _ => by simp [ins]
  | y :: l, h => by
    rw [List.pairwise_cons] at h
    unfold ins
    split
    · rename_i hxy
      exact List.pairwise_cons.2 ⟨fun z hz => by rcases List.mem_cons.1 hz with rfl | hz; exact hxy; exact Int.lt_trans hxy (h.1 z hz), List.pairwise_cons.2 h⟩
    · split
      · exact List.pairwise_cons.2 h
      · rename_i h1 h2
        refine List.pairwise_cons.2 ⟨fun z hz => ?_, ins_sorted h.2⟩
        rcases mem_ins.1 hz with rfl | hz
        · omega
        · exact h.1 z hz
theorem ivs_snoc (L : List Thg) (t : Thg) : ivs (L ++ [t]) = ins t.1 (ivs L) := by simp [ivs]
theorem fold_ins (L : List Thg) : ∀ out : List Int, (∀ z, z ∈ L.foldl (fun out t => ins t.1 out) out ↔ z ∈ out ∨ ∃ t ∈ L, t.1 = z) ∧ (out.Pairwise (· < ·) → (L.foldl (fun out t => ins t.1 out) out).Pairwise (· < ·)) := by
  induction L with
  | nil => intro out; exact ⟨fun z => by simp, id⟩
  | cons t L ih =>
    intro out
    obtain ⟨h1, h2⟩ := ih (ins t.1 out)
    refine ⟨fun z => ?_, fun h => h2 (ins_sorted h)⟩
    rw [List.foldl_cons, h1, mem_ins]
    constructor
    · rintro ((rfl | h) | ⟨u, hu, rfl⟩)
      · exact .inr ⟨t, by simp, rfl⟩
      · exact .inl h
      · exact .inr ⟨u, by simp [hu], rfl⟩
    · rintro (h | ⟨u, hu, rfl⟩)
      · exact .inl (.inr h)
      · rcases List.mem_cons.1 hu with rfl | hu
        · exact .inl (.inl rfl)
        · exact .inr ⟨u, hu, rfl⟩
theorem mem_ivs {L : List Thg} {i : Int} : i ∈ ivs L ↔ ∃ t ∈ L, t.1 = i := by
  have := (fold_ins L []).1 i
  simpa [ivs] using this
theorem sorted_ivs (L : List Thg) : (ivs L).Pairwise (· < ·) := (fold_ins L []).2 List.Pairwise.nil
theorem rising_eq : ∀ {a b : List Int}, a.Pairwise (· < ·) → b.Pairwise (· < ·) → (∀ z, z ∈ a ↔ z ∈ b) → a = b
  | [], [], _, _, _ => rfl
  | [], y :: b, _, _, h => by have := (h y).2 (by simp); cases this
  | x :: a, [], _, _, h => by have := (h x).1 (by simp); cases this
  | x :: a, y :: b, ha, hb, h => by
    rw [List.pairwise_cons] at ha hb
    have e : x = y := by
      rcases List.mem_cons.1 ((h x).1 (by simp)) with e | h1
      · exact e
      · rcases List.mem_cons.1 ((h y).2 (by simp)) with e | h2
        · exact e.symm
        · have := ha.1 y h2
          have := hb.1 x h1
          omega
    subst e
    rw [rising_eq ha.2 hb.2 fun z => ?_]
    constructor
    · intro hz
      rcases List.mem_cons.1 ((h z).1 (List.mem_cons_of_mem _ hz)) with e | h1
      · have := ha.1 z hz; omega
      · exact h1
    · intro hz
      rcases List.mem_cons.1 ((h z).2 (List.mem_cons_of_mem _ hz)) with e | h1
      · have := hb.1 z hz; omega
      · exact h1
theorem nodup_rising {a : List Int} (h : a.Pairwise (· < ·)) : a.Nodup := h.imp fun h => by omega
/-- Sorted keys, each there once. -/
theorem sorted_keys {ks : List Int} {L : List Thg} (hn : ks.Nodup) (hm : ∀ i, i ∈ ks ↔ ∃ t ∈ L, t.1 = i) : ks.mergeSort (fun x y => decide (x ≤ y)) = ivs L := by
  have hp := List.mergeSort_perm ks (fun x y : Int => decide (x ≤ y))
  refine rising_eq ?_ (sorted_ivs L) fun z => by rw [hp.mem_iff, hm, mem_ivs]
  have h1 := List.pairwise_mergeSort (le := fun x y : Int => decide (x ≤ y)) (fun a b c h1 h2 => by simp at *; omega) (fun a b => by simp; omega) ks
  have h2 : (ks.mergeSort (fun x y => decide (x ≤ y))).Nodup := hp.symm.nodup hn
  refine (List.Pairwise.and h1 h2).imp ?_
  rintro a b ⟨h3, h4⟩
  have := of_decide_eq_true h3
  omega
theorem keys_length {ks : List Int} {L : List Thg} (hn : ks.Nodup) (hm : ∀ i, i ∈ ks ↔ ∃ t ∈ L, t.1 = i) : ks.length = (ivs L).length := by
  rw [← sorted_keys hn hm, List.length_mergeSort]
theorem mem_ofI {i : Int} {s : ByteArray} {L : List Thg} : s ∈ ofI i L ↔ (i, s) ∈ L := by
  unfold ofI
  rw [List.mem_map]
  constructor
  · rintro ⟨t, ht, rfl⟩
    obtain ⟨h1, h2⟩ := List.mem_filter.1 ht
    obtain rfl := of_decide_eq_true h2
    exact h1
  · intro h
    exact ⟨(i, s), List.mem_filter.2 ⟨h, by simp⟩, rfl⟩
theorem ofI_nil {i : Int} {L : List Thg} : ofI i L = [] ↔ ¬ ∃ t ∈ L, t.1 = i := by
  unfold ofI
  rw [List.map_eq_nil_iff, List.filter_eq_nil_iff]
  constructor
  · rintro h ⟨t, h1, h2⟩
    exact h t h1 (by simpa using h2)
  · intro h t h1 h2
    exact h ⟨t, h1, by simpa using h2⟩
theorem ofI_snoc (i : Int) (L : List Thg) (t : Thg) : ofI i (L ++ [t]) = ofI i L ++ (if t.1 = i then [t.2] else []) := by
  unfold ofI
  rw [List.filter_append, List.map_append]
  congr 1
  by_cases h : t.1 = i <;> simp [h]
theorem ofI_notI (i j : Int) (L : List Thg) : ofI i (notI j L) = if i = j then [] else ofI i L := by
  unfold ofI notI
  rw [List.filter_filter]
  split
  · rename_i h
    subst h
    simp
  · rename_i h
    congr 1
    refine List.filter_congr fun t _ => ?_
    by_cases h1 : t.1 = i
    · simp [h1, h]
    · simp [h1]
theorem ofI_notB (i b : Int) (L : List Thg) : ofI i (notB b L) = if i < b then [] else ofI i L := by
  unfold ofI notB
  rw [List.filter_filter]
  split
  · rename_i h
    rw [List.map_eq_nil_iff, List.filter_eq_nil_iff]
    intro t _
    simp; omega
  · rename_i h
    congr 1
    refine List.filter_congr fun t _ => ?_
    by_cases h1 : t.1 = i
    · simp [h1, h]
    · simp [h1]
theorem ofI_le (i : Int) (L : List Thg) : (ofI i L).length ≤ L.length := by unfold ofI; rw [List.length_map]; exact List.length_filter_le _ _
theorem length_part (p : Thg → Bool) : ∀ L : List Thg, (L.filter p).length + (L.filter (fun t => !p t)).length = L.length
  | [] => rfl
  | t :: L => by
    have := length_part p L
    rw [List.filter_cons, List.filter_cons]
    cases h : p t <;> simp <;> omega
theorem notI_length (i : Int) (L : List Thg) : (ofI i L).length + (notI i L).length = L.length := by
  unfold ofI notI; rw [List.length_map]; exact length_part _ L
/-- What lies there, counted interval by interval. -/
def cnt (ks : List Int) (L : List Thg) : Nat := (ks.map (fun i => (ofI i L).length)).sum
theorem cnt_cons (k : Int) (ks : List Int) (L : List Thg) : cnt (k :: ks) L = (ofI k L).length + cnt ks L := by simp [cnt]
theorem cnt_perm {a b : List Int} (h : a.Perm b) (L : List Thg) : cnt a L = cnt b L := (h.map _).sum_nat
theorem cnt_notI {ks : List Int} {k : Int} (h : k ∉ ks) (L : List Thg) : cnt ks (notI k L) = cnt ks L := by
  unfold cnt
  congr 1
  refine List.map_congr_left fun i hi => ?_
  rw [ofI_notI, if_neg (fun e => h (by rw [← e]; exact hi))]
theorem cnt_all : ∀ {ks : List Int} {L : List Thg}, ks.Nodup → (∀ t ∈ L, t.1 ∈ ks) → cnt ks L = L.length
  | [], L, _, h => by
    cases L with
    | nil => rfl
    | cons t L => have := h t (by simp); cases this
  | k :: ks, L, hn, h => by
    rw [List.nodup_cons] at hn
    rw [cnt_cons, ← cnt_notI hn.1 L, cnt_all hn.2 (fun t ht => ?_), notI_length]
    obtain ⟨h1, h2⟩ := List.mem_filter.1 ht
    rcases List.mem_cons.1 (h t h1) with e | h3
    · simp [e] at h2
    · exact h3
/-- How many go that are below b, when all that the keys ks name do. -/
theorem cnt_below {ks : List Int} {L : List Thg} {b : Int} (hn : ks.Nodup) (h : ∀ t ∈ L, t.1 ∈ ks) : cnt (ks.filter (fun i => decide (i < b))) L + (notB b L).length = L.length := by
  have h1 : cnt (ks.filter (fun i => decide (i < b))) L = (L.filter (fun t => decide (t.1 < b))).length := by
    have h2 : cnt (ks.filter (fun i => decide (i < b))) L = cnt (ks.filter (fun i => decide (i < b))) (L.filter (fun t => decide (t.1 < b))) := by
      unfold cnt
      congr 1
      refine List.map_congr_left fun i hi => ?_
      have hib := of_decide_eq_true (List.mem_filter.1 hi).2
      unfold ofI
      rw [List.filter_filter]
      congr 2
      refine List.filter_congr fun t _ => ?_
      by_cases h3 : t.1 = i
      · simp [h3, hib]
      · simp [h3]
    rw [h2, cnt_all (hn.filter _) fun t ht => ?_]
    obtain ⟨h3, h4⟩ := List.mem_filter.1 ht
    exact List.mem_filter.2 ⟨h t h3, h4⟩
  rw [h1]
  unfold notB
  exact length_part _ L
theorem ins_le (x : Int) : ∀ l : List Int, (ins x l).length ≤ l.length + 1
  | [] => by simp [ins]
  | y :: l => by
    have := ins_le x l
    unfold ins
    split
    · simp
    · split
      · simp
      · simp; omega
theorem ivs_le (L : List Thg) : (ivs L).length ≤ L.length := by
  have key : ∀ (L : List Thg) (out : List Int), (L.foldl (fun out t => ins t.1 out) out).length ≤ out.length + L.length := by
    intro L
    induction L with
    | nil => intro out; simp
    | cons t L ih =>
      intro out
      have h1 := ih (ins t.1 out)
      have h2 := ins_le t.1 out
      rw [List.foldl_cons, List.length_cons]; omega
  have := key L []
  simpa [ivs] using this
end Go.Proofs.Ytpkjocibgmjhdaa
