/- What New, Put, Take, Drop, Intervals, Size and Has answer of a whole buffer, and what then lies there. -/
import Derived.Test.YtpkjocibgmjhdaaIvs
namespace Go.Proofs.Ytpkjocibgmjhdaa
set_option maxRecDepth 10000
open Go Go.RowKit
set_option linter.unusedVariables false
set_option linter.unusedSimpArgs false
section
variable {each : Nat} {E E1 E2 : List (Int × Nat)} {L : List Thg} {i : Int} {c : Nat} {s : ByteArray}
theorem bu_none (h : Bu each E L) (hi : i ∉ E.map (·.1)) : ofI i L = [] := ofI_nil.2 fun ⟨t, h1, h2⟩ => hi ((h.dom i).2 ⟨t, h1, h2⟩)
theorem hasT_none (h : Bu each E L) (hi : i ∉ E.map (·.1)) : hasT i s L = false := by
  rw [← isin_ofI, bu_none h hi]; rfl
theorem bu_add (h : Bu each E L) (hi : i ∈ E.map (·.1)) (h1 : 1 ≤ i) (h2 : i ≤ 9223372036854775807) (hf : (ofI i L).length < each) : Bu each E (L ++ [(i, s)]) := by
  refine ⟨h.keys, fun j => ?_, fun j => ?_, fun t ht => ?_⟩
  · rw [h.dom j]
    constructor
    · rintro ⟨t, h3, h4⟩; exact ⟨t, List.mem_append_left _ h3, h4⟩
    · rintro ⟨t, h3, rfl⟩
      rcases List.mem_append.1 h3 with h3 | h3
      · exact ⟨t, h3, rfl⟩
      · obtain rfl := List.mem_singleton.1 h3
        exact (h.dom i).1 hi
  · rw [ofI_snoc, List.length_append]
    have := h.full j
    by_cases e : i = j
    · subst e; simp; omega
    · simp [e]; omega
  · rcases List.mem_append.1 ht with h3 | h3
    · exact h.low t h3
    · obtain rfl := List.mem_singleton.1 h3
      exact ⟨h1, h2⟩
theorem bu_new (h : Bu each E L) (hi : i ∉ E.map (·.1)) (h1 : 1 ≤ i) (h2 : i ≤ 9223372036854775807) (hf : 1 ≤ each) : Bu each (E ++ [(i, c)]) (L ++ [(i, s)]) := by
  refine ⟨?_, fun j => ?_, fun j => ?_, fun t ht => ?_⟩
  · rw [List.map_append, List.map_singleton]
    refine List.nodup_append.2 ⟨h.keys, by simp, ?_⟩
    rintro n hn k hk rfl
    obtain rfl := List.mem_singleton.1 hk
    exact hi hn
  · rw [List.map_append, List.mem_append, h.dom j]
    constructor
    · rintro (⟨t, h3, h4⟩ | h3)
      · exact ⟨t, List.mem_append_left _ h3, h4⟩
      · exact ⟨(i, s), List.mem_append_right _ (by simp), (by simpa using h3 : j = i).symm⟩
    · rintro ⟨t, h3, rfl⟩
      rcases List.mem_append.1 h3 with h3 | h3
      · exact .inl ⟨t, h3, rfl⟩
      · obtain rfl := List.mem_singleton.1 h3
        exact .inr (by simp)
  · rw [ofI_snoc, List.length_append]
    have := h.full j
    by_cases e : i = j
    · subst e; rw [bu_none h hi]; simp; omega
    · simp [e]; omega
  · rcases List.mem_append.1 ht with h3 | h3
    · exact h.low t h3
    · obtain rfl := List.mem_singleton.1 h3
      exact ⟨h1, h2⟩
theorem bu_take (h : Bu each (E1 ++ (i, c) :: E2) L) : Bu each (E1 ++ E2) (notI i L) ∧ (∀ e ∈ E1 ++ E2, e.1 ≠ i) := by
  have hk := h.keys
  rw [List.map_append, List.map_cons] at hk
  have hp : (E1.map (·.1) ++ i :: E2.map (·.1)).Perm (i :: (E1.map (·.1) ++ E2.map (·.1))) := List.perm_middle
  have hk2 := hp.nodup_iff.1 hk
  rw [List.nodup_cons, ← List.map_append] at hk2
  have hne : ∀ e ∈ E1 ++ E2, e.1 ≠ i := fun e he h1 => hk2.1 (List.mem_map.2 ⟨e, he, h1⟩)
  refine ⟨⟨hk2.2, fun j => ?_, fun j => ?_, fun t ht => h.low t (List.mem_filter.1 ht).1⟩, hne⟩
  · have h1 := h.dom j
    rw [List.map_append, List.map_cons, hp.mem_iff, List.mem_cons, ← List.map_append] at h1
    by_cases hj : j = i
    · subst hj
      constructor
      · intro h2; exact absurd h2 hk2.1
      · rintro ⟨t, h2, h3⟩
        have := (List.mem_filter.1 h2).2
        simp [h3] at this
    · constructor
      · intro h2
        obtain ⟨t, h3, h4⟩ := h1.1 (.inr h2)
        exact ⟨t, List.mem_filter.2 ⟨h3, by simp [h4, hj]⟩, h4⟩
      · rintro ⟨t, h2, h3⟩
        rcases h1.2 ⟨t, (List.mem_filter.1 h2).1, h3⟩ with h4 | h4
        · exact absurd h4 hj
        · exact h4
  · rw [ofI_notI]
    split
    · simp
    · exact h.full j
theorem notI_none (h : Bu each E L) (hi : i ∉ E.map (·.1)) : notI i L = L := by
  unfold notI
  refine List.filter_eq_self.2 fun t ht => ?_
  simp only [Bool.not_eq_true', decide_eq_false_iff_not]
  intro e
  exact hi ((h.dom i).2 ⟨t, ht, e⟩)
theorem bu_drop (lo : Int) (h : Bu each E L) : Bu each (E.filter (fun e => !decide (e.1 < lo))) (notB lo L) := by
  refine ⟨?_, fun j => ?_, fun j => ?_, fun t ht => h.low t (List.mem_filter.1 ht).1⟩
  · exact h.keys.sublist (List.Sublist.map _ List.filter_sublist)
  · constructor
    · intro h1
      obtain ⟨e, h2, rfl⟩ := List.mem_map.1 h1
      obtain ⟨h3, h4⟩ := List.mem_filter.1 h2
      obtain ⟨t, h5, h6⟩ := (h.dom e.1).1 (List.mem_map.2 ⟨e, h3, rfl⟩)
      exact ⟨t, List.mem_filter.2 ⟨h5, by rw [h6]; exact h4⟩, h6⟩
    · rintro ⟨t, h1, rfl⟩
      obtain ⟨h2, h3⟩ := List.mem_filter.1 h1
      obtain ⟨e, h4, h5⟩ := List.mem_map.1 ((h.dom t.1).2 ⟨t, h2, rfl⟩)
      exact List.mem_map.2 ⟨e, List.mem_filter.2 ⟨h4, by rw [h5]; exact h3⟩, h5⟩
  · rw [ofI_notB]
    split
    · simp
    · exact h.full j
/-- How many are below. -/
def bdN (lo : Int) (L : List Thg) : Nat := L.length - (notB lo L).length
theorem bdN_eq (lo : Int) (h : Bu each E L) : cntB lo (E.map mv) L = bdN lo L := by
  have h1 := cnt_below (b := lo) h.keys (L := L) (fun t ht => (h.dom t.1).2 ⟨t, ht, rfl⟩)
  unfold bdN cntB
  rw [List.map_map]
  have e : ((fun x : Int × Value => x.1) ∘ mv) = (fun e : Int × Nat => e.1) := rfl
  rw [e]; omega
end
section
variable {w0 w : World} {R : List HP} {p m x : Nat} {y d i : Int} {L : List Thg} {E E1 E2 : List (Int × Nat)} {s : ByteArray} {c : Nat} {A B : HP}
theorem chs_fwd (h : Ms w0 w (A :: B :: (chs x L (E1 ++ (i, c) :: E2) ++ R))) : Ms w0 w (A :: B :: ch c x ((ofI i L).map Value.string) :: ((chs x L E1 ++ chs x L E2) ++ R)) :=
  h.perm (((chs_at.append_right R)).cons B |>.cons A)
theorem chs_bwd (h : Ms w0 w (A :: B :: ch c x ((ofI i L).map Value.string) :: ((chs x L E1 ++ chs x L E2) ++ R))) : Ms w0 w (A :: B :: (chs x L (E1 ++ (i, c) :: E2) ++ R)) :=
  h.perm (((chs_at.append_right R).symm).cons B |>.cons A)
theorem chs_app (each : Nat) (L : List Thg) (E1 E2 : List (Int × Nat)) : chs each L (E1 ++ E2) = chs each L E1 ++ chs each L E2 := by unfold chs; rw [List.map_append]
/-- Where an interval's channel lies. -/
theorem key_at (h : i ∈ E.map (·.1)) : ∃ E1 c E2, E = E1 ++ (i, c) :: E2 := by
  obtain ⟨⟨j, c⟩, h1, rfl⟩ := List.mem_map.1 h
  obtain ⟨E1, E2, h2⟩ := List.append_of_mem h1
  exact ⟨E1, c, E2, h2⟩
theorem has_any (hM : Ms w0 w (bf p x y d L :: R)) (hx : x ≤ 1000) : Calls Try.prog 25 #[.pointer (some ⟨p, 0, none⟩), .int .i64 i, .string s] w fun e w' => e = .returned (.bool (hasT i s L)) ∧ Ms w0 w' (bf p x y d L :: R) := by
  obtain ⟨m, E, hB, hM⟩ := bf_open hM
  by_cases hi : i ∈ E.map (·.1)
  · obtain ⟨E1, c, E2, rfl⟩ := key_at hi
    rw [← isin_ofI]
    exact (has_in (chs_fwd hM) (look_in hB.keys) (hB.full i) hx).mono fun e w' ⟨h1, h2⟩ => ⟨h1, bf_mk (chs_bwd h2) hB⟩
  · rw [hasT_none hB hi]
    exact (has_out hM (look_out hi)).mono fun e w' ⟨h1, h2⟩ => ⟨h1, bf_mk h2 hB⟩
theorem size_any (hM : Ms w0 w (bf p x y d L :: R)) (hL : L.length ≤ 1000000) : Calls Try.prog 23 #[.pointer (some ⟨p, 0, none⟩)] w fun e w' => e = .returned (.int .i64 ((L.length : Nat) : Int)) ∧ Ms w0 w' (bf p x y d L :: R) := by
  obtain ⟨m, E, hB, hM⟩ := bf_open hM
  exact (size_bo hM hB hL).mono fun e w' ⟨h1, h2⟩ => ⟨h1, bf_mk h2 hB⟩
theorem ivals_any (hM : Ms w0 w (bf p x y d L :: R)) (hL : L.length ≤ 1000000) : Calls Try.prog 21 #[.pointer (some ⟨p, 0, none⟩)] w fun e w' => ∃ v, e = .returned v ∧ Ms w0 w' (row 3 1 v (ivs L).length ((ivs L).map encZ) :: bf p x y d L :: R) := by
  obtain ⟨m, E, hB, hM⟩ := bf_open hM
  refine (ivals_bo hM hB hL).mono fun e w' ⟨v, h1, h2⟩ => ⟨v, h1, ?_⟩
  have h3 : Ms w0 w' (bo p m x y d L E ++ (row 3 1 v (ivs L).length ((ivs L).map encZ) :: R)) := h2.perm (List.perm_middle (l₁ := bo p m x y d L E) (l₂ := R)).symm
  exact (bf_mk h3 hB).up 1 rfl
theorem take_any (hM : Ms w0 w (bf p x y d L :: R)) (hL : L.length ≤ 10000) : Calls Try.prog 17 #[.pointer (some ⟨p, 0, none⟩), .int .i64 i] w fun e w' => ∃ v, e = .returned v ∧ Ms w0 w' (row 9 1 v (ofI i L).length ((ofI i L).map Value.string) :: bf p x y d (notI i L) :: R) := by
  obtain ⟨m, E, hB, hM⟩ := bf_open hM
  by_cases hi : i ∈ E.map (·.1)
  · obtain ⟨E1, c, E2, rfl⟩ := key_at hi
    obtain ⟨hB2, hne⟩ := bu_take hB
    refine (take_in (chs_fwd hM) (look_in hB.keys) (Nat.le_trans (ofI_le i L) hL)).mono fun e w' ⟨v, h1, h2⟩ => ⟨v, h1, ?_⟩
    have e1 : mdel ((E1 ++ (i, c) :: E2).map mv) i = (E1 ++ E2).map mv := by
      unfold mdel
      rw [List.map_append, List.map_cons, List.filter_append, List.filter_cons_of_neg (by simp [mv]), ← List.filter_append, ← List.map_append]
      refine List.filter_eq_self.2 fun z hz => ?_
      obtain ⟨e, he, rfl⟩ := List.mem_map.1 hz
      show (!decide (e.1 = i)) = true
      rw [decide_eq_false (hne e he)]; rfl
    have e2 : chs x L E1 ++ chs x L E2 = chs x (notI i L) (E1 ++ E2) := by
      rw [← chs_app]
      exact (chs_same fun e he => by rw [ofI_notI, if_neg (hne e he)]).symm
    rw [e1, e2] at h2
    have h3 : Ms w0 w' (bo p m x y d (notI i L) (E1 ++ E2) ++ (row 9 1 v (ofI i L).length ((ofI i L).map Value.string) :: R)) := h2.perm (List.perm_middle (l₁ := bo p m x y d (notI i L) (E1 ++ E2)) (l₂ := R)).symm
    exact (bf_mk h3 hB2).up 1 rfl
  · rw [bu_none hB hi, notI_none hB hi]
    refine (take_out hM (look_out hi)).mono fun e w' ⟨v, h1, h2⟩ => ⟨v, h1, ?_⟩
    rw [mdel_none (by rw [List.map_map]; exact hi)] at h2
    have h3 : Ms w0 w' (bo p m x y d L E ++ (row 9 1 v 0 [] :: R)) := h2.perm (List.perm_middle (l₁ := bo p m x y d L E) (l₂ := R)).symm
    exact (bf_mk h3 hB).up 1 rfl
theorem drop_any {lo : Int} (hM : Ms w0 w (bf p x y d L :: R)) (hL : L.length ≤ 1000000) : Calls Try.prog 19 #[.pointer (some ⟨p, 0, none⟩), .int .i64 lo] w fun e w' => e = .returned (.int .i64 ((bdN lo L : Nat) : Int)) ∧ Ms w0 w' (bf p x y d (notB lo L) :: R) := by
  obtain ⟨m, E, hB, hM⟩ := bf_open hM
  have hbd := bdN_eq lo hB
  refine (drop_bo hM hB hL (by rw [hbd]; unfold bdN; omega)).mono fun e w' ⟨h1, h2⟩ => ⟨by rw [h1, hbd], ?_⟩
  have e1 : (E.map mv).filter (fun z => !decide (z.1 < lo)) = (E.filter (fun e => !decide (e.1 < lo))).map mv := by rw [List.filter_map]; rfl
  have e2 : chs x (notB lo L) (E.filter (fun e => !decide (e.1 < lo))) = chs x L (E.filter (fun e => !decide (e.1 < lo))) := chs_same fun e he => by
    have := (List.mem_filter.1 he).2
    rw [ofI_notB, if_neg (by simpa using this)]
  have hs : (chs x L (E.filter (fun e => !decide (e.1 < lo)))).Sublist (chs x L E) := List.filter_sublist.map _
  rw [e1] at h2
  have h3 := Ms.sub (((hs.append_right R).cons_cons _).cons_cons _) h2
  rw [← e2] at h3
  exact bf_mk h3 (bu_drop lo hB)
theorem put_any (hM : Ms w0 w (bf p x y d L :: R)) (hx : 1 ≤ x) (hx2 : x ≤ 1000) (hi : i ≤ 9223372036854775807) (hd : 0 ≤ d) (hd2 : d < 1000000) : Calls Try.prog 14 #[.pointer (some ⟨p, 0, none⟩), .int .i64 i, .string s] w fun e w' => e = .returned (.int .i64 (bpE x y i s L)) ∧ Ms w0 w' (bf p x y (bpD x y i s L d) (bpL x y i s L) :: R) := by
  obtain ⟨m, E, hB, hM⟩ := bf_open hM
  have hdd : Shut (IntKind.i64.wrap (d + 1) = d + 1) := ⟨wrap_id _ (by omega) (by omega)⟩
  by_cases h1 : i < 1
  · have e : bpE x y i s L = 1 := by unfold bpE; rw [if_pos h1]
    simp only [bpD, bpL, e]
    exact (put_low hM h1).mono fun e w' ⟨h2, h3⟩ => ⟨h2, bf_mk h3 hB⟩
  have hik : 1 ≤ i := by omega
  by_cases hk : i ∈ E.map (·.1)
  · obtain ⟨E1, c, E2, rfl⟩ := key_at hk
    have hl := look_in hB.keys
    by_cases h2 : hasT i s L = true
    · have e : bpE x y i s L = 11 := by unfold bpE; rw [if_neg h1, if_pos h2]
      simp only [bpD, bpL, e]
      exact (put_twice (chs_fwd hM) h1 hl (hB.full i) hx2 (by rw [isin_ofI]; exact h2)).mono fun e w' ⟨h2, h3⟩ => ⟨h2, bf_mk (chs_bwd h3) hB⟩
    have h2f : isin s (ofI i L) = false := by rw [isin_ofI]; simpa using h2
    have hne : (ofI i L).length ≠ 0 := fun h0 => ofI_nil.1 (List.eq_nil_of_length_eq_zero h0) ((hB.dom i).1 hk)
    by_cases h3 : x ≤ (ofI i L).length
    · have e : bpE x y i s L = 4 := by unfold bpE; rw [if_neg h1, if_neg h2, if_pos (.inl (by omega))]
      simp only [bpD, bpL, e]
      exact (put_full (chs_fwd hM) h1 hl (hB.full i) hx2 h2f h3 hdd).mono fun e w' ⟨h2, h3⟩ => ⟨h2, bf_mk (chs_bwd h3) hB⟩
    · have e : bpE x y i s L = 0 := by unfold bpE; rw [if_neg h1, if_neg h2, if_neg (by omega)]
      simp only [bpD, bpL, e]
      refine (put_room (chs_fwd hM) h1 hl (hB.full i) hx2 h2f (by omega)).mono fun e w' ⟨h4, h5⟩ => ⟨h4, ?_⟩
      have hne2 : ∀ e ∈ E1 ++ E2, e.1 ≠ i := (bu_take hB).2
      have e1 : chs x (L ++ [(i, s)]) E1 = chs x L E1 := chs_same fun e he => by rw [ofI_snoc, if_neg (Ne.symm (hne2 e (List.mem_append_left _ he))), List.append_nil]
      have e2 : chs x (L ++ [(i, s)]) E2 = chs x L E2 := chs_same fun e he => by rw [ofI_snoc, if_neg (Ne.symm (hne2 e (List.mem_append_right _ he))), List.append_nil]
      have e3 : (ofI i (L ++ [(i, s)])).map Value.string = (ofI i L).map Value.string ++ [.string s] := by rw [ofI_snoc, if_pos rfl, List.map_append]; rfl
      rw [← e1, ← e2, ← e3] at h5
      exact bf_mk (chs_bwd h5) (bu_add hB hk hik hi (by omega))
  · have h2 : hasT i s L = false := hasT_none hB hk
    have hof := bu_none hB hk
    have hlen : (E.map mv).length = (ivs L).length := by have := keys_length hB.keys hB.dom; rw [List.length_map] at this ⊢; exact this
    by_cases h3 : (((E.map mv).length : Nat) : Int) < y
    · have e : bpE x y i s L = 0 := by unfold bpE; rw [if_neg h1, if_neg (by rw [h2]; decide), if_neg (by rw [hof, ← hlen]; simp only [List.length_nil]; omega)]
      simp only [bpD, bpL, e]
      refine (put_new hM h1 (look_out hk) h3 hx hx2).mono fun e w' ⟨c, h4, h5⟩ => ⟨h4, ?_⟩
      have e1 : chs x (L ++ [(i, s)]) E = chs x L E := chs_same fun e he => by rw [ofI_snoc, if_neg (fun e4 => hk (List.mem_map.2 ⟨e, he, e4.symm⟩)), List.append_nil]
      have e3 : (ofI i (L ++ [(i, s)])).map Value.string = [] ++ [.string s] := by rw [ofI_snoc, if_pos rfl, hof]; rfl
      have e4 : (E ++ [(i, c)]).map mv = E.map mv ++ [(i, .chan (some c))] := by rw [List.map_append]; rfl
      have h6 : Ms w0 w' (blk p [.int .i64 ((x : Nat) : Int), .int .i64 y, .map (some m), .int .i64 d] 60 :: mp kI m (E.map mv ++ [(i, .chan (some c))]) :: ch c x ([] ++ [.string s]) :: ((chs x L E ++ chs x L []) ++ R)) := by
        rw [show chs x L E ++ chs x L [] = chs x L E from List.append_nil _]; exact h5
      rw [← e1, ← e3, ← e4, show chs x L [] = chs x (L ++ [(i, s)]) [] from rfl] at h6
      exact bf_mk (chs_bwd h6) (bu_new hB hk hik hi hx)
    · have e : bpE x y i s L = 4 := by unfold bpE; rw [if_neg h1, if_neg (by rw [h2]; decide), if_pos (.inr ⟨by rw [hof]; rfl, by rw [← hlen]; omega⟩)]
      simp only [bpD, bpL, e]
      exact (put_none hM h1 (look_out hk) h3 hdd).mono fun e w' ⟨h2, h3⟩ => ⟨h2, bf_mk h3 hB⟩
end
end Go.Proofs.Ytpkjocibgmjhdaa
