/- What Intervals answers: those that have some, rising. What New, Put, Take, Drop, Intervals, Size and Has answer of a whole buffer, and what then lies there. Slices that are there, read; what is told as a row; slots whose values are no matter. -/
import Derived.Test.YtcclcemdodoiiaaGreatDoorQRunG
import Derived.Test.YtcclcemdodoiiaaGreatDoorQShelfI
import Derived.Test.YtcclcemdodoiiaaGreatDoorQBf5
import Derived.WideKeyElems
namespace Go.Proofs.YtcclcemdodoiiaaGreatDoor
set_option maxRecDepth 10000
open Go Go.RowKit
set_option linter.unusedVariables false
set_option linter.unusedSimpArgs false

theorem keys_any (m : Nat) (w : World) : Calls Tryz.prog 92 #[.map (some m)] w fun e w' => e = .returned (.func (.func 112) #[] #[.pointer (some ⟨w.heap.size, 0, none⟩)]) ∧ w' = w.alloc (.cells #[.map (some m)] 128) :=
  (callsIn_wide (n := 5)).1 (AnyZI.keys_in Tryz.keysA Fence.wide 5 trivial rfl (some m) w)
theorem sort_any (n : Nat) : AnyZI.SortsIn Tryz.prog Tryz.sortedA_ren Fence.wide n :=
  ⟨fun blk off cap ss W hH hblk hsz => callsIn_wide.2 (AnyM.slices_Sort_int Tryz.sortA blk off cap ss W hH hblk hsz), fun p cap W => callsIn_wide.2 (AnyM.slices_Sort_int_none Tryz.sortA p cap W)⟩
theorem sorted_any (m nn : Nat) (D : DataW Unit) (T : Value → Option (DataW Unit × List MemPlace)) (w : World) (hown : w.ownsMap Tryz.prog 3 T m nn D) (h1 : Maps.size D ≤ 1000000) :
    Calls Tryz.prog 91 #[.func (.func 112) #[] #[.pointer (some ⟨w.heap.size, 0, none⟩)]] (w.alloc (.cells #[.map (some m)] 128)) fun e w' => ∃ (v : Value) (ss : List Int), e = .returned v ∧ ss.Perm (intKeys D) ∧
      w'.ownsRow (w.alloc (.cells #[.map (some m)] 128)).heap.size 3 1 v ss.length ((ss.mergeSort (fun x y => decide (x ≤ y))).map encZ) ∧ (v = .slice none 0 0 ↔ ss = []) ∧ Below (w.alloc (.cells #[.map (some m)] 128)).heap.size (w.alloc (.cells #[.map (some m)] 128)) w' := by
  have hseq := AnyZI.keys_gives (ρ := Tryz.keysA_ren) { Tryz.keysA with } Fence.wide 2 trivial rfl (by omega) w.heap.size m nn D (w.alloc (.cells #[.map (some m)] 128)) (by simp) (by simp) (hown.alloc _)
  exact (callsIn_wide (n := 5)).1 (AnyZI.sorted_in Tryz.sortedA Fence.wide 5 trivial trivial trivial trivial rfl (by omega) (sort_any _) (enters_of Tryz.func111 (by kernel_rfl) rfl) 112 #[.pointer (some ⟨w.heap.size, 0, none⟩)] trivial (enters_of Tryz.func112 (by kernel_rfl) rfl) _ _ (by unfold maxLen; omega) (by omega) _ hseq)
/-- Every value reads as one and the same. -/
def anyV (v : Value) : Option (DataW Unit × List MemPlace) := some (.lit (.bool true), [])
theorem wf_of {i : Int} (h1 : -9223372036854775808 ≤ i) (h2 : i ≤ 9223372036854775807) : (Lit.int .i64 i).wf = true := by
  simp [Lit.wf, IntKind.min, IntKind.max, IntKind.signed, IntKind.bits]; omega
theorem owns_mp {w0 w : World} {R : List HP} {m : Nat} {es : List (Int × Value)} (h : Ms w0 w (mp kI m es :: R)) (hl : es.length ≤ 1000000) (hk : ∀ z ∈ es, (Lit.int .i64 z.1).wf = true) :
    ∃ D : DataW Unit, w.ownsMap Tryz.prog 3 anyV m es.length D ∧ Maps.size D ≤ 1000000 ∧ (intKeys D).Perm (es.map (·.1)) := by
  obtain ⟨A, clock, hb, hm⟩ := mp_get h
  have hlen : A.size = es.length := by simpa using congrArg List.length hm.kv
  have hrd : ∀ x ∈ A.toList, ∃ i : Int, x.key = .int .i64 i ∧ WideElems.rd Tryz.prog 3 anyV x = some (.int .i64 i, .lit (.bool true)) := fun x hx => by
    obtain ⟨z, hz, h1⟩ : ∃ z ∈ es, pkv kI z = ekv x := List.mem_map.1 (by rw [← hm.kv]; exact List.mem_map.2 ⟨x, hx, rfl⟩)
    have h2 : x.key = .int .i64 z.1 := (congrArg Prod.fst h1).symm
    have h3 := Maps.keyOf_int_mk Tryz.underlying3 (hk z hz)
    refine ⟨z.1, h2, ?_⟩
    simp [WideElems.rd, h2, h3, anyV]
  have hF : WideElems.Fit Tryz.prog 3 anyV A clock := ⟨by unfold maxLen; omega, ⟨hm.old, hm.born, hm.key keyI⟩, fun x hx => by obtain ⟨i, _, h1⟩ := hrd x hx; exact ⟨_, h1⟩⟩
  have hperm := WideShapes.sorted_perm (A.toList.map (WideElems.rg Tryz.prog 3 anyV))
  refine ⟨_, ⟨A, clock, hb, hF, by omega, rfl⟩, ?_, ?_⟩
  · show ((A.toList.map (WideElems.rg Tryz.prog 3 anyV)).foldr DataW.insert []).length ≤ 1000000
    rw [hperm.length_eq]; simp; omega
  · show (((A.toList.map (WideElems.rg Tryz.prog 3 anyV)).foldr DataW.insert []).map (fun p => Go.intOf p.1)).Perm _
    refine (hperm.map _).trans ?_
    rw [List.map_map]
    have h1 : A.toList.map ((fun p : Lit × DataW Unit => Go.intOf p.1) ∘ WideElems.rg Tryz.prog 3 anyV) = es.map (·.1) := by
      have h2 : A.toList.map (fun x => match x.key with | .int _ i => i | _ => 0) = es.map (·.1) := by
        have := congrArg (List.map (fun q : Value × Value => match q.1 with | .int _ i => i | _ => 0)) hm.kv
        rw [List.map_map, List.map_map] at this
        exact this
      rw [← h2]
      refine List.map_congr_left fun x hx => ?_
      obtain ⟨i, h3, h4⟩ := hrd x hx
      simp only [Function.comp]
      rw [WideElems.rg_of h4, h3]; rfl
    rw [h1]
theorem row_owned {w0 w w' : World} {R : List HP} {e n : Nat} {v : Value} {xs : List Value} (h : Ms w0 w R) (hb : Below w.heap.size w w') (ho : w'.ownsRow w.heap.size e 1 v n xs) : Ms w0 w' (row e 1 v n xs :: R) := by
  obtain ⟨hl, ⟨rfl, rfl⟩ | ⟨g, cap, cur, rfl, h1, h2, h3, h4, h5, h6⟩⟩ := ho
  · obtain rfl : xs = [] := List.eq_nil_of_length_eq_zero (by simpa using hl)
    exact row_nil (h.call hb)
  · exact row_mk (h.fresh hb h1 (cs := cur.toList) h2) hl h3 h4 (by rw [Array.length_toList, h5]; exact Nat.le_refl _) h6
set_option maxHeartbeats 4000000 in
theorem ivals_bo {w0 w : World} {R : List HP} {p m x : Nat} {y d : Int} {L : List Thg} {E : List (Int × Nat)} (hM : Ms w0 w (blk (p) ([.int .i64 (((x : Nat) : Int)), .int .i64 (y), .map (some m), .int .i64 (d)]) 130 :: mp kI m (E.map mv) :: (chs x L E ++ R))) (hB : Bu x E L) (hL : L.length ≤ 1000000) : Calls Tryz.prog 68 #[.pointer (some ⟨p, 0, none⟩)] w fun e w' => ∃ v, e = .returned v ∧ Ms w0 w' (row 3 1 v (ivs L).length ((ivs L).map encZ) :: blk (p) ([.int .i64 (((x : Nat) : Int)), .int .i64 (y), .map (some m), .int .i64 (d)]) 130 :: mp kI m (E.map mv) :: (chs x L E ++ R)) := by
  have hkeys : ((E.map mv).map (·.1)).Nodup := by rw [List.map_map]; exact hB.keys
  have hEl : (E.map mv).length ≤ 1000000 := by
    have h1 := keys_length (L := L) hB.keys hB.dom
    have h2 : (ivs L).length ≤ L.length := ivs_le L
    rw [List.length_map] at h1 ⊢; omega
  have hwf : ∀ z ∈ E.map mv, (Lit.int .i64 z.1).wf = true := fun z hz => by
    obtain ⟨e, he, rfl⟩ := List.mem_map.1 hz
    obtain ⟨t, ht, h1⟩ := (hB.dom e.1).1 (List.mem_map.2 ⟨e, he, rfl⟩)
    have h2 := hB.low t ht
    have h3 : (mv e).1 = t.1 := h1.symm
    rw [h3]
    exact wf_of (by omega) h2.2
  obtain ⟨D, hown, hsz, hperm⟩ := owns_mp (hM.up 1 rfl) hEl hwf
  go_enter Tryz.func68, Tryz.ntmps68
  refine wp_seq_k (fun K1 hK1 => ?_)
  refine wl_region (wl_fare kn ?_)
  simp (disch := omega) only [fx, pv, kx]
  refine wl_nil ?_
  refine hK1 _ _ ?_
  clear hK1 K1
  refine wp_seq_k (fun K2 hK2 => ?_)
  refine wl_region ?_
  refine wl_give rfl (g_move _ (.pointer (some ⟨p, 0, none⟩)) rfl ?_)
  try simp only [nz]
  refine wl_give rfl (g_nil _ ⟨p, 0, none⟩ rfl ?_)
  try simp only [nz]
  refine wl_give rfl (g_fa 130 _ (p) (0) (2) 2 rfl (fa130_2 _ _ _) ?_)
  try simp only [nz]
  refine wl_give rfl (g_ld1 128 _ (p) (2) _ rfl (ld128 _ _ _ _ ((hM.get 0 rfl).cell (2) _ (rfl))) ?_)
  try simp only [nz]
  refine wl_give rfl (g_call 92 _ _ [.map (some m)] (kf92 _ _) rfl ((keys_any m w).mono ?_))
  rintro e w1 ⟨rfl, rfl⟩
  refine ⟨_, rfl, ?_⟩
  try simp only [nz]
  refine wl_give rfl (g_call 91 _ _ [.func (.func 112) #[] #[.pointer (some ⟨w.heap.size, 0, none⟩)]] (kf91 _ _) rfl ((sorted_any m _ D anyV w hown hsz).mono ?_))
  rintro e w2 ⟨v, ss, rfl, hp, hrow, _, hb⟩
  refine ⟨_, rfl, ?_⟩
  try simp only [nz]
  have hM1 : Ms w0 (w.alloc (.cells #[.map (some m)] 128)) ((blk (p) ([.int .i64 (((x : Nat) : Int)), .int .i64 (y), .map (some m), .int .i64 (d)]) 130 :: mp kI m (E.map mv) :: (chs x L E ++ R))) := hM.call ((Below.refl _ _).alloc (Nat.le_refl _) _)
  have h9 := row_owned hM1 hb hrow
  clear hM hM1 hb hrow
  have hss : (ss.mergeSort (fun x y => decide (x ≤ y))) = ivs L := sorted_keys (hp.trans hperm |>.nodup_iff.2 hkeys) (fun i => by rw [(hp.trans hperm).mem_iff, List.map_map]; exact hB.dom i)
  have hsl : ss.length = (ivs L).length := by rw [← hss, List.length_mergeSort]
  rw [hss, hsl] at h9
  refine wl_give rfl (g_assign _ (v) rfl ?_)
  try simp only [nz]
  refine wl_nil ?_
  refine hK2 _ _ ?_
  clear hK2 K2
  refine wp_ret ?_
  go_ret
  exact ⟨_, rfl, h9⟩
end Go.Proofs.YtcclcemdodoiiaaGreatDoor
namespace Go.Proofs.YtcclcemdodoiiaaGreatDoor
set_option maxRecDepth 10000
open Go Go.RowKit
set_option linter.unusedVariables false
set_option linter.unusedSimpArgs false
section
variable {each : Nat} {E E1 E2 : List (Int × Nat)} {L : List Thg} {i : Int} {c : Nat} {s : ByteArray}
theorem bu_none (h : Bu each E L) (hi : i ∉ E.map (·.1)) : ofI i L = [] := ofI_nil.2 fun ⟨t, h1, h2⟩ => hi ((h.dom i).2 ⟨t, h1, h2⟩)
theorem hasT_none (h : Bu each E L) (hi : i ∉ E.map (·.1)) : hasT i s L = false := by
  rw [← isin_ofI, bu_none h hi]; rfl
theorem bu_add (h : Bu each E L) (hi : i ∈ E.map (·.1)) (h1 : 1 ≤ i) (h2 : i ≤ 9223372036854775807) (hf : (ofI i L).length < each) : Bu each E (L ++ [(i, s)]) := by
  refine ⟨h.keys, fun j => ?_, fun j => ?_, fun t ht => ?_⟩
  · rw [h.dom j]
    constructor
    · rintro ⟨t, h3, h4⟩; exact ⟨t, List.mem_append_left _ h3, h4⟩
    · rintro ⟨t, h3, rfl⟩
      rcases List.mem_append.1 h3 with h3 | h3
      · exact ⟨t, h3, rfl⟩
      · obtain rfl := List.mem_singleton.1 h3
        exact (h.dom i).1 hi
  · rw [ofI_snoc, List.length_append]
    have := h.full j
    by_cases e : i = j
    · subst e; simp; omega
    · simp [e]; omega
  · rcases List.mem_append.1 ht with h3 | h3
    · exact h.low t h3
    · obtain rfl := List.mem_singleton.1 h3
      exact ⟨h1, h2⟩
theorem bu_new (h : Bu each E L) (hi : i ∉ E.map (·.1)) (h1 : 1 ≤ i) (h2 : i ≤ 9223372036854775807) (hf : 1 ≤ each) : Bu each (E ++ [(i, c)]) (L ++ [(i, s)]) := by
  refine ⟨?_, fun j => ?_, fun j => ?_, fun t ht => ?_⟩
  · rw [List.map_append, List.map_singleton]
    refine List.nodup_append.2 ⟨h.keys, by simp, ?_⟩
    rintro n hn k hk rfl
    obtain rfl := List.mem_singleton.1 hk
    exact hi hn
  · rw [List.map_append, List.mem_append, h.dom j]
    constructor
    · rintro (⟨t, h3, h4⟩ | h3)
      · exact ⟨t, List.mem_append_left _ h3, h4⟩
      · exact ⟨(i, s), List.mem_append_right _ (by simp), (by simpa using h3 : j = i).symm⟩
    · rintro ⟨t, h3, rfl⟩
      rcases List.mem_append.1 h3 with h3 | h3
      · exact .inl ⟨t, h3, rfl⟩
      · obtain rfl := List.mem_singleton.1 h3
        exact .inr (by simp)
  · rw [ofI_snoc, List.length_append]
    have := h.full j
    by_cases e : i = j
    · subst e; rw [bu_none h hi]; simp; omega
    · simp [e]; omega
  · rcases List.mem_append.1 ht with h3 | h3
    · exact h.low t h3
    · obtain rfl := List.mem_singleton.1 h3
      exact ⟨h1, h2⟩
theorem bu_take (h : Bu each (E1 ++ (i, c) :: E2) L) : Bu each (E1 ++ E2) (notI i L) ∧ (∀ e ∈ E1 ++ E2, e.1 ≠ i) := by
  have hk := h.keys
  rw [List.map_append, List.map_cons] at hk
  have hp : (E1.map (·.1) ++ i :: E2.map (·.1)).Perm (i :: (E1.map (·.1) ++ E2.map (·.1))) := List.perm_middle
  have hk2 := hp.nodup_iff.1 hk
  rw [List.nodup_cons, ← List.map_append] at hk2
  have hne : ∀ e ∈ E1 ++ E2, e.1 ≠ i := fun e he h1 => hk2.1 (List.mem_map.2 ⟨e, he, h1⟩)
  refine ⟨⟨hk2.2, fun j => ?_, fun j => ?_, fun t ht => h.low t (List.mem_filter.1 ht).1⟩, hne⟩
  · have h1 := h.dom j
    rw [List.map_append, List.map_cons, hp.mem_iff, List.mem_cons, ← List.map_append] at h1
    by_cases hj : j = i
    · subst hj
      constructor
      · intro h2; exact absurd h2 hk2.1
      · rintro ⟨t, h2, h3⟩
        have := (List.mem_filter.1 h2).2
        simp [h3] at this
    · constructor
      · intro h2
        obtain ⟨t, h3, h4⟩ := h1.1 (.inr h2)
        exact ⟨t, List.mem_filter.2 ⟨h3, by simp [h4, hj]⟩, h4⟩
      · rintro ⟨t, h2, h3⟩
        rcases h1.2 ⟨t, (List.mem_filter.1 h2).1, h3⟩ with h4 | h4
        · exact absurd h4 hj
        · exact h4
  · rw [ofI_notI]
    split
    · simp
    · exact h.full j
theorem notI_none (h : Bu each E L) (hi : i ∉ E.map (·.1)) : notI i L = L := by
  unfold notI
  refine List.filter_eq_self.2 fun t ht => ?_
  simp only [Bool.not_eq_true', decide_eq_false_iff_not]
  intro e
  exact hi ((h.dom i).2 ⟨t, ht, e⟩)
end
section
variable {w0 w : World} {R : List HP} {p m x : Nat} {y d i : Int} {L : List Thg} {E E1 E2 : List (Int × Nat)} {s : ByteArray} {c : Nat} {A B : HP}
theorem chs_fwd (h : Ms w0 w (A :: B :: (chs x L (E1 ++ (i, c) :: E2) ++ R))) : Ms w0 w (A :: B :: ch c x ((ofI i L).map Value.string) :: ((chs x L E1 ++ chs x L E2) ++ R)) :=
  h.perm (((chs_at.append_right R)).cons B |>.cons A)
theorem chs_bwd (h : Ms w0 w (A :: B :: ch c x ((ofI i L).map Value.string) :: ((chs x L E1 ++ chs x L E2) ++ R))) : Ms w0 w (A :: B :: (chs x L (E1 ++ (i, c) :: E2) ++ R)) :=
  h.perm (((chs_at.append_right R).symm).cons B |>.cons A)
theorem chs_app (each : Nat) (L : List Thg) (E1 E2 : List (Int × Nat)) : chs each L (E1 ++ E2) = chs each L E1 ++ chs each L E2 := by unfold chs; rw [List.map_append]
/-- Where an interval's channel lies. -/
theorem key_at (h : i ∈ E.map (·.1)) : ∃ E1 c E2, E = E1 ++ (i, c) :: E2 := by
  obtain ⟨⟨j, c⟩, h1, rfl⟩ := List.mem_map.1 h
  obtain ⟨E1, E2, h2⟩ := List.append_of_mem h1
  exact ⟨E1, c, E2, h2⟩
theorem size_any (hM : Ms w0 w (bf p x y d L :: R)) (hL : L.length ≤ 1000000) : Calls Tryz.prog 48 #[.pointer (some ⟨p, 0, none⟩)] w fun e w' => e = .returned (.int .i64 ((L.length : Nat) : Int)) ∧ Ms w0 w' (bf p x y d L :: R) := by
  obtain ⟨m, E, hB, hM⟩ := bf_open hM
  exact (size_bo hM hB hL).mono fun e w' ⟨h1, h2⟩ => ⟨h1, bf_mk h2 hB⟩
theorem ivals_any (hM : Ms w0 w (bf p x y d L :: R)) (hL : L.length ≤ 1000000) : Calls Tryz.prog 68 #[.pointer (some ⟨p, 0, none⟩)] w fun e w' => ∃ v, e = .returned v ∧ Ms w0 w' (row 3 1 v (ivs L).length ((ivs L).map encZ) :: bf p x y d L :: R) := by
  obtain ⟨m, E, hB, hM⟩ := bf_open hM
  refine (ivals_bo hM hB hL).mono fun e w' ⟨v, h1, h2⟩ => ⟨v, h1, ?_⟩
  have h3 : Ms w0 w' (bfo p m x y d L E ++ (row 3 1 v (ivs L).length ((ivs L).map encZ) :: R)) := h2.perm (List.perm_middle (l₁ := bfo p m x y d L E) (l₂ := R)).symm
  exact (bf_mk h3 hB).up 1 rfl
theorem btake_any (hM : Ms w0 w (bf p x y d L :: R)) (hL : L.length ≤ 10000) : Calls Tryz.prog 93 #[.pointer (some ⟨p, 0, none⟩), .int .i64 i] w fun e w' => ∃ v, e = .returned v ∧ Ms w0 w' (row 9 1 v (ofI i L).length ((ofI i L).map Value.string) :: bf p x y d (notI i L) :: R) := by
  obtain ⟨m, E, hB, hM⟩ := bf_open hM
  by_cases hi : i ∈ E.map (·.1)
  · obtain ⟨E1, c, E2, rfl⟩ := key_at hi
    obtain ⟨hB2, hne⟩ := bu_take hB
    refine (take_in (chs_fwd hM) (look_in hB.keys) (Nat.le_trans (ofI_le i L) hL)).mono fun e w' ⟨v, h1, h2⟩ => ⟨v, h1, ?_⟩
    have e1 : mdel ((E1 ++ (i, c) :: E2).map mv) i = (E1 ++ E2).map mv := by
      unfold mdel
      rw [List.map_append, List.map_cons, List.filter_append, List.filter_cons_of_neg (by simp [mv]), ← List.filter_append, ← List.map_append]
      refine List.filter_eq_self.2 fun z hz => ?_
      obtain ⟨e, he, rfl⟩ := List.mem_map.1 hz
      show (!decide (e.1 = i)) = true
      rw [decide_eq_false (hne e he)]; rfl
    have e2 : chs x L E1 ++ chs x L E2 = chs x (notI i L) (E1 ++ E2) := by
      rw [← chs_app]
      exact (chs_same fun e he => by rw [ofI_notI, if_neg (hne e he)]).symm
    rw [e1, e2] at h2
    have h3 : Ms w0 w' (bfo p m x y d (notI i L) (E1 ++ E2) ++ (row 9 1 v (ofI i L).length ((ofI i L).map Value.string) :: R)) := h2.perm (List.perm_middle (l₁ := bfo p m x y d (notI i L) (E1 ++ E2)) (l₂ := R)).symm
    exact (bf_mk h3 hB2).up 1 rfl
  · rw [bu_none hB hi, notI_none hB hi]
    refine (take_out hM (look_out hi)).mono fun e w' ⟨v, h1, h2⟩ => ⟨v, h1, ?_⟩
    rw [mdel_none (by rw [List.map_map]; exact hi)] at h2
    have h3 : Ms w0 w' (bfo p m x y d L E ++ (row 9 1 v 0 [] :: R)) := h2.perm (List.perm_middle (l₁ := bfo p m x y d L E) (l₂ := R)).symm
    exact (bf_mk h3 hB).up 1 rfl
theorem bput_any (hM : Ms w0 w (bf p x y d L :: R)) (hx : 1 ≤ x) (hx2 : x ≤ 1000) (hi : i ≤ 9223372036854775807) (hd : 0 ≤ d) (hd2 : d < 1000000) : Calls Tryz.prog 63 #[.pointer (some ⟨p, 0, none⟩), .int .i64 i, .string s] w fun e w' => e = .returned (.int .i64 (bpE x y i s L)) ∧ Ms w0 w' (bf p x y (bpD x y i s L d) (bpL x y i s L) :: R) := by
  obtain ⟨m, E, hB, hM⟩ := bf_open hM
  have hdd : Shut (IntKind.i64.wrap (d + 1) = d + 1) := ⟨wrap_id _ (by omega) (by omega)⟩
  by_cases h1 : i < 1
  · have e : bpE x y i s L = 1 := by unfold bpE; rw [if_pos h1]
    simp only [bpD, bpL, e]
    exact (put_low hM h1).mono fun e w' ⟨h2, h3⟩ => ⟨h2, bf_mk h3 hB⟩
  have hik : 1 ≤ i := by omega
  by_cases hk : i ∈ E.map (·.1)
  · obtain ⟨E1, c, E2, rfl⟩ := key_at hk
    have hl := look_in hB.keys
    by_cases h2 : hasT i s L = true
    · have e : bpE x y i s L = 11 := by unfold bpE; rw [if_neg h1, if_pos h2]
      simp only [bpD, bpL, e]
      exact (put_twice (chs_fwd hM) h1 hl (hB.full i) hx2 (by rw [isin_ofI]; exact h2)).mono fun e w' ⟨h2, h3⟩ => ⟨h2, bf_mk (chs_bwd h3) hB⟩
    have h2f : isin s (ofI i L) = false := by rw [isin_ofI]; simpa using h2
    have hne : (ofI i L).length ≠ 0 := fun h0 => ofI_nil.1 (List.eq_nil_of_length_eq_zero h0) ((hB.dom i).1 hk)
    by_cases h3 : x ≤ (ofI i L).length
    · have e : bpE x y i s L = 4 := by unfold bpE; rw [if_neg h1, if_neg h2, if_pos (.inl (by omega))]
      simp only [bpD, bpL, e]
      exact (put_full (chs_fwd hM) h1 hl (hB.full i) hx2 h2f h3 hdd).mono fun e w' ⟨h2, h3⟩ => ⟨h2, bf_mk (chs_bwd h3) hB⟩
    · have e : bpE x y i s L = 0 := by unfold bpE; rw [if_neg h1, if_neg h2, if_neg (by omega)]
      simp only [bpD, bpL, e]
      refine (put_room (chs_fwd hM) h1 hl (hB.full i) hx2 h2f (by omega)).mono fun e w' ⟨h4, h5⟩ => ⟨h4, ?_⟩
      have hne2 : ∀ e ∈ E1 ++ E2, e.1 ≠ i := (bu_take hB).2
      have e1 : chs x (L ++ [(i, s)]) E1 = chs x L E1 := chs_same fun e he => by rw [ofI_snoc, if_neg (Ne.symm (hne2 e (List.mem_append_left _ he))), List.append_nil]
      have e2 : chs x (L ++ [(i, s)]) E2 = chs x L E2 := chs_same fun e he => by rw [ofI_snoc, if_neg (Ne.symm (hne2 e (List.mem_append_right _ he))), List.append_nil]
      have e3 : (ofI i (L ++ [(i, s)])).map Value.string = (ofI i L).map Value.string ++ [.string s] := by rw [ofI_snoc, if_pos rfl, List.map_append]; rfl
      rw [← e1, ← e2, ← e3] at h5
      exact bf_mk (chs_bwd h5) (bu_add hB hk hik hi (by omega))
  · have h2 : hasT i s L = false := hasT_none hB hk
    have hof := bu_none hB hk
    have hlen : (E.map mv).length = (ivs L).length := by have := keys_length hB.keys hB.dom; rw [List.length_map] at this ⊢; exact this
    by_cases h3 : (((E.map mv).length : Nat) : Int) < y
    · have e : bpE x y i s L = 0 := by unfold bpE; rw [if_neg h1, if_neg (by rw [h2]; decide), if_neg (by rw [hof, ← hlen]; simp only [List.length_nil]; omega)]
      simp only [bpD, bpL, e]
      refine (put_new hM h1 (look_out hk) h3 hx hx2).mono fun e w' ⟨c, h4, h5⟩ => ⟨h4, ?_⟩
      have e1 : chs x (L ++ [(i, s)]) E = chs x L E := chs_same fun e he => by rw [ofI_snoc, if_neg (fun e4 => hk (List.mem_map.2 ⟨e, he, e4.symm⟩)), List.append_nil]
      have e3 : (ofI i (L ++ [(i, s)])).map Value.string = [] ++ [.string s] := by rw [ofI_snoc, if_pos rfl, hof]; rfl
      have e4 : (E ++ [(i, c)]).map mv = E.map mv ++ [(i, .chan (some c))] := by rw [List.map_append]; rfl
      have h6 : Ms w0 w' (blk p [.int .i64 ((x : Nat) : Int), .int .i64 y, .map (some m), .int .i64 d] 130 :: mp kI m (E.map mv ++ [(i, .chan (some c))]) :: ch c x ([] ++ [.string s]) :: ((chs x L E ++ chs x L []) ++ R)) := by
        rw [show chs x L E ++ chs x L [] = chs x L E from List.append_nil _]; exact h5
      rw [← e1, ← e3, ← e4, show chs x L [] = chs x (L ++ [(i, s)]) [] from rfl] at h6
      exact bf_mk (chs_bwd h6) (bu_new hB hk hik hi hx)
    · have e : bpE x y i s L = 4 := by unfold bpE; rw [if_neg h1, if_neg (by rw [h2]; decide), if_pos (.inr ⟨by rw [hof]; rfl, by rw [← hlen]; omega⟩)]
      simp only [bpD, bpL, e]
      exact (bput_none hM h1 (look_out hk) h3 hdd).mono fun e w' ⟨h2, h3⟩ => ⟨h2, bf_mk h3 hB⟩
end
end Go.Proofs.YtcclcemdodoiiaaGreatDoor
namespace Go.Proofs.YtcclcemdodoiiaaGreatDoor
set_option maxRecDepth 10000
open Go Go.RowKit
set_option linter.unusedVariables false
set_option linter.unusedSimpArgs false

/-- The slice at g of n elements holds the cells xs. -/
def sl (e size g cap n : Nat) (xs : List Value) : HP :=
  ex fun cs : List Value => [pu (xs.length = n * size ∧ n ≤ cap ∧ cap ≤ maxLen ∧ cap * size ≤ cs.length ∧ cs.take (n * size) = xs), blk g cs e]
section
variable {w0 w : World} {R : List HP} {e size g cap n : Nat} {v : Value} {xs : List Value}
theorem row_sl (h : Ms w0 w (row e size v n xs :: R)) (hn : 0 < n) : ∃ g cap, v = .slice (some ⟨g, 0, none⟩) n cap ∧ Ms w0 w (sl e size g cap n xs :: R) := by
  obtain ⟨g, cap, cs, rfl, h1, h2, h3, h4, h5, h6⟩ := row_at h hn
  exact ⟨g, cap, rfl, Ms.shut cs (Ms.mkpu ⟨h2, h3, h4, h5, h6⟩ h1)⟩
theorem sl_row (h : Ms w0 w (sl e size g cap n xs :: R)) : Ms w0 w (row e size (.slice (some ⟨g, 0, none⟩) n cap) n xs :: R) := by
  obtain ⟨cs, h⟩ := h.opn
  obtain ⟨⟨h1, h2, h3, h4, h5⟩, h6⟩ := h.unpu
  exact row_mk h6 h1 h2 h3 h4 h5
theorem sl_cell (h : Ms w0 w (sl e size g cap n xs :: R)) (j : Nat) (u : Value) (hj : xs[j]? = some u) : w.cell? ⟨g, j, none⟩ = some u := by
  obtain ⟨cs, h⟩ := h.opn
  obtain ⟨⟨h1, h2, h3, h4, h5⟩, h6⟩ := h.unpu
  have h6 : Ms w0 w (blk g cs e :: R) := h6
  refine (h6.get 0 rfl).cell j u ?_
  rw [← h5, List.getElem?_take] at hj
  split at hj
  · exact hj
  · cases hj
theorem strs_at {ts : List ByteArray} {j : Nat} {t : ByteArray} (h : ts[j]? = some t) : (ts.map Value.string)[j]? = some (.string t) := by rw [List.getElem?_map, h]; rfl
end
/-- Slots whose values are no matter. -/
def tls (l : List Value) (n : Nat) : Value := l.getD n undef
theorem to_row {w0 w : World} {R : List HP} {f : FuncId} {args : Array Value} {e size n : Nat} {xs : List Value} (h : Calls Tryz.prog f args w (fun a w' => ∃ v, a = .returned v ∧ Ms w0 w' (row e size v n xs :: R))) :
    Calls Tryz.prog f args w (fun a w' => ∃ (o : Option Addr) (k : Nat), a = .returned (.slice o n k) ∧ Ms w0 w' (row e size (.slice o n k) n xs :: R)) :=
  h.mono fun a w' ⟨v, h1, h2⟩ => by
    obtain ⟨o, k, rfl, _⟩ := row_slice h2
    exact ⟨o, k, h1, h2⟩
end Go.Proofs.YtcclcemdodoiiaaGreatDoor
