/- What Intervals answers: those that have some, rising. -/
import Derived.Test.YtpkjocibgmjhdaaShelf
import Derived.Test.YtpkjocibgmjhdaaBf7
import Derived.WideKeyElems
namespace Go.Proofs.Ytpkjocibgmjhdaa
set_option maxRecDepth 10000
open Go Go.RowKit
set_option linter.unusedVariables false
set_option linter.unusedSimpArgs false

theorem keys_any (m : Nat) (w : World) : Calls Try.prog 30 #[.map (some m)] w fun e w' => e = .returned (.func (.func 33) #[] #[.pointer (some ⟨w.heap.size, 0, none⟩)]) ∧ w' = w.alloc (.cells #[.map (some m)] 58) :=
  (callsIn_wide (n := 5)).1 (AnyZI.keys_in Try.keysA Fence.wide 5 trivial rfl (some m) w)
theorem sort_any (n : Nat) : AnyZI.SortsIn Try.prog Try.sortedA_ren Fence.wide n :=
  ⟨fun blk off cap ss W hH hblk hsz => callsIn_wide.2 (AnyM.slices_Sort_int Try.sortA blk off cap ss W hH hblk hsz), fun p cap W => callsIn_wide.2 (AnyM.slices_Sort_int_none Try.sortA p cap W)⟩
theorem sorted_any (m nn : Nat) (D : DataW Unit) (T : Value → Option (DataW Unit × List MemPlace)) (w : World) (hown : w.ownsMap Try.prog 3 T m nn D) (h1 : Maps.size D ≤ 1000000) :
    Calls Try.prog 29 #[.func (.func 33) #[] #[.pointer (some ⟨w.heap.size, 0, none⟩)]] (w.alloc (.cells #[.map (some m)] 58)) fun e w' => ∃ (v : Value) (ss : List Int), e = .returned v ∧ ss.Perm (intKeys D) ∧
      w'.ownsRow (w.alloc (.cells #[.map (some m)] 58)).heap.size 3 1 v ss.length ((ss.mergeSort (fun x y => decide (x ≤ y))).map encZ) ∧ (v = .slice none 0 0 ↔ ss = []) ∧ Below (w.alloc (.cells #[.map (some m)] 58)).heap.size (w.alloc (.cells #[.map (some m)] 58)) w' := by
  have hseq := AnyZI.keys_gives (ρ := Try.keysA_ren) { Try.keysA with } Fence.wide 2 trivial rfl (by omega) w.heap.size m nn D (w.alloc (.cells #[.map (some m)] 58)) (by simp) (by simp) (hown.alloc _)
  exact (callsIn_wide (n := 5)).1 (AnyZI.sorted_in Try.sortedA Fence.wide 5 trivial trivial trivial trivial rfl (by omega) (sort_any _) (enters_of Try.func32 (by kernel_rfl) rfl) 33 #[.pointer (some ⟨w.heap.size, 0, none⟩)] trivial (enters_of Try.func33 (by kernel_rfl) rfl) _ _ (by unfold maxLen; omega) (by omega) _ hseq)
/-- Every value reads as one and the same. -/
def anyV (v : Value) : Option (DataW Unit × List MemPlace) := some (.lit (.bool true), [])
theorem wf_of {i : Int} (h1 : -9223372036854775808 ≤ i) (h2 : i ≤ 9223372036854775807) : (Lit.int .i64 i).wf = true := by
  simp [Lit.wf, IntKind.min, IntKind.max, IntKind.signed, IntKind.bits]; omega
theorem owns_mp {w0 w : World} {R : List HP} {m : Nat} {es : List (Int × Value)} (h : Ms w0 w (mp kI m es :: R)) (hl : es.length ≤ 1000000) (hk : ∀ z ∈ es, (Lit.int .i64 z.1).wf = true) :
    ∃ D : DataW Unit, w.ownsMap Try.prog 3 anyV m es.length D ∧ Maps.size D ≤ 1000000 ∧ (intKeys D).Perm (es.map (·.1)) := by
  obtain ⟨A, clock, hb, hm⟩ := mp_get h
  have hlen : A.size = es.length := by simpa using congrArg List.length hm.kv
  have hrd : ∀ x ∈ A.toList, ∃ i : Int, x.key = .int .i64 i ∧ WideElems.rd Try.prog 3 anyV x = some (.int .i64 i, .lit (.bool true)) := fun x hx => by
    obtain ⟨z, hz, h1⟩ : ∃ z ∈ es, pkv kI z = ekv x := List.mem_map.1 (by rw [← hm.kv]; exact List.mem_map.2 ⟨x, hx, rfl⟩)
    have h2 : x.key = .int .i64 z.1 := (congrArg Prod.fst h1).symm
    have h3 := Maps.keyOf_int_mk Try.underlying3 (hk z hz)
    refine ⟨z.1, h2, ?_⟩
    simp [WideElems.rd, h2, h3, anyV]
  have hF : WideElems.Fit Try.prog 3 anyV A clock := ⟨by unfold maxLen; omega, ⟨hm.old, hm.born, hm.key keyI⟩, fun x hx => by obtain ⟨i, _, h1⟩ := hrd x hx; exact ⟨_, h1⟩⟩
  have hperm := WideShapes.sorted_perm (A.toList.map (WideElems.rg Try.prog 3 anyV))
  refine ⟨_, ⟨A, clock, hb, hF, by omega, rfl⟩, ?_, ?_⟩
  · show ((A.toList.map (WideElems.rg Try.prog 3 anyV)).foldr DataW.insert []).length ≤ 1000000
    rw [hperm.length_eq]; simp; omega
  · show (((A.toList.map (WideElems.rg Try.prog 3 anyV)).foldr DataW.insert []).map (fun p => Go.intOf p.1)).Perm _
    refine (hperm.map _).trans ?_
    rw [List.map_map]
    have h1 : A.toList.map ((fun p : Lit × DataW Unit => Go.intOf p.1) ∘ WideElems.rg Try.prog 3 anyV) = es.map (·.1) := by
      have h2 : A.toList.map (fun x => match x.key with | .int _ i => i | _ => 0) = es.map (·.1) := by
        have := congrArg (List.map (fun q : Value × Value => match q.1 with | .int _ i => i | _ => 0)) hm.kv
        rw [List.map_map, List.map_map] at this
        exact this
      rw [← h2]
      refine List.map_congr_left fun x hx => ?_
      obtain ⟨i, h3, h4⟩ := hrd x hx
      simp only [Function.comp]
      rw [WideElems.rg_of h4, h3]; rfl
    rw [h1]
theorem row_owned {w0 w w' : World} {R : List HP} {e n : Nat} {v : Value} {xs : List Value} (h : Ms w0 w R) (hb : Below w.heap.size w w') (ho : w'.ownsRow w.heap.size e 1 v n xs) : Ms w0 w' (row e 1 v n xs :: R) := by
  obtain ⟨hl, ⟨rfl, rfl⟩ | ⟨g, cap, cur, rfl, h1, h2, h3, h4, h5, h6⟩⟩ := ho
  · obtain rfl : xs = [] := List.eq_nil_of_length_eq_zero (by simpa using hl)
    exact row_nil (h.call hb)
  · exact row_mk (h.fresh hb h1 (cs := cur.toList) h2) hl h3 h4 (by rw [Array.length_toList, h5]; exact Nat.le_refl _) h6
theorem keys_ms {w0 w : World} {R : List HP} {m : Nat} (hM : Ms w0 w R) : Calls Try.prog 30 #[.map (some m)] w fun e w' => ∃ k, e = .returned (.func (.func 33) #[] #[.pointer (some ⟨k, 0, none⟩)]) ∧ (Ms w0 w' R ∧ k = w.heap.size ∧ w' = w.alloc (.cells #[.map (some m)] 58)) :=
  (keys_any m w).mono fun e w' ⟨h1, h2⟩ => ⟨_, h1, by subst h2; exact hM.call ((Below.refl _ _).alloc (Nat.le_refl _) _), rfl, h2⟩
set_option maxHeartbeats 4000000 in
theorem ivals_bo {w0 w : World} {R : List HP} {p m x : Nat} {y d : Int} {L : List Thg} {E : List (Int × Nat)} (hM : Ms w0 w (blk (p) ([.int .i64 (((x : Nat) : Int)), .int .i64 (y), .map (some m), .int .i64 (d)]) 60 :: mp kI m (E.map mv) :: (chs x L E ++ R))) (hB : Bu x E L) (hL : L.length ≤ 1000000) : Calls Try.prog 21 #[.pointer (some ⟨p, 0, none⟩)] w fun e w' => ∃ v, e = .returned v ∧ Ms w0 w' (row 3 1 v (ivs L).length ((ivs L).map encZ) :: blk (p) ([.int .i64 (((x : Nat) : Int)), .int .i64 (y), .map (some m), .int .i64 (d)]) 60 :: mp kI m (E.map mv) :: (chs x L E ++ R)) := by
  have hkeys : ((E.map mv).map (·.1)).Nodup := by rw [List.map_map]; exact hB.keys
  have hEl : (E.map mv).length ≤ 1000000 := by
    have h1 := keys_length (L := L) hB.keys hB.dom
    have h2 : (ivs L).length ≤ L.length := ivs_le L
    rw [List.length_map] at h1 ⊢; omega
  have hwf : ∀ z ∈ E.map mv, (Lit.int .i64 z.1).wf = true := fun z hz => by
    obtain ⟨e, he, rfl⟩ := List.mem_map.1 hz
    obtain ⟨t, ht, h1⟩ := (hB.dom e.1).1 (List.mem_map.2 ⟨e, he, rfl⟩)
    have h2 := hB.low t ht
    have h3 : (mv e).1 = t.1 := h1.symm
    rw [h3]
    exact wf_of (by omega) h2.2
  obtain ⟨D, hown, hsz, hperm⟩ := owns_mp (hM.up 1 rfl) hEl hwf
  go_enter Try.func21, Try.ntmps21
  refine wp_seq_k (fun K1 hK1 => ?_)
  refine wl_region ?_
  refine wl_give rfl (g_assign _ (.slice none (0) (0)) rfl ?_)
  (try simp only [Act.put, List.setIfInBounds_toArray, List.set_cons_zero, List.set_cons_succ])
  refine wl_nil ?_
  refine hK1 _ _ ?_
  clear hK1 K1
  refine wp_seq_k (fun K2 hK2 => ?_)
  refine wl_region ?_
  refine wl_give rfl (g_move _ (.pointer (some ⟨p, 0, none⟩)) rfl ?_)
  (try simp only [Act.put, List.setIfInBounds_toArray, List.set_cons_zero, List.set_cons_succ])
  refine wl_give rfl (g_nil _ ⟨p, 0, none⟩ rfl ?_)
  (try simp only [Act.put, List.setIfInBounds_toArray, List.set_cons_zero, List.set_cons_succ])
  refine wl_give rfl (g_fa 60 _ (p) (0) (2) 2 rfl (fa60_2 _ _ _) ?_)
  (try simp only [Act.put, List.setIfInBounds_toArray, List.set_cons_zero, List.set_cons_succ])
  refine wl_give rfl (g_ld1 58 _ (p) 2 _ rfl (ld58 _ _ _ _ ((hM.get 0 rfl).cell 2 _ rfl)) ?_)
  (try simp only [Act.put, List.setIfInBounds_toArray, List.set_cons_zero, List.set_cons_succ])
  refine wl_give rfl (g_call 30 _ _ [.map (some m)] (kf30 _ _) rfl ((keys_any m w).mono ?_))
  rintro e w1 ⟨rfl, rfl⟩
  refine ⟨_, rfl, ?_⟩
  (try simp only [Act.put, List.setIfInBounds_toArray, List.set_cons_zero, List.set_cons_succ])
  refine wl_give rfl (g_call 29 _ _ [.func (.func 33) #[] #[.pointer (some ⟨w.heap.size, 0, none⟩)]] (kf29 _ _) rfl ((sorted_any m _ D anyV w hown hsz).mono ?_))
  rintro e w2 ⟨v, ss, rfl, hp, hrow, _, hb⟩
  refine ⟨_, rfl, ?_⟩
  (try simp only [Act.put, List.setIfInBounds_toArray, List.set_cons_zero, List.set_cons_succ])
  have hM1 : Ms w0 (w.alloc (.cells #[.map (some m)] 58)) ((blk (p) ([.int .i64 (((x : Nat) : Int)), .int .i64 (y), .map (some m), .int .i64 (d)]) 60 :: mp kI m (E.map mv) :: (chs x L E ++ R))) := hM.call ((Below.refl _ _).alloc (Nat.le_refl _) _)
  have h9 := row_owned hM1 hb hrow
  clear hM hM1 hb hrow
  have hss : (ss.mergeSort (fun x y => decide (x ≤ y))) = ivs L := sorted_keys (hp.trans hperm |>.nodup_iff.2 hkeys) (fun i => by rw [(hp.trans hperm).mem_iff, List.map_map]; exact hB.dom i)
  have hsl : ss.length = (ivs L).length := by rw [← hss, List.length_mergeSort]
  rw [hss, hsl] at h9
  refine wl_give rfl (g_assign _ (v) rfl ?_)
  (try simp only [Act.put, List.setIfInBounds_toArray, List.set_cons_zero, List.set_cons_succ])
  refine wl_nil ?_
  refine hK2 _ _ ?_
  clear hK2 K2
  refine wp_ret ?_
  go_ret
  exact ⟨_, rfl, h9⟩
end Go.Proofs.Ytpkjocibgmjhdaa
