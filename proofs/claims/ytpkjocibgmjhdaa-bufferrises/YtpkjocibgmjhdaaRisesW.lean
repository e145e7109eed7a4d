/- Intervals that have something rise, and are just those of what was put and wasn't taken. -/
import Derived.Test.YtpkjocibgmjhdaaLawC
namespace Go.Proofs.Ytpkjocibgmjhdaa.bufferRises
set_option maxRecDepth 10000
open Go Go.RowKit
set_option linter.unusedVariables false
set_option linter.unusedSimpArgs false

theorem bf_full {w0 w : World} {R : List HP} {p x : Nat} {y d : Int} {L : List Thg} (h : Ms w0 w (bf p x y d L :: R)) (i : Int) : (ofI i L).length ≤ x := by
  obtain ⟨m, E, hB, _⟩ := bf_open h
  exact hB.full i
/-- The map's keys are the intervals that have some: one each. -/
structure Rs (S : List (Int × Value)) (L : List Thg) (j : Nat) : Prop where
  dom : ∀ k, k ∈ S.map (·.1) ↔ ∃ t ∈ L, t.1 = k
  vals : ∀ z ∈ S, z.2 = .bool true
  len : L.length = S.length
  le : L.length ≤ j
theorem rs_nil : Rs [] [] 0 := ⟨fun k => by simp, (fun z hz => by cases hz), rfl, Nat.le_refl _⟩
section
variable {S : List (Int × Value)} {L : List Thg} {j : Nat} {k : Int}
theorem rs_look (h : Rs S L j) (hk : k ∈ S.map (·.1)) : mlook S k = some (.bool true) := by
  cases hl : mlook S k with
  | none => exact absurd hk (mlook_out hl)
  | some v =>
    unfold mlook at hl
    obtain ⟨z, hz, rfl⟩ := Option.map_eq_some_iff.1 hl
    rw [h.vals z (List.mem_of_find?_eq_some hz)]
theorem rs_free (h : Rs S L j) (hk : k ∉ S.map (·.1)) : ofI k L = [] := ofI_nil.2 fun h1 => hk ((h.dom k).2 h1)
theorem rs_put (h : Rs S L j) (hk : k ∉ S.map (·.1)) (h1 : 1 ≤ k) (hj : j < 64) (s : ByteArray) : bpE ((1 : Nat) : Int) 64 k s L = 0 := by
  have h2 : hasT k s L = false := by rw [← isin_ofI, rs_free h hk]; rfl
  have h3 := ivs_le L
  have h4 := h.le
  unfold bpE
  rw [if_neg (by omega), h2, if_neg (by decide), if_neg (by rw [rs_free h hk]; simp; omega)]
theorem rs_add (h : Rs S L j) (hk : k ∉ S.map (·.1)) (s : ByteArray) : Rs (mput S k (.bool true)) (L ++ [(k, s)]) (j + 1) := by
  rw [mput_new hk]
  refine ⟨fun q => ?_, fun z hz => ?_, by simp [h.len], by have := h.le; simp; omega⟩
  · rw [List.map_append, List.mem_append, h.dom q]
    constructor
    · rintro (⟨t, h1, h2⟩ | h1)
      · exact ⟨t, List.mem_append_left _ h1, h2⟩
      · exact ⟨(k, s), List.mem_append_right _ (by simp), (by simpa using h1 : q = k).symm⟩
    · rintro ⟨t, h1, rfl⟩
      rcases List.mem_append.1 h1 with h1 | h1
      · exact .inl ⟨t, h1, rfl⟩
      · obtain rfl := List.mem_singleton.1 h1
        exact .inr (by simp)
  · rcases List.mem_append.1 hz with h1 | h1
    · exact h.vals z h1
    · obtain rfl := List.mem_singleton.1 h1
      rfl
theorem rs_del (h : Rs S L j) (hn : (S.map (·.1)).Nodup) (hk : k ∈ S.map (·.1)) (h1 : (ofI k L).length ≤ 1) : Rs (mdel S k) (notI k L) (j + 1) := by
  have hone : (ofI k L).length = 1 := by
    have : ofI k L ≠ [] := fun e => ofI_nil.1 e ((h.dom k).1 hk)
    have := List.length_pos_iff.2 this
    omega
  have hl := notI_length k L
  obtain ⟨z0, hz, rfl⟩ := List.mem_map.1 hk
  have hp := (mdel_perm hn hz).length_eq
  rw [List.length_map, List.length_cons, List.length_map] at hp
  have hlen := h.len
  refine ⟨fun q' => ?_, fun z hz => h.vals z (mdel_sub z hz), by omega, by have := h.le; omega⟩
  have hd := h.dom q'
  unfold mdel notI
  constructor
  · intro h2
    obtain ⟨z, h3, rfl⟩ := List.mem_map.1 h2
    obtain ⟨h4, h5⟩ := List.mem_filter.1 h3
    obtain ⟨t, h6, h7⟩ := hd.1 (List.mem_map.2 ⟨z, h4, rfl⟩)
    exact ⟨t, List.mem_filter.2 ⟨h6, by rw [h7]; exact h5⟩, h7⟩
  · rintro ⟨t, h2, rfl⟩
    obtain ⟨h3, h4⟩ := List.mem_filter.1 h2
    obtain ⟨z, h5, h6⟩ := List.mem_map.1 (hd.2 ⟨t, h3, rfl⟩)
    exact List.mem_map.2 ⟨z, List.mem_filter.2 ⟨h5, by rw [h6]; exact h4⟩, h6⟩
theorem rs_ivs (h : Rs S L j) (hn : (S.map (·.1)).Nodup) : (ivs L).length = S.length := by
  have := keys_length hn h.dom
  rw [List.length_map] at this; exact this.symm
theorem rs_mem (h : Rs S L j) {i : Nat} {q : Int} (hi : (ivs L)[i]? = some q) : mlook S q = some (.bool true) := rs_look h ((h.dom q).2 (mem_ivs.1 (List.mem_of_getElem? hi)))
end
theorem rises_at {l : List Int} (h : l.Pairwise (· < ·)) {i : Nat} {p q : Int} (hp : l[i]? = some p) (hq : l[i + 1]? = some q) : p < q := by
  obtain ⟨h1, h2⟩ := List.getElem?_eq_some_iff.1 hp
  obtain ⟨h3, h4⟩ := List.getElem?_eq_some_iff.1 hq
  rw [← h2, ← h4]
  exact List.pairwise_iff_getElem.1 h i (i + 1) h1 h3 (by omega)
theorem encs_at {l : List Int} {j : Nat} {t : Int} (h : l[j]? = some t) : (l.map encZ)[j]? = some (.int .i64 t) := by rw [List.getElem?_map, h]; rfl
set_option maxHeartbeats 4000000 in
theorem walk (ao : Option Addr) (n cap : Nat) (w : World) (hl : LV OkU w ao n) (hn : n ≤ cap) (hcap : cap ≤ maxLen) : Calls Try.prog 9 #[.slice ao n cap] w fun e w' => e = .returned (.bool true) ∧ Below w.heap.size w w' := by
  have hM := Ms.refl w
  have hmx : maxLen ≤ 9223372036854775807 := by decide
  go_enter Try.func9, Try.ntmps9
  refine wp_seq_k (fun K1 hK1 => ?_)
  refine wl_region ?_
  refine wl_give rfl (g_assign _ (.bool false) rfl ?_)
  (try simp only [Act.put, List.setIfInBounds_toArray, List.set_cons_zero, List.set_cons_succ])
  refine wl_nil ?_
  refine hK1 _ _ ?_
  (try clear hK1 K1)
  refine wp_seq_k (fun K2 hK2 => ?_)
  refine wp_seq_k (fun K3 hK3 => ?_)
  refine wl_region ?_
  refine wl_give rfl (g_call 10 _ _ [] (kf10 _ _) rfl ((awake_any w).mono ?_))
  rintro e w4 ⟨rfl, t_⟩
  refine ⟨_, rfl, ?_⟩
  replace hM := hM.call t_
  clear t_
  (try simp only [Act.put, List.setIfInBounds_toArray, List.set_cons_zero, List.set_cons_succ])
  refine wl_give rfl (g_unot 4 _ true rfl ?_)
  (try simp only [Act.put, List.setIfInBounds_toArray, List.set_cons_zero, List.set_cons_succ])
  refine wl_nil ?_
  refine hK3 _ _ ?_
  (try clear hK3 K3)
  refine wp_cond_false rfl ?_
  refine wp_skip ?_
  refine hK2 _ _ ?_
  (try clear hK2 K2)
  refine wp_seq_k (fun K5 hK5 => ?_)
  refine wl_region ?_
  refine wl_give rfl (g_call 11 _ _ [.int .i64 (1), .int .i64 (64)] (kf11 _ _) rfl ((new_any (1) (64) hM (by decide) (by decide) (by decide) (by decide)).mono ?_))
  rintro e w6 ⟨p7, rfl, h_⟩
  refine ⟨_, rfl, ?_⟩
  replace hM : Ms w w6 [bf p7 (1) (64) (0) ([])] := h_
  clear h_
  (try simp only [Act.put, List.setIfInBounds_toArray, List.set_cons_zero, List.set_cons_succ])
  refine wl_give rfl (g_move _ (.tuple #[.pointer (some ⟨p7, 0, none⟩), .int .i64 (0)]) rfl ?_)
  (try simp only [Act.put, List.setIfInBounds_toArray, List.set_cons_zero, List.set_cons_succ])
  refine wl_give rfl (g_extract _ #[.pointer (some ⟨p7, 0, none⟩), .int .i64 (0)] 0 (.pointer (some ⟨p7, 0, none⟩)) rfl rfl ?_)
  (try simp only [Act.put, List.setIfInBounds_toArray, List.set_cons_zero, List.set_cons_succ])
  refine wl_give rfl (g_extract _ #[.pointer (some ⟨p7, 0, none⟩), .int .i64 (0)] 1 (.int .i64 (0)) rfl rfl ?_)
  (try simp only [Act.put, List.setIfInBounds_toArray, List.set_cons_zero, List.set_cons_succ])
  refine wl_give rfl (g_assign _ (.pointer (some ⟨p7, 0, none⟩)) rfl ?_)
  (try simp only [Act.put, List.setIfInBounds_toArray, List.set_cons_zero, List.set_cons_succ])
  refine wl_give rfl (g_assign _ (.int .i64 (0)) rfl ?_)
  (try simp only [Act.put, List.setIfInBounds_toArray, List.set_cons_zero, List.set_cons_succ])
  refine wl_nil ?_
  refine hK5 _ _ ?_
  (try clear hK5 K5)
  refine wp_seq_k (fun K8 hK8 => ?_)
  refine wp_seq_k (fun K9 hK9 => ?_)
  refine wl_region ?_
  refine wl_give rfl (g_move _ (.pointer (some ⟨p7, 0, none⟩)) rfl ?_)
  (try simp only [Act.put, List.setIfInBounds_toArray, List.set_cons_zero, List.set_cons_succ])
  refine wl_give rfl (g_peq _ ((some ⟨p7, 0, none⟩)) false rfl rfl ?_)
  (try simp only [Act.put, List.setIfInBounds_toArray, List.set_cons_zero, List.set_cons_succ])
  refine wl_nil ?_
  refine hK9 _ _ ?_
  (try clear hK9 K9)
  refine wp_cond_false rfl ?_
  refine wp_skip ?_
  refine hK8 _ _ ?_
  (try clear hK8 K8)
  refine wp_seq_k (fun K10 hK10 => ?_)
  refine wl_region ?_
  refine wl_give rfl (g_mmap (enc := kI) hM ?_)
  intro w11 h_
  replace hM : Ms w w11 [mp kI (w6.heap.size) ([]), bf p7 (1) (64) (0) ([])] := h_
  clear h_
  (try simp only [Act.put, List.setIfInBounds_toArray, List.set_cons_zero, List.set_cons_succ])
  refine wl_give rfl (g_assign _ (.map (some (w6.heap.size))) rfl ?_)
  (try simp only [Act.put, List.setIfInBounds_toArray, List.set_cons_zero, List.set_cons_succ])
  refine wl_nil ?_
  refine hK10 _ _ ?_
  (try clear hK10 K10)
  refine wp_seq_k (fun K12 hK12 => ?_)
  have hcut : ∀ (j : Nat) (S : List (Int × Value)) (L : List Thg) (t7 t19 t20 t21 t22 t23 t24 t25 t26 t27 t28 t29 t30 t31 t32 t33 t34 t35 t36 t37 t38 t39 t40 t41 t42 t43 t44 t45 t46 t47 t48 : Value) (wr : World) (hI : Shut (Rs S L j)) (hj : j ≤ 64) (hiv : (ivs L).length ≤ 64) (hM : Ms w wr [bf p7 (1) (64) (0) (L), mp kI (w6.heap.size) (S)]), K12 ⟨#[.slice ao (n) (cap), undef, .bool false, .pointer (some ⟨p7, 0, none⟩), .int .i64 (0), .map (some (w6.heap.size)), .int .i64 ((j : Nat) : Int), t7, undef, undef, .bool true, .bool false, .tuple #[.pointer (some ⟨p7, 0, none⟩), .int .i64 (0)], .tuple #[.pointer (some ⟨p7, 0, none⟩), .int .i64 (0)], .pointer (some ⟨p7, 0, none⟩), .int .i64 (0), .pointer (some ⟨p7, 0, none⟩), .bool false, .map (some (w6.heap.size)), t19, t20, t21, t22, t23, t24, t25, t26, t27, t28, t29, t30, t31, t32, t33, t34, t35, t36, t37, t38, t39, t40, t41, t42, t43, t44, t45, t46, t47, t48, undef, undef, undef, undef, undef, undef, undef, undef, undef, undef, undef, undef, undef, undef, undef, undef, undef, undef, undef, undef, undef, undef, undef, undef, undef, undef, undef, undef, undef, undef, undef, undef, undef, undef, undef, undef, undef, undef, undef, undef, undef, undef, undef], []⟩ wr := by
    clear hM
    intro j S L t7 t19 t20 t21 t22 t23 t24 t25 t26 t27 t28 t29 t30 t31 t32 t33 t34 t35 t36 t37 t38 t39 t40 t41 t42 t43 t44 t45 t46 t47 t48 wr hI hj hiv hM
    refine hK12 _ _ ?_
    clear hK12 K12
    refine wp_seq_k (fun K13 hK13 => ?_)
    refine wl_region ?_
    refine wl_give rfl (g_move _ (.pointer (some ⟨p7, 0, none⟩)) rfl ?_)
    (try simp only [Act.put, List.setIfInBounds_toArray, List.set_cons_zero, List.set_cons_succ])
    refine wl_give rfl (g_call 21 _ _ [.pointer (some ⟨p7, 0, none⟩)] (kf21 _ _) rfl ((to_row (ivals_v (l := ivs (L)) hM (by have := hI.out.le; omega) rfl)).mono ?_))
    rintro e w14 ⟨o15, k16, rfl, h_⟩
    refine ⟨_, rfl, ?_⟩
    replace hM : Ms w w14 [row 3 1 (.slice o15 (ivs (L)).length k16) ((ivs (L)).length) ((ivs (L)).map encZ), bf p7 (1) (64) (0) (L), mp kI (w6.heap.size) (S)] := h_
    clear h_
    (try simp only [Act.put, List.setIfInBounds_toArray, List.set_cons_zero, List.set_cons_succ])
    refine wl_give rfl (g_assign _ (.slice o15 ((ivs (L)).length) (k16)) rfl ?_)
    (try simp only [Act.put, List.setIfInBounds_toArray, List.set_cons_zero, List.set_cons_succ])
    refine wl_nil ?_
    refine hK13 _ _ ?_
    (try clear hK13 K13)
    refine wp_seq_k (fun K17 hK17 => ?_)
    refine wp_seq_k (fun K18 hK18 => ?_)
    refine wl_region ?_
    refine wl_give rfl (g_move _ (.slice o15 ((ivs (L)).length) (k16)) rfl ?_)
    (try simp only [Act.put, List.setIfInBounds_toArray, List.set_cons_zero, List.set_cons_succ])
    refine wl_give rfl (g_len _ 39 3 (o15) ((ivs (L)).length) (k16) ((((ivs (L)).length : Nat) : Int)) Try.underlying39 rfl rfl ?_)
    (try simp only [Act.put, List.setIfInBounds_toArray, List.set_cons_zero, List.set_cons_succ])
    refine wl_give rfl (g_move _ (.int .i64 (0)) rfl ?_)
    (try simp only [Act.put, List.setIfInBounds_toArray, List.set_cons_zero, List.set_cons_succ])
    refine wl_nil ?_
    refine hK18 _ _ ?_
    (try clear hK18 K18)
    refine wp_block ?_
    have h9 := (((hM.up 2 rfl).up 2 rfl).up 2 rfl)
    refine wp_rounds (fun r a wr => ∃ (i : Nat) (t9 t54 t55 t56 t57 t58 t59 t60 t61 t62 t63 t64 t65 t66 t67 t68 t69 t70 t71 t72 t73 t74 t75 t76 t77 t78 t79 : Value), a = ⟨#[.slice ao (n) (cap), undef, .bool false, .pointer (some ⟨p7, 0, none⟩), .int .i64 (0), .map (some (w6.heap.size)), .int .i64 (((j : Nat) : Int)), t7, .slice o15 ((ivs (L)).length) (k16), t9, .bool true, .bool false, .tuple #[.pointer (some ⟨p7, 0, none⟩), .int .i64 (0)], .tuple #[.pointer (some ⟨p7, 0, none⟩), .int .i64 (0)], .pointer (some ⟨p7, 0, none⟩), .int .i64 (0), .pointer (some ⟨p7, 0, none⟩), .bool false, .map (some (w6.heap.size)), t19, t20, t21, t22, t23, t24, t25, t26, t27, t28, t29, t30, t31, t32, t33, t34, t35, t36, t37, t38, t39, t40, t41, t42, t43, t44, t45, t46, t47, t48, .pointer (some ⟨p7, 0, none⟩), .slice o15 ((ivs (L)).length) (k16), .slice o15 ((ivs (L)).length) (k16), .int .i64 ((((ivs (L)).length : Nat) : Int)), .int .i64 ((i : Nat) : Int), t54, t55, t56, t57, t58, t59, t60, t61, t62, t63, t64, t65, t66, t67, t68, t69, t70, t71, t72, t73, t74, t75, t76, t77, t78, t79, undef, undef, undef, undef, undef, undef, undef, undef, undef, undef, undef, undef], []⟩ ∧ i + r = (ivs L).length ∧ Ms w wr [row 3 1 (.slice o15 (ivs (L)).length k16) ((ivs (L)).length) ((ivs (L)).map encZ), bf p7 (1) (64) (0) (L), mp kI (w6.heap.size) (S)]) _ ⟨0, _, _, _, _, _, _, _, _, _, _, _, _, _, _, _, _, _, _, _, _, _, _, _, _, _, _, _, rfl, Nat.zero_add _, h9⟩ ?_
    clear hM h9
    rintro r a wr ⟨i, t9, t54, t55, t56, t57, t58, t59, t60, t61, t62, t63, t64, t65, t66, t67, t68, t69, t70, t71, t72, t73, t74, t75, t76, t77, t78, t79, rfl, hi, hM⟩
    by_cases hlt : ((i : Nat) : Int) < (((ivs L).length : Nat) : Int)
    · skip
      have hil : i < (ivs L).length := by omega
      obtain ⟨g, kc, hv, hM⟩ := row_sl hM (by omega)
      cases hv
      obtain ⟨u, hu⟩ : ∃ u, (ivs L)[i]? = some u := ⟨_, List.getElem?_eq_getElem hil⟩
      have hi1 : Shut (IntKind.i64.wrap (((i : Nat) : Int) + 1) = ((i + 1 : Nat) : Int)) := ⟨by rw [wrap_id _ (by omega) (by omega)]; omega⟩
      by_cases hi0 : i = 0
      · subst hi0
        refine wp_seq_k (fun K19 hK19 => ?_)
        refine wl_region ?_
        refine wl_give rfl (g_ilss 3 _ _ .i64 (((0 : Nat) : Int)) ((((ivs (L)).length : Nat) : Int)) true rfl rfl (decide_eq_true hlt) ?_)
        (try simp only [Act.put, List.setIfInBounds_toArray, List.set_cons_zero, List.set_cons_succ])
        refine wl_nil ?_
        refine hK19 _ _ ?_
        (try clear hK19 K19)
        refine wp_seq_k (fun K20 hK20 => ?_)
        refine wp_cond_true rfl ?_
        refine wp_skip ?_
        refine hK20 _ _ ?_
        (try clear hK20 K20)
        refine wp_seq_k (fun K21 hK21 => ?_)
        refine wp_block ?_
        refine wp_seq_k (fun K22 hK22 => ?_)
        refine wl_region ?_
        refine wl_give rfl (g_move _ (.int .i64 (((0 : Nat) : Int))) rfl ?_)
        (try simp only [Act.put, List.setIfInBounds_toArray, List.set_cons_zero, List.set_cons_succ])
        refine wl_give rfl (g_assign _ (.int .i64 (((0 : Nat) : Int))) rfl ?_)
        (try simp only [Act.put, List.setIfInBounds_toArray, List.set_cons_zero, List.set_cons_succ])
        refine wl_nil ?_
        refine hK22 _ _ ?_
        (try clear hK22 K22)
        refine wp_seq_k (fun K23 hK23 => ?_)
        refine wp_region_fixed (by kernel_rfl) (by kernel_rfl) [.int .i64 (((0 : Nat) : Int)), .bool false, .bool false, undef, undef, undef, undef, undef, undef, undef, undef, undef, undef, .bool false, .bool false, .map (some (w6.heap.size)), .slice (some ⟨g, 0, none⟩) ((ivs L).length) (k16), .int .i64 (((0 : Nat) : Int)), .pointer (some ⟨g, 0 + 0 * 1, none⟩), .int .i64 (u), .bool true, .bool false, .bool false] (by rfl) (fun wx => Ms w wx [sl 3 1 g k16 ((ivs L).length) ((ivs L).map encZ), bf p7 (1) (64) (0) (L), mp kI (w6.heap.size) (S)]) hM.drew ?_ ?_
        · simp only [fullL, Act.put, List.setIfInBounds_toArray, List.set_cons_succ, List.set_cons_zero]
          refine ⟨?_, ?_, ?_, ?_, ?_, ?_, ?_, ?_, ?_, ?_, ?_, ?_, ?_, ?_, ?_, ?_, ?_, ?_, ?_, ?_, ?_, ?_, ?_, trivial⟩
          · exact fun wx hM => gw rfl (g_move _ (.int .i64 (((0 : Nat) : Int))) rfl ⟨rfl, hM⟩)
          · exact fun wx hM => gw rfl (g_igtr 3 _ _ .i64 (((0 : Nat) : Int)) (0) false rfl rfl (by decide) ⟨rfl, hM⟩)
          · exact fun wx hM => gw rfl (g_move _ (.bool false) rfl ⟨rfl, hM⟩)
          · exact fun wx hM => gn rfl ⟨rfl, hM⟩
          · exact fun wx hM => gn rfl ⟨rfl, hM⟩
          · exact fun wx hM => gn rfl ⟨rfl, hM⟩
          · exact fun wx hM => gn rfl ⟨rfl, hM⟩
          · exact fun wx hM => gn rfl ⟨rfl, hM⟩
          · exact fun wx hM => gn rfl ⟨rfl, hM⟩
          · exact fun wx hM => gn rfl ⟨rfl, hM⟩
          · exact fun wx hM => gn rfl ⟨rfl, hM⟩
          · exact fun wx hM => gn rfl ⟨rfl, hM⟩
          · exact fun wx hM => gn rfl ⟨rfl, hM⟩
          · exact fun wx hM => gw rfl (g_pickf _ _ _ (.bool false) rfl rfl ⟨rfl, hM⟩)
          · exact fun wx hM => gw rfl (g_move _ (.bool false) rfl ⟨rfl, hM⟩)
          · exact fun wx hM => gw rfl (g_move _ (.map (some (w6.heap.size))) rfl ⟨rfl, hM⟩)
          · exact fun wx hM => gw rfl (g_move _ (.slice (some ⟨g, 0, none⟩) ((ivs L).length) (k16)) rfl ⟨rfl, hM⟩)
          · exact fun wx hM => gw rfl (g_move _ (.int .i64 (((0 : Nat) : Int))) rfl ⟨rfl, hM⟩)
          · exact fun wx hM => gw rfl (g_ix _ _ 39 3 1 Try.underlying39 szof3 g 0 (ivs L).length k16 (0) (0 + 0 * 1) _ rfl rfl rfl (by omega) rfl ⟨rfl, hM⟩)
          · exact fun wx hM => gw rfl (g_ld1 3 _ (g) (0 + 0 * 1) _ rfl (ld3 _ _ _ _ (by rw [Nat.mul_one, Nat.zero_add]; exact sl_cell hM _ _ (encs_at hu))) ⟨rfl, hM⟩)
          · exact fun wx hM => gw rfl (g_look keyI Try.underlying56 Try.zeroValue4 _ _ (u) (.bool true) rfl rfl (show Ms w _ [mp kI (w6.heap.size) (S), sl 3 1 g k16 ((ivs L).length) ((ivs L).map encZ), bf p7 (1) (64) (0) (L)] from (hM.up 2 rfl)) (by rw [rs_mem hI.out hu]; rfl) ⟨rfl, hM⟩)
          · exact fun wx hM => gw rfl (g_unot 4 _ true rfl ⟨rfl, hM⟩)
          · exact fun wx hM => gw rfl (g_pickf _ _ _ (.bool false) rfl rfl ⟨rfl, hM⟩)
        · simp only [fullL, Act.put, List.setIfInBounds_toArray, List.set_cons_succ, List.set_cons_zero]
          intro w24 hM
          refine hK23 _ _ ?_
          (try clear hK23 K23)
          refine wp_cond_false rfl ?_
          refine wp_skip ?_
          refine hK21 _ _ ?_
          (try clear hK21 K21)
          refine wl_region ?_
          refine wl_give rfl (g_ia 3 _ _ .i64 (((0 : Nat) : Int)) (1) (((0 + 1 : Nat) : Int)) rfl rfl (hi1.out) ?_)
          (try simp only [Act.put, List.setIfInBounds_toArray, List.set_cons_zero, List.set_cons_succ])
          refine wl_give rfl (g_move _ (.int .i64 (((0 + 1 : Nat) : Int))) rfl ?_)
          (try simp only [Act.put, List.setIfInBounds_toArray, List.set_cons_zero, List.set_cons_succ])
          refine wl_nil ?_
          (try simp only [Exit.then, Exit.inBlock, ↓reduceIte, Nat.reduceEqDiff])
          have h9 := sl_row (((hM.up 2 rfl).up 2 rfl).up 2 rfl)
          exact ⟨r - 1, by omega, 0 + 1, _, _, _, _, _, _, _, _, _, _, _, _, _, _, _, _, _, _, _, _, _, _, _, _, _, _, _, rfl, by omega, h9⟩
      · obtain ⟨u0, hu0⟩ : ∃ u0, (ivs L)[i - 1]? = some u0 := ⟨_, List.getElem?_eq_getElem (by omega)⟩
        have hlt0 : u0 < u := rises_at (sorted_ivs L) hu0 (by rw [show i - 1 + 1 = i by omega]; exact hu)
        have hi0 : Shut ((((i : Nat) : Int) - 1) = ((i - 1 : Nat) : Int)) := ⟨by omega⟩
        have his : Shut (IntKind.i64.wrap (((i : Nat) : Int) - 1) = ((i : Nat) : Int) - 1) := ⟨wrap_id _ (by omega) (by omega)⟩
        refine wp_seq_k (fun K25 hK25 => ?_)
        refine wl_region ?_
        refine wl_give rfl (g_ilss 3 _ _ .i64 (((i : Nat) : Int)) ((((ivs (L)).length : Nat) : Int)) true rfl rfl (decide_eq_true hlt) ?_)
        (try simp only [Act.put, List.setIfInBounds_toArray, List.set_cons_zero, List.set_cons_succ])
        refine wl_nil ?_
        refine hK25 _ _ ?_
        (try clear hK25 K25)
        refine wp_seq_k (fun K26 hK26 => ?_)
        refine wp_cond_true rfl ?_
        refine wp_skip ?_
        refine hK26 _ _ ?_
        (try clear hK26 K26)
        refine wp_seq_k (fun K27 hK27 => ?_)
        refine wp_block ?_
        refine wp_seq_k (fun K28 hK28 => ?_)
        refine wl_region ?_
        refine wl_give rfl (g_move _ (.int .i64 (((i : Nat) : Int))) rfl ?_)
        (try simp only [Act.put, List.setIfInBounds_toArray, List.set_cons_zero, List.set_cons_succ])
        refine wl_give rfl (g_assign _ (.int .i64 (((i : Nat) : Int))) rfl ?_)
        (try simp only [Act.put, List.setIfInBounds_toArray, List.set_cons_zero, List.set_cons_succ])
        refine wl_nil ?_
        refine hK28 _ _ ?_
        (try clear hK28 K28)
        refine wp_seq_k (fun K29 hK29 => ?_)
        refine wp_region_fixed (by kernel_rfl) (by kernel_rfl) [.int .i64 (((i : Nat) : Int)), .bool true, .bool true, .slice (some ⟨g, 0, none⟩) ((ivs L).length) (k16), .int .i64 (((i : Nat) : Int)), .int .i64 (((i : Nat) : Int) - 1), .pointer (some ⟨g, 0 + (i - 1) * 1, none⟩), .int .i64 (u0), .slice (some ⟨g, 0, none⟩) ((ivs L).length) (k16), .int .i64 (((i : Nat) : Int)), .pointer (some ⟨g, 0 + i * 1, none⟩), .int .i64 (u), .bool false, .bool false, .bool false, .map (some (w6.heap.size)), .slice (some ⟨g, 0, none⟩) ((ivs L).length) (k16), .int .i64 (((i : Nat) : Int)), .pointer (some ⟨g, 0 + i * 1, none⟩), .int .i64 (u), .bool true, .bool false, .bool false] (by rfl) (fun wx => Ms w wx [sl 3 1 g k16 ((ivs L).length) ((ivs L).map encZ), bf p7 (1) (64) (0) (L), mp kI (w6.heap.size) (S)]) hM.drew ?_ ?_
        · simp only [fullL, Act.put, List.setIfInBounds_toArray, List.set_cons_succ, List.set_cons_zero]
          refine ⟨?_, ?_, ?_, ?_, ?_, ?_, ?_, ?_, ?_, ?_, ?_, ?_, ?_, ?_, ?_, ?_, ?_, ?_, ?_, ?_, ?_, ?_, ?_, trivial⟩
          · exact fun wx hM => gw rfl (g_move _ (.int .i64 (((i : Nat) : Int))) rfl ⟨rfl, hM⟩)
          · exact fun wx hM => gw rfl (g_igtr 3 _ _ .i64 (((i : Nat) : Int)) (0) true rfl rfl (decide_eq_true (by omega)) ⟨rfl, hM⟩)
          · exact fun wx hM => gw rfl (g_move _ (.bool true) rfl ⟨rfl, hM⟩)
          · exact fun wx hM => gw rfl (g_move _ (.slice (some ⟨g, 0, none⟩) ((ivs L).length) (k16)) rfl ⟨rfl, hM⟩)
          · exact fun wx hM => gw rfl (g_move _ (.int .i64 (((i : Nat) : Int))) rfl ⟨rfl, hM⟩)
          · exact fun wx hM => gw rfl (g_isub 3 _ _ .i64 (((i : Nat) : Int)) (1) (((i : Nat) : Int) - 1) rfl rfl his.out ⟨rfl, hM⟩)
          · exact fun wx hM => gw rfl (g_ix _ _ 39 3 1 Try.underlying39 szof3 g 0 (ivs L).length k16 ((i - 1)) (0 + (i - 1) * 1) _ rfl rfl hi0.out (by omega) rfl ⟨rfl, hM⟩)
          · exact fun wx hM => gw rfl (g_ld1 3 _ (g) (0 + (i - 1) * 1) _ rfl (ld3 _ _ _ _ (by rw [Nat.mul_one, Nat.zero_add]; exact sl_cell hM _ _ (encs_at hu0))) ⟨rfl, hM⟩)
          · exact fun wx hM => gw rfl (g_move _ (.slice (some ⟨g, 0, none⟩) ((ivs L).length) (k16)) rfl ⟨rfl, hM⟩)
          · exact fun wx hM => gw rfl (g_move _ (.int .i64 (((i : Nat) : Int))) rfl ⟨rfl, hM⟩)
          · exact fun wx hM => gw rfl (g_ix _ _ 39 3 1 Try.underlying39 szof3 g 0 (ivs L).length k16 (i) (0 + i * 1) _ rfl rfl rfl (by omega) rfl ⟨rfl, hM⟩)
          · exact fun wx hM => gw rfl (g_ld1 3 _ (g) (0 + i * 1) _ rfl (ld3 _ _ _ _ (by rw [Nat.mul_one, Nat.zero_add]; exact sl_cell hM _ _ (encs_at hu))) ⟨rfl, hM⟩)
          · exact fun wx hM => gw rfl (g_igeq 3 _ _ .i64 (u0) (u) false rfl rfl (decide_eq_false (by omega)) ⟨rfl, hM⟩)
          · exact fun wx hM => gw rfl (g_pickt _ _ _ (.bool false) rfl rfl ⟨rfl, hM⟩)
          · exact fun wx hM => gw rfl (g_move _ (.bool false) rfl ⟨rfl, hM⟩)
          · exact fun wx hM => gw rfl (g_move _ (.map (some (w6.heap.size))) rfl ⟨rfl, hM⟩)
          · exact fun wx hM => gw rfl (g_move _ (.slice (some ⟨g, 0, none⟩) ((ivs L).length) (k16)) rfl ⟨rfl, hM⟩)
          · exact fun wx hM => gw rfl (g_move _ (.int .i64 (((i : Nat) : Int))) rfl ⟨rfl, hM⟩)
          · exact fun wx hM => gw rfl (g_ix _ _ 39 3 1 Try.underlying39 szof3 g 0 (ivs L).length k16 (i) (0 + i * 1) _ rfl rfl rfl (by omega) rfl ⟨rfl, hM⟩)
          · exact fun wx hM => gw rfl (g_ld1 3 _ (g) (0 + i * 1) _ rfl (ld3 _ _ _ _ (by rw [Nat.mul_one, Nat.zero_add]; exact sl_cell hM _ _ (encs_at hu))) ⟨rfl, hM⟩)
          · exact fun wx hM => gw rfl (g_look keyI Try.underlying56 Try.zeroValue4 _ _ (u) (.bool true) rfl rfl (show Ms w _ [mp kI (w6.heap.size) (S), sl 3 1 g k16 ((ivs L).length) ((ivs L).map encZ), bf p7 (1) (64) (0) (L)] from (hM.up 2 rfl)) (by rw [rs_mem hI.out hu]; rfl) ⟨rfl, hM⟩)
          · exact fun wx hM => gw rfl (g_unot 4 _ true rfl ⟨rfl, hM⟩)
          · exact fun wx hM => gw rfl (g_pickf _ _ _ (.bool false) rfl rfl ⟨rfl, hM⟩)
        · simp only [fullL, Act.put, List.setIfInBounds_toArray, List.set_cons_succ, List.set_cons_zero]
          intro w30 hM
          refine hK29 _ _ ?_
          (try clear hK29 K29)
          refine wp_cond_false rfl ?_
          refine wp_skip ?_
          refine hK27 _ _ ?_
          (try clear hK27 K27)
          refine wl_region ?_
          refine wl_give rfl (g_ia 3 _ _ .i64 (((i : Nat) : Int)) (1) (((i + 1 : Nat) : Int)) rfl rfl (hi1.out) ?_)
          (try simp only [Act.put, List.setIfInBounds_toArray, List.set_cons_zero, List.set_cons_succ])
          refine wl_give rfl (g_move _ (.int .i64 (((i + 1 : Nat) : Int))) rfl ?_)
          (try simp only [Act.put, List.setIfInBounds_toArray, List.set_cons_zero, List.set_cons_succ])
          refine wl_nil ?_
          (try simp only [Exit.then, Exit.inBlock, ↓reduceIte, Nat.reduceEqDiff])
          have h9 := sl_row (((hM.up 2 rfl).up 2 rfl).up 2 rfl)
          exact ⟨r - 1, by omega, i + 1, _, _, _, _, _, _, _, _, _, _, _, _, _, _, _, _, _, _, _, _, _, _, _, _, _, _, _, rfl, by omega, h9⟩
    · skip
      refine wp_seq_k (fun K31 hK31 => ?_)
      refine wl_region ?_
      refine wl_give rfl (g_ilss 3 _ _ .i64 (((i : Nat) : Int)) ((((ivs (L)).length : Nat) : Int)) false rfl rfl (decide_eq_false hlt) ?_)
      (try simp only [Act.put, List.setIfInBounds_toArray, List.set_cons_zero, List.set_cons_succ])
      refine wl_nil ?_
      refine hK31 _ _ ?_
      (try clear hK31 K31)
      refine wp_seq_k (fun K32 hK32 => ?_)
      refine wp_cond_false rfl ?_
      refine wp_exit ?_
      refine hK17 _ _ ?_
      (try clear hK17 K17)
      refine wp_seq_k (fun K33 hK33 => ?_)
      refine wl_region ?_
      refine wl_give rfl (g_move _ (.slice o15 ((ivs (L)).length) (k16)) rfl ?_)
      (try simp only [Act.put, List.setIfInBounds_toArray, List.set_cons_zero, List.set_cons_succ])
      refine wl_give rfl (g_len _ 39 3 (o15) ((ivs (L)).length) (k16) ((((ivs (L)).length : Nat) : Int)) Try.underlying39 rfl rfl ?_)
      (try simp only [Act.put, List.setIfInBounds_toArray, List.set_cons_zero, List.set_cons_succ])
      refine wl_give rfl (g_move _ (.map (some (w6.heap.size))) rfl ?_)
      (try simp only [Act.put, List.setIfInBounds_toArray, List.set_cons_zero, List.set_cons_succ])
      refine wl_give rfl (g_mlen Try.underlying56 _ (((S.length : Nat) : Int)) rfl (show Ms w _ [mp kI (w6.heap.size) (S), row 3 1 (.slice o15 (ivs (L)).length k16) ((ivs (L)).length) ((ivs (L)).map encZ), bf p7 (1) (64) (0) (L)] from (hM.up 2 rfl)) (rfl) ?_)
      (try simp only [Act.put, List.setIfInBounds_toArray, List.set_cons_zero, List.set_cons_succ])
      refine wl_give rfl (g_ieq 3 _ _ .i64 ((((ivs (L)).length : Nat) : Int)) (((S.length : Nat) : Int)) true rfl rfl (decide_eq_true (by rw [rs_ivs hI.out (mp_keys (show Ms w _ [mp kI (w6.heap.size) (S), row 3 1 (.slice o15 (ivs (L)).length k16) ((ivs (L)).length) ((ivs (L)).map encZ), bf p7 (1) (64) (0) (L)] from (hM.up 2 rfl)))])) ?_)
      (try simp only [Act.put, List.setIfInBounds_toArray, List.set_cons_zero, List.set_cons_succ])
      refine wl_give rfl (g_move _ (.bool true) rfl ?_)
      (try simp only [Act.put, List.setIfInBounds_toArray, List.set_cons_zero, List.set_cons_succ])
      refine wl_give rfl (g_move _ (.pointer (some ⟨p7, 0, none⟩)) rfl ?_)
      (try simp only [Act.put, List.setIfInBounds_toArray, List.set_cons_zero, List.set_cons_succ])
      refine wl_give rfl (g_call 23 _ _ [.pointer (some ⟨p7, 0, none⟩)] (kf23 _ _) rfl ((keep1 1 rfl (fun R_ h_ => size_v (n := ((L.length : Nat) : Int)) h_ (by have := hI.out.le; omega) (rfl)) hM).mono ?_))
      rintro e w34 ⟨rfl, h_⟩
      refine ⟨_, rfl, ?_⟩
      replace hM : Ms w w34 [row 3 1 (.slice o15 (ivs (L)).length k16) ((ivs (L)).length) ((ivs (L)).map encZ), bf p7 (1) (64) (0) (L), mp kI (w6.heap.size) (S)] := h_
      clear h_
      (try simp only [Act.put, List.setIfInBounds_toArray, List.set_cons_zero, List.set_cons_succ])
      refine wl_give rfl (g_move _ (.map (some (w6.heap.size))) rfl ?_)
      (try simp only [Act.put, List.setIfInBounds_toArray, List.set_cons_zero, List.set_cons_succ])
      refine wl_give rfl (g_mlen Try.underlying56 _ (((S.length : Nat) : Int)) rfl (show Ms w _ [mp kI (w6.heap.size) (S), row 3 1 (.slice o15 (ivs (L)).length k16) ((ivs (L)).length) ((ivs (L)).map encZ), bf p7 (1) (64) (0) (L)] from (hM.up 2 rfl)) (rfl) ?_)
      (try simp only [Act.put, List.setIfInBounds_toArray, List.set_cons_zero, List.set_cons_succ])
      refine wl_give rfl (g_ieq 3 _ _ .i64 (((L.length : Nat) : Int)) (((S.length : Nat) : Int)) true rfl rfl (decide_eq_true (by rw [hI.out.len])) ?_)
      (try simp only [Act.put, List.setIfInBounds_toArray, List.set_cons_zero, List.set_cons_succ])
      refine wl_give rfl (g_pickt _ _ _ (.bool true) rfl rfl ?_)
      (try simp only [Act.put, List.setIfInBounds_toArray, List.set_cons_zero, List.set_cons_succ])
      refine wl_give rfl (g_assign _ (.bool true) rfl ?_)
      (try simp only [Act.put, List.setIfInBounds_toArray, List.set_cons_zero, List.set_cons_succ])
      refine wl_nil ?_
      refine hK33 _ _ ?_
      (try clear hK33 K33)
      refine wp_ret ?_
      go_ret
      exact ⟨rfl, hM.below⟩
  (try clear hK12)
  refine wp_seq_k (fun K35 hK35 => ?_)
  refine wl_region ?_
  refine wl_give rfl (g_assign _ (.int .i64 (0)) rfl ?_)
  (try simp only [Act.put, List.setIfInBounds_toArray, List.set_cons_zero, List.set_cons_succ])
  refine wl_nil ?_
  refine hK35 _ _ ?_
  (try clear hK35 K35)
  refine wp_block ?_
  have h9 := ((hM.up 0 rfl).up 1 rfl)
  refine wp_rounds (fun r a wr => ∃ (j : Nat) (S : List (Int × Value)) (L : List Thg) (t7 t19 t20 t21 t22 t23 t24 t25 t26 t27 t28 t29 t30 t31 t32 t33 t34 t35 t36 t37 t38 t39 t40 t41 t42 t43 t44 t45 t46 t47 t48 : Value), a = ⟨#[.slice ao (n) (cap), undef, .bool false, .pointer (some ⟨p7, 0, none⟩), .int .i64 (0), .map (some (w6.heap.size)), .int .i64 ((j : Nat) : Int), t7, undef, undef, .bool true, .bool false, .tuple #[.pointer (some ⟨p7, 0, none⟩), .int .i64 (0)], .tuple #[.pointer (some ⟨p7, 0, none⟩), .int .i64 (0)], .pointer (some ⟨p7, 0, none⟩), .int .i64 (0), .pointer (some ⟨p7, 0, none⟩), .bool false, .map (some (w6.heap.size)), t19, t20, t21, t22, t23, t24, t25, t26, t27, t28, t29, t30, t31, t32, t33, t34, t35, t36, t37, t38, t39, t40, t41, t42, t43, t44, t45, t46, t47, t48, undef, undef, undef, undef, undef, undef, undef, undef, undef, undef, undef, undef, undef, undef, undef, undef, undef, undef, undef, undef, undef, undef, undef, undef, undef, undef, undef, undef, undef, undef, undef, undef, undef, undef, undef, undef, undef, undef, undef, undef, undef, undef, undef], []⟩ ∧ j + r = 64 ∧ Shut (Rs S L j) ∧ Ms w wr [bf p7 (1) (64) (0) (L), mp kI (w6.heap.size) (S)]) 64 ⟨0, [], [], _, _, _, _, _, _, _, _, _, _, _, _, _, _, _, _, _, _, _, _, _, _, _, _, _, _, _, _, _, _, _, rfl, Nat.zero_add _, ⟨rs_nil⟩, h9⟩ ?_
  clear hM h9
  rintro r a wr ⟨j, S, L, t7, t19, t20, t21, t22, t23, t24, t25, t26, t27, t28, t29, t30, t31, t32, t33, t34, t35, t36, t37, t38, t39, t40, t41, t42, t43, t44, t45, t46, t47, t48, rfl, hj, hI, hM⟩
  by_cases h1 : ((j : Nat) : Int) < ((n : Nat) : Int)
  · by_cases h2 : ((j : Nat) : Int) < 64
    · skip
      obtain ⟨b, o, v, rfl, hcell, c, rfl, hc1, hc2⟩ := hl.on hM j (by omega)
      have hcv : Shut (IntKind.i64.wrap c = c) := ⟨wrap_id _ (by omega) (by omega)⟩
      obtain ⟨k, hk⟩ : ∃ k, c + 1 = k := ⟨_, rfl⟩
      have hk1 : Shut (IntKind.i64.wrap (c + 1) = k) := ⟨by rw [wrap_id _ (by omega) (by omega)]; exact hk⟩
      have hj1 : Shut (IntKind.i64.wrap (((j : Nat) : Int) + 1) = ((j + 1 : Nat) : Int)) := ⟨by rw [wrap_id _ (by omega) (by omega)]; omega⟩
      have hjn : j < n := by omega
      have hnd := mp_keys (hM.up 1 rfl)
      have hfull : (ofI k L).length ≤ 1 := bf_full hM k
      refine wp_seq_k (fun K36 hK36 => ?_)
      refine wp_seq_k (fun K37 hK37 => ?_)
      refine wl_region ?_
      refine wl_give rfl (g_move _ (.int .i64 (((j : Nat) : Int))) rfl ?_)
      (try simp only [Act.put, List.setIfInBounds_toArray, List.set_cons_zero, List.set_cons_succ])
      refine wl_give rfl (g_move _ (.slice (some ⟨b, o, none⟩) (n) (cap)) rfl ?_)
      (try simp only [Act.put, List.setIfInBounds_toArray, List.set_cons_zero, List.set_cons_succ])
      refine wl_give rfl (g_len _ 55 5 ((some ⟨b, o, none⟩)) (n) (cap) (((n : Nat) : Int)) Try.underlying55 rfl rfl ?_)
      (try simp only [Act.put, List.setIfInBounds_toArray, List.set_cons_zero, List.set_cons_succ])
      refine wl_give rfl (g_ilss 3 _ _ .i64 (((j : Nat) : Int)) (((n : Nat) : Int)) true rfl rfl (decide_eq_true h1) ?_)
      (try simp only [Act.put, List.setIfInBounds_toArray, List.set_cons_zero, List.set_cons_succ])
      refine wl_give rfl (g_move _ (.bool true) rfl ?_)
      (try simp only [Act.put, List.setIfInBounds_toArray, List.set_cons_zero, List.set_cons_succ])
      refine wl_give rfl (g_move _ (.int .i64 (((j : Nat) : Int))) rfl ?_)
      (try simp only [Act.put, List.setIfInBounds_toArray, List.set_cons_zero, List.set_cons_succ])
      refine wl_give rfl (g_ilss 3 _ _ .i64 (((j : Nat) : Int)) (64) true rfl rfl (decide_eq_true h2) ?_)
      (try simp only [Act.put, List.setIfInBounds_toArray, List.set_cons_zero, List.set_cons_succ])
      refine wl_give rfl (g_pickt _ _ _ (.bool true) rfl rfl ?_)
      (try simp only [Act.put, List.setIfInBounds_toArray, List.set_cons_zero, List.set_cons_succ])
      refine wl_nil ?_
      refine hK37 _ _ ?_
      (try clear hK37 K37)
      refine wp_cond_true rfl ?_
      refine wp_skip ?_
      refine hK36 _ _ ?_
      (try clear hK36 K36)
      refine wp_seq_k (fun K38 hK38 => ?_)
      refine wp_block ?_
      refine wp_seq_k (fun K39 hK39 => ?_)
      refine wl_region ?_
      refine wl_give rfl (g_move _ (.slice (some ⟨b, o, none⟩) (n) (cap)) rfl ?_)
      (try simp only [Act.put, List.setIfInBounds_toArray, List.set_cons_zero, List.set_cons_succ])
      refine wl_give rfl (g_move _ (.int .i64 (((j : Nat) : Int))) rfl ?_)
      (try simp only [Act.put, List.setIfInBounds_toArray, List.set_cons_zero, List.set_cons_succ])
      refine wl_give rfl (g_ix _ _ 55 5 1 Try.underlying55 szof5 b o n cap j (o + j * 1) _ rfl rfl rfl hjn rfl ?_)
      (try simp only [Act.put, List.setIfInBounds_toArray, List.set_cons_zero, List.set_cons_succ])
      refine wl_give rfl (g_ld1 5 _ (b) (o + j * 1) _ rfl (ld5 _ _ _ _ (by rw [Nat.mul_one]; exact hcell)) ?_)
      (try simp only [Act.put, List.setIfInBounds_toArray, List.set_cons_zero, List.set_cons_succ])
      refine wl_give rfl (g_cv_5_3 _ (c) (c) rfl (hcv.out) ?_)
      (try simp only [Act.put, List.setIfInBounds_toArray, List.set_cons_zero, List.set_cons_succ])
      refine wl_give rfl (g_ia 3 _ _ .i64 (c) (1) (k) rfl rfl hk1.out ?_)
      (try simp only [Act.put, List.setIfInBounds_toArray, List.set_cons_zero, List.set_cons_succ])
      refine wl_give rfl (g_assign _ (.int .i64 (k)) rfl ?_)
      (try simp only [Act.put, List.setIfInBounds_toArray, List.set_cons_zero, List.set_cons_succ])
      refine wl_nil ?_
      refine hK39 _ _ ?_
      (try clear hK39 K39)
      by_cases hin : k ∈ S.map (·.1)
      · skip
        refine wp_seq_k (fun K40 hK40 => ?_)
        refine wl_region ?_
        refine wl_give rfl (g_move _ (.map (some (w6.heap.size))) rfl ?_)
        (try simp only [Act.put, List.setIfInBounds_toArray, List.set_cons_zero, List.set_cons_succ])
        refine wl_give rfl (g_move _ (.int .i64 (k)) rfl ?_)
        (try simp only [Act.put, List.setIfInBounds_toArray, List.set_cons_zero, List.set_cons_succ])
        refine wl_give rfl (g_look keyI Try.underlying56 Try.zeroValue4 _ _ (k) (.bool true) rfl rfl (show Ms w _ [mp kI (w6.heap.size) (S), bf p7 (1) (64) (0) (L)] from (hM.up 1 rfl)) (by rw [rs_look hI.out hin]; rfl) ?_)
        (try simp only [Act.put, List.setIfInBounds_toArray, List.set_cons_zero, List.set_cons_succ])
        refine wl_nil ?_
        refine hK40 _ _ ?_
        (try clear hK40 K40)
        refine wp_cond_true rfl ?_
        refine wp_seq_k (fun K41 hK41 => ?_)
        refine wl_region ?_
        refine wl_give rfl (g_move _ (.pointer (some ⟨p7, 0, none⟩)) rfl ?_)
        (try simp only [Act.put, List.setIfInBounds_toArray, List.set_cons_zero, List.set_cons_succ])
        refine wl_give rfl (g_move _ (.int .i64 (k)) rfl ?_)
        (try simp only [Act.put, List.setIfInBounds_toArray, List.set_cons_zero, List.set_cons_succ])
        refine wl_give rfl (g_call 17 _ _ [.pointer (some ⟨p7, 0, none⟩), .int .i64 (k)] (kf17 _ _) rfl ((to_row (take_v (ts := ofI k L) (L' := notI k L) hM (by have := hI.out.le; omega) (rfl) (rfl))).mono ?_))
        rintro e w42 ⟨o43, k44, rfl, h_⟩
        refine ⟨_, rfl, ?_⟩
        replace hM : Ms w w42 [row 9 1 (.slice o43 ((ofI k L).length) k44) ((ofI k L).length) ((ofI k L).map Value.string), bf p7 (1) (64) (0) (notI k L), mp kI (w6.heap.size) (S)] := h_
        clear h_
        (try simp only [Act.put, List.setIfInBounds_toArray, List.set_cons_zero, List.set_cons_succ])
        refine wl_nil ?_
        refine hK41 _ _ ?_
        (try clear hK41 K41)
        refine wl_region ?_
        refine wl_give rfl (g_move _ (.map (some (w6.heap.size))) rfl ?_)
        (try simp only [Act.put, List.setIfInBounds_toArray, List.set_cons_zero, List.set_cons_succ])
        refine wl_give rfl (g_move _ (.int .i64 (k)) rfl ?_)
        (try simp only [Act.put, List.setIfInBounds_toArray, List.set_cons_zero, List.set_cons_succ])
        refine wl_give rfl (g_mdel keyI Try.underlying56 _ _ (k) rfl rfl (show Ms w w42 [mp kI (w6.heap.size) (S), row 9 1 (.slice o43 ((ofI k L).length) k44) ((ofI k L).length) ((ofI k L).map Value.string), bf p7 (1) (64) (0) (notI k L)] from (hM.up 2 rfl)) ?_)
        intro w45 h_
        replace hM : Ms w w45 [mp kI (w6.heap.size) (mdel (S) (k)), row 9 1 (.slice o43 ((ofI k L).length) k44) ((ofI k L).length) ((ofI k L).map Value.string), bf p7 (1) (64) (0) (notI k L)] := h_
        clear h_
        (try simp only [Act.put, List.setIfInBounds_toArray, List.set_cons_zero, List.set_cons_succ])
        refine wl_nil ?_
        refine hK38 _ _ ?_
        (try clear hK38 K38)
        refine wl_region ?_
        refine wl_give rfl (g_move _ (.int .i64 (((j : Nat) : Int))) rfl ?_)
        (try simp only [Act.put, List.setIfInBounds_toArray, List.set_cons_zero, List.set_cons_succ])
        refine wl_give rfl (g_ia 3 _ _ .i64 (((j : Nat) : Int)) (1) (((j + 1 : Nat) : Int)) rfl rfl (hj1.out) ?_)
        (try simp only [Act.put, List.setIfInBounds_toArray, List.set_cons_zero, List.set_cons_succ])
        refine wl_give rfl (g_assign _ (.int .i64 (((j + 1 : Nat) : Int))) rfl ?_)
        (try simp only [Act.put, List.setIfInBounds_toArray, List.set_cons_zero, List.set_cons_succ])
        refine wl_nil ?_
        (try simp only [Exit.then, Exit.inBlock, ↓reduceIte, Nat.reduceEqDiff])
        have h9 : Ms w w45 [bf p7 (1) (64) (0) (notI k L), mp kI (w6.heap.size) (mdel (S) (k)), row 9 1 (.slice o43 ((ofI k L).length) k44) ((ofI k L).length) ((ofI k L).map Value.string)] := (((hM.up 1 rfl).up 1 rfl).up 2 rfl)
        exact ⟨r - 1, by omega, j + 1, _, _, _, _, _, _, _, _, _, _, _, _, _, _, _, _, _, _, _, _, _, _, _, _, _, _, _, _, _, _, _, _, _, rfl, by omega, ⟨rs_del hI.out hnd hin hfull⟩, h9.erase 2⟩
      · skip
        refine wp_seq_k (fun K46 hK46 => ?_)
        refine wl_region ?_
        refine wl_give rfl (g_move _ (.map (some (w6.heap.size))) rfl ?_)
        (try simp only [Act.put, List.setIfInBounds_toArray, List.set_cons_zero, List.set_cons_succ])
        refine wl_give rfl (g_move _ (.int .i64 (k)) rfl ?_)
        (try simp only [Act.put, List.setIfInBounds_toArray, List.set_cons_zero, List.set_cons_succ])
        refine wl_give rfl (g_look keyI Try.underlying56 Try.zeroValue4 _ _ (k) (.bool false) rfl rfl (show Ms w _ [mp kI (w6.heap.size) (S), bf p7 (1) (64) (0) (L)] from (hM.up 1 rfl)) (by rw [mlook_none hin]; rfl) ?_)
        (try simp only [Act.put, List.setIfInBounds_toArray, List.set_cons_zero, List.set_cons_succ])
        refine wl_nil ?_
        refine hK46 _ _ ?_
        (try clear hK46 K46)
        refine wp_cond_false rfl ?_
        refine wp_seq_k (fun K47 hK47 => ?_)
        refine wl_region ?_
        refine wl_give rfl (g_move _ (.pointer (some ⟨p7, 0, none⟩)) rfl ?_)
        (try simp only [Act.put, List.setIfInBounds_toArray, List.set_cons_zero, List.set_cons_succ])
        refine wl_give rfl (g_move _ (.int .i64 (k)) rfl ?_)
        (try simp only [Act.put, List.setIfInBounds_toArray, List.set_cons_zero, List.set_cons_succ])
        refine wl_give rfl (g_call 14 _ _ [.pointer (some ⟨p7, 0, none⟩), .int .i64 (k), .string (⟨#[120]⟩)] (kf14 _ _) rfl ((put_0 hM (by decide) (by decide) (by omega) (by decide) (by decide) ⟨rs_put hI.out hin (by omega) (by omega) _⟩).mono ?_))
        rintro e w48 ⟨rfl, h_⟩
        refine ⟨_, rfl, ?_⟩
        replace hM : Ms w w48 [bf p7 (1) (64) (0) (L ++ [(k, ⟨#[120]⟩)]), mp kI (w6.heap.size) (S)] := h_
        clear h_
        (try simp only [Act.put, List.setIfInBounds_toArray, List.set_cons_zero, List.set_cons_succ])
        refine wl_give rfl (g_ieq 25 _ _ .i64 (0) (0) true rfl rfl (by decide) ?_)
        (try simp only [Act.put, List.setIfInBounds_toArray, List.set_cons_zero, List.set_cons_succ])
        refine wl_nil ?_
        refine hK47 _ _ ?_
        (try clear hK47 K47)
        refine wp_cond_true rfl ?_
        refine wl_region ?_
        refine wl_give rfl (g_move _ (.map (some (w6.heap.size))) rfl ?_)
        (try simp only [Act.put, List.setIfInBounds_toArray, List.set_cons_zero, List.set_cons_succ])
        refine wl_give rfl (g_move _ (.int .i64 (k)) rfl ?_)
        (try simp only [Act.put, List.setIfInBounds_toArray, List.set_cons_zero, List.set_cons_succ])
        refine wl_give rfl (g_mup keyI Try.underlying56 _ _ _ (k) (.bool true) rfl rfl rfl (show Ms w w48 [mp kI (w6.heap.size) (S), bf p7 (1) (64) (0) (L ++ [(k, ⟨#[120]⟩)])] from (hM.up 1 rfl)) ?_)
        intro w49 h_
        replace hM : Ms w w49 [mp kI (w6.heap.size) (mput (S) (k) (.bool true)), bf p7 (1) (64) (0) (L ++ [(k, ⟨#[120]⟩)])] := h_
        clear h_
        (try simp only [Act.put, List.setIfInBounds_toArray, List.set_cons_zero, List.set_cons_succ])
        refine wl_nil ?_
        refine hK38 _ _ ?_
        (try clear hK38 K38)
        refine wl_region ?_
        refine wl_give rfl (g_move _ (.int .i64 (((j : Nat) : Int))) rfl ?_)
        (try simp only [Act.put, List.setIfInBounds_toArray, List.set_cons_zero, List.set_cons_succ])
        refine wl_give rfl (g_ia 3 _ _ .i64 (((j : Nat) : Int)) (1) (((j + 1 : Nat) : Int)) rfl rfl (hj1.out) ?_)
        (try simp only [Act.put, List.setIfInBounds_toArray, List.set_cons_zero, List.set_cons_succ])
        refine wl_give rfl (g_assign _ (.int .i64 (((j + 1 : Nat) : Int))) rfl ?_)
        (try simp only [Act.put, List.setIfInBounds_toArray, List.set_cons_zero, List.set_cons_succ])
        refine wl_nil ?_
        (try simp only [Exit.then, Exit.inBlock, ↓reduceIte, Nat.reduceEqDiff])
        exact ⟨r - 1, by omega, j + 1, _, _, _, _, _, _, _, _, _, _, _, _, _, _, _, _, _, _, _, _, _, _, _, _, _, _, _, _, _, _, _, _, _, rfl, by omega, ⟨rs_add hI.out hin _⟩, ((hM.up 0 rfl).up 1 rfl)⟩
    · skip
      refine wp_seq_k (fun K50 hK50 => ?_)
      refine wp_seq_k (fun K51 hK51 => ?_)
      refine wl_region ?_
      refine wl_give rfl (g_move _ (.int .i64 (((j : Nat) : Int))) rfl ?_)
      (try simp only [Act.put, List.setIfInBounds_toArray, List.set_cons_zero, List.set_cons_succ])
      refine wl_give rfl (g_move _ (.slice ao (n) (cap)) rfl ?_)
      (try simp only [Act.put, List.setIfInBounds_toArray, List.set_cons_zero, List.set_cons_succ])
      refine wl_give rfl (g_len _ 55 5 (ao) (n) (cap) (((n : Nat) : Int)) Try.underlying55 rfl rfl ?_)
      (try simp only [Act.put, List.setIfInBounds_toArray, List.set_cons_zero, List.set_cons_succ])
      refine wl_give rfl (g_ilss 3 _ _ .i64 (((j : Nat) : Int)) (((n : Nat) : Int)) true rfl rfl (decide_eq_true h1) ?_)
      (try simp only [Act.put, List.setIfInBounds_toArray, List.set_cons_zero, List.set_cons_succ])
      refine wl_give rfl (g_move _ (.bool true) rfl ?_)
      (try simp only [Act.put, List.setIfInBounds_toArray, List.set_cons_zero, List.set_cons_succ])
      refine wl_give rfl (g_move _ (.int .i64 (((j : Nat) : Int))) rfl ?_)
      (try simp only [Act.put, List.setIfInBounds_toArray, List.set_cons_zero, List.set_cons_succ])
      refine wl_give rfl (g_ilss 3 _ _ .i64 (((j : Nat) : Int)) (64) false rfl rfl (decide_eq_false h2) ?_)
      (try simp only [Act.put, List.setIfInBounds_toArray, List.set_cons_zero, List.set_cons_succ])
      refine wl_give rfl (g_pickt _ _ _ (.bool false) rfl rfl ?_)
      (try simp only [Act.put, List.setIfInBounds_toArray, List.set_cons_zero, List.set_cons_succ])
      refine wl_nil ?_
      refine hK51 _ _ ?_
      (try clear hK51 K51)
      refine wp_cond_false rfl ?_
      refine wp_exit ?_
      exact hcut j S L _ _ _ _ _ _ _ _ _ _ _ _ _ _ _ _ _ _ _ _ _ _ _ _ _ _ _ _ _ _ _ _ hI (by omega) (Nat.le_trans (ivs_le L) (by have := hI.out.le; omega)) hM
  · skip
    refine wp_seq_k (fun K52 hK52 => ?_)
    refine wp_seq_k (fun K53 hK53 => ?_)
    refine wl_region ?_
    refine wl_give rfl (g_move _ (.int .i64 (((j : Nat) : Int))) rfl ?_)
    (try simp only [Act.put, List.setIfInBounds_toArray, List.set_cons_zero, List.set_cons_succ])
    refine wl_give rfl (g_move _ (.slice ao (n) (cap)) rfl ?_)
    (try simp only [Act.put, List.setIfInBounds_toArray, List.set_cons_zero, List.set_cons_succ])
    refine wl_give rfl (g_len _ 55 5 (ao) (n) (cap) (((n : Nat) : Int)) Try.underlying55 rfl rfl ?_)
    (try simp only [Act.put, List.setIfInBounds_toArray, List.set_cons_zero, List.set_cons_succ])
    refine wl_give rfl (g_ilss 3 _ _ .i64 (((j : Nat) : Int)) (((n : Nat) : Int)) false rfl rfl (decide_eq_false h1) ?_)
    (try simp only [Act.put, List.setIfInBounds_toArray, List.set_cons_zero, List.set_cons_succ])
    refine wl_give rfl (g_move _ (.bool false) rfl ?_)
    (try simp only [Act.put, List.setIfInBounds_toArray, List.set_cons_zero, List.set_cons_succ])
    refine wl_skip rfl ?_
    (try simp only [Act.put, List.setIfInBounds_toArray, List.set_cons_zero, List.set_cons_succ])
    refine wl_skip rfl ?_
    (try simp only [Act.put, List.setIfInBounds_toArray, List.set_cons_zero, List.set_cons_succ])
    refine wl_give rfl (g_pickf _ _ _ (.bool false) rfl rfl ?_)
    (try simp only [Act.put, List.setIfInBounds_toArray, List.set_cons_zero, List.set_cons_succ])
    refine wl_nil ?_
    refine hK53 _ _ ?_
    (try clear hK53 K53)
    refine wp_cond_false rfl ?_
    refine wp_exit ?_
    exact hcut j S L _ _ _ _ _ _ _ _ _ _ _ _ _ _ _ _ _ _ _ _ _ _ _ _ _ _ _ _ _ _ _ _ hI (by omega) (Nat.le_trans (ivs_le L) (by have := hI.out.le; omega)) hM
end Go.Proofs.Ytpkjocibgmjhdaa.bufferRises
