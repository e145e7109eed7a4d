/- A receiver at which a sender's one text of an interval comes, or none, as plain data: no program. -/
import Derived.Test.YtcclcemdodoiiaaGreatDoorQRcM3
import Derived.Test.YtcclcemdodoiiaaGreatDoorQRcM2
import Derived.Test.YtcclcemdodoiiaaGreatDoorQBfMath
namespace Go.Proofs.YtcclcemdodoiiaaGreatDoor
set_option maxRecDepth 10000
open Go Go.RowKit
set_option linter.unusedVariables false
set_option linter.unusedSimpArgs false

/-- Those of the intervals behind a, up to b, that come. -/
def sel (C : Nat → Bool) (a b : Nat) : List Nat := (List.range' (a + 1) (b - a)).filter C
section
variable {C : Nat → Bool}
theorem sel_none {a b : Nat} (h : b ≤ a) : sel C a b = [] := by unfold sel; rw [Nat.sub_eq_zero_of_le h]; rfl
theorem sel_step {a b : Nat} (h : a ≤ b) : sel C a (b + 1) = sel C a b ++ (if C (b + 1) then [b + 1] else []) := by
  unfold sel
  rw [show b + 1 - a = (b - a) + 1 by omega, List.range'_concat, List.filter_append, show a + 1 + 1 * (b - a) = b + 1 by omega]
  by_cases hc : C (b + 1) = true
  · simp [hc]
  · simp [hc]
theorem sel_split {a b c : Nat} (h1 : a ≤ b) (h2 : b ≤ c) : sel C a c = sel C a b ++ sel C b c := by
  obtain ⟨d, rfl⟩ : ∃ d, c = b + d := ⟨c - b, by omega⟩
  clear h2
  induction d with
  | zero => rw [Nat.add_zero, sel_none (Nat.le_refl b), List.append_nil]
  | succ d ih => rw [← Nat.add_assoc, sel_step (by omega), sel_step (by omega), ih, List.append_assoc]
theorem sel_mem {a b k : Nat} : k ∈ sel C a b ↔ (a < k ∧ k ≤ b) ∧ C k = true := by
  unfold sel
  rw [List.mem_filter, List.mem_range'_1]
  constructor
  · rintro ⟨h1, h2⟩; exact ⟨by omega, h2⟩
  · rintro ⟨h1, h2⟩; exact ⟨by omega, h2⟩
theorem sel_rising (a b : Nat) : (sel C a b).Pairwise (· < ·) := List.Pairwise.filter _ List.pairwise_lt_range'
theorem sel_len (a b : Nat) : (sel C a b).length ≤ b - a := by
  unfold sel
  refine Nat.le_trans (List.length_filter_le _ _) ?_
  rw [List.length_range']; exact Nat.le_refl _
end
section
variable {A : Nat → ByteArray}
theorem ivs_map {ks : List Nat} (h : ks.Pairwise (· < ·)) : ivs (ks.map fun k => (((k : Nat) : Int), A k)) = ks.map (fun k => ((k : Nat) : Int)) := by
  refine rising_eq (sorted_ivs _) ?_ (fun z => ?_)
  · rw [List.pairwise_map]; exact h.imp fun h => by omega
  · rw [mem_ivs]
    constructor
    · rintro ⟨t, ht, rfl⟩
      obtain ⟨k, hk, rfl⟩ := List.mem_map.1 ht
      exact List.mem_map.2 ⟨k, hk, rfl⟩
    · intro hz
      obtain ⟨k, hk, rfl⟩ := List.mem_map.1 hz
      exact ⟨_, List.mem_map.2 ⟨k, hk, rfl⟩, rfl⟩
theorem ofI_mapn {k : Nat} {ks : List Nat} (h : ∀ x ∈ ks, x ≠ k) : ofI ((k : Nat) : Int) (ks.map fun k => (((k : Nat) : Int), A k)) = [] := by
  refine ofI_nil.2 ?_
  rintro ⟨t, ht, e⟩
  obtain ⟨x, hx, rfl⟩ := List.mem_map.1 ht
  exact h x hx (by have e2 : ((x : Nat) : Int) = ((k : Nat) : Int) := e; omega)
theorem ofI_mapc {k : Nat} {ks : List Nat} (h : ∀ x ∈ ks, x ≠ k) : ofI ((k : Nat) : Int) ((k :: ks).map fun k => (((k : Nat) : Int), A k)) = [A k] := by
  have h2 := ofI_mapn (A := A) h
  unfold ofI at h2 ⊢
  rw [List.map_cons, List.filter_cons_of_pos (by simp), List.map_cons, h2]
theorem notI_mapc {k : Nat} {ks : List Nat} (h : ∀ x ∈ ks, x ≠ k) : notI ((k : Nat) : Int) ((k :: ks).map fun k => (((k : Nat) : Int), A k)) = ks.map fun k => (((k : Nat) : Int), A k) := by
  unfold notI
  rw [List.map_cons, List.filter_cons_of_neg (by simp), List.filter_eq_self.2]
  intro t ht
  obtain ⟨x, hx, rfl⟩ := List.mem_map.1 ht
  have hn := h x hx
  have : ¬ ((x : Nat) : Int) = ((k : Nat) : Int) := by omega
  simpa using this
end
theorem blF_hi {K : Ky} {n : Int} {B : List Thg} {ks : List Int} {r : (List Thg × Int) × List Thg} (h : ∀ k ∈ ks, ¬ k ≤ n) : blF K n B ks r = r := by
  induction ks with
  | nil => rfl
  | cons k ks ih => rw [blF_cons, blS_hi (h k (by simp)), ih (fun x hx => h x (by simp [hx]))]
/-- What waits of the interval k, and what is told of it. -/
def gm (s : Ky) (P : Pl) (t : ByteArray) (k : Nat) : Thg := (((k : Nat) : Int), tgs (kyk s P k) k t ++ t)
def hm (t : ByteArray) (k : Nat) : Thg := (((k : Nat) : Int), t)
theorem hasT_lt {B : List Thg} {k : Int} {t : ByteArray} (h : ∀ u ∈ B, u.1 < k) : hasT k t B = false := by
  by_cases e : hasT k t B = true
  · have := h _ (hasT_iff.1 e)
    have e2 : k < k := this
    omega
  · simpa using e
theorem blF_own {s : Ky} {P : Pl} (hP : POk P) {m : Int} (hm2 : m ≤ P.ct) {t : ByteArray} {B : List Thg} {wr : Int} {hi : List Nat} (hhi : ∀ k ∈ hi, ¬ ((k : Nat) : Int) ≤ m) : ∀ (lo : List Nat) (T : List Thg), (∀ k ∈ lo, ((k : Nat) : Int) ≤ m) → (lo ++ hi).Pairwise (· < ·) → (∀ u ∈ B ++ T, ∀ k ∈ lo, u.1 < ((k : Nat) : Int)) →
    blF (kyk s P m) m B ((lo ++ hi).map (fun k => ((k : Nat) : Int))) ((T, wr), (lo ++ hi).map (gm s P t)) = ((T ++ lo.map (hm t), wr), hi.map (gm s P t))
  | [], T, _, _, _ => by
    rw [List.nil_append, blF_hi (fun k hk => by obtain ⟨x, hx, rfl⟩ := List.mem_map.1 hk; exact hhi x hx), List.map_nil, List.append_nil]
  | k :: lo, T, h1, h2, h3 => by
    have hk := h1 k (by simp)
    rw [List.cons_append, List.pairwise_cons] at h2
    have hne : ∀ x ∈ lo ++ hi, x ≠ k := fun x hx => by have := h2.1 x hx; omega
    rw [List.cons_append, List.map_cons, blF_cons, blS_lo hk]
    have e1 : ofI ((k : Nat) : Int) ((k :: (lo ++ hi)).map (gm s P t)) = [tgs (kyk s P k) k t ++ t] := ofI_mapc (A := fun k => tgs (kyk s P k) k t ++ t) hne
    have e2 : notI ((k : Nat) : Int) ((k :: (lo ++ hi)).map (gm s P t)) = (lo ++ hi).map (gm s P t) := notI_mapc (A := fun k => tgs (kyk s P k) k t ++ t) hne
    have e4 : tl16 (tgs (kyk s P k) k t ++ t) = t := tl16_app (tgs_size _ _ _)
    have e5 : hd16 (tgs (kyk s P k) k t ++ t) = tgs (kyk s P k) k t := hd16_app (tgs_size _ _ _)
    have e3 : tkF (wl (m - ((k : Nat) : Int)).toNat (kyk s P m)) ((k : Nat) : Int) (B ++ T) [tgs (kyk s P k) k t ++ t] ([], wr) = ([(((k : Nat) : Int), t)], wr) := by
      have e6 : tkS (kyk s P k) ((k : Nat) : Int) (B ++ T) ([], wr) (tgs (kyk s P k) k t ++ t) = ([] ++ [(((k : Nat) : Int), tl16 (tgs (kyk s P k) k t ++ t))], wr) := tkS_new (by rw [e4, e5]) (by rw [List.append_nil]; exact hasT_lt (fun u hu => h3 u hu k (by simp)))
      rw [tkF_cons, kyk_back hP (by omega) hk hm2, e6, e4, List.nil_append]
      unfold tkF
      exact List.foldl_nil
    dsimp only
    rw [e1, e2, e3]
    have ih := blF_own (s := s) (t := t) (wr := wr) hP hm2 hhi lo (T ++ [(((k : Nat) : Int), t)]) (fun x hx => h1 x (by simp [hx])) h2.2 (fun u hu x hx => by
      rw [← List.append_assoc] at hu
      rcases List.mem_append.1 hu with hu | hu
      · exact h3 u hu x (by simp [hx])
      · obtain rfl := List.mem_singleton.1 hu
        have := h2.1 x (by simp [hx])
        show ((k : Nat) : Int) < ((x : Nat) : Int)
        omega)
    rw [ih, List.append_assoc, List.map_cons]
    rfl
/-- A receiver that knows the key m, at which one text of each interval up to j came, if it came. -/
def mS (s : Ky) (P : Pl) (C : Nat → Bool) (t : ByteArray) (m j : Nat) : Rc := ⟨P, kyk s P m, m, 16, 2, 16, 0, (sel C m j).map (gm s P t), (sel C 0 m).map (hm t), 0⟩
section
variable {s : Ky} {P : Pl} {C : Nat → Bool} {t : ByteArray}
theorem mS_blv (hP : POk P) {m p j : Nat} (h1 : m ≤ p) (h2 : p ≤ j) (h3 : (j : Int) ≤ P.ct) : blv { mS s P C t m j with k := kyk s P p, n := p } = ((sel C m p).map (hm t), mS s P C t p j) := by
  have e1 : ivs ((sel C m j).map (gm s P t)) = (sel C m j).map (fun k => ((k : Nat) : Int)) := ivs_map (A := fun k => tgs (kyk s P k) k t ++ t) (sel_rising m j)
  have e2 := blF_own (s := s) hP (m := ((p : Nat) : Int)) (by omega) (t := t) (B := (sel C 0 m).map (hm t)) (wr := 0) (hi := sel C p j) (fun k hk => by have := (sel_mem.1 hk).1; omega) (sel C m p) [] (fun k hk => by have := (sel_mem.1 hk).1; omega) (by rw [← sel_split h1 h2]; exact sel_rising m j) (fun u hu k hk => by
    rw [List.append_nil] at hu
    obtain ⟨x, hx, rfl⟩ := List.mem_map.1 hu
    have h4 := (sel_mem.1 hx).1
    have h5 := (sel_mem.1 hk).1
    show ((x : Nat) : Int) < ((k : Nat) : Int)
    omega)
  rw [← sel_split h1 h2, List.nil_append] at e2
  unfold blv
  show ((blF (kyk s P p) ((p : Nat) : Int) ((sel C 0 m).map (hm t)) (ivs ((sel C m j).map (gm s P t))) (([], 0), (sel C m j).map (gm s P t))).1.1, _) = _
  rw [e1]
  unfold mS
  dsimp only
  rw [e1, e2]
  dsimp only
  rw [← List.map_append, ← sel_split (Nat.zero_le m) h1]
theorem mS_lnp (hP : POk P) {m p j : Nat} (h1 : m ≤ p) (h2 : p ≤ j) (h3 : ((j + 1 : Nat) : Int) ≤ P.ct) (h16 : P.ct ≤ 16) (hp : pte P ((j + 1 : Nat) : Int) = ((p : Nat) : Int)) : lnp (mS s P C t m j) (own s P ((j + 1 : Nat) : Int) t) = (((sel C m p).map (hm t), 0), mS s P C t p j) := by
  have h := own_lnp (s := s) hP (S := mS s P C t m j) rfl rfl (by show (0 : Int) ≤ ((m : Nat) : Int); omega) (by show ((m : Nat) : Int) ≤ P.ct; omega) h16 (i := ((j + 1 : Nat) : Int)) (by omega) h3 t
  rw [hp] at h
  rw [h, show (mS s P C t m j).n = ((m : Nat) : Int) from rfl]
  by_cases e : m < p
  · rw [if_pos (show ((m : Nat) : Int) < ((p : Nat) : Int) by omega)]
    have e2 := mS_blv (s := s) (C := C) (t := t) hP h1 h2 (by omega)
    exact congrArg (fun r : List Thg × Rc => ((r.1, (0 : Int)), r.2)) e2
  · obtain rfl : m = p := by omega
    rw [if_neg (show ¬ ((m : Nat) : Int) < ((m : Nat) : Int) by omega), sel_none (Nat.le_refl m)]
    rfl
theorem mS_put (hP : POk P) {p j : Nat} (h2 : p ≤ j) (h3 : ((j + 1 : Nat) : Int) ≤ P.ct) (h16 : P.ct ≤ 16) (hC : C (j + 1) = true) : wtg (mS s P C t p j) (own s P ((j + 1 : Nat) : Int) t) (bgn P ((j + 1 : Nat) : Int)) = (0, mS s P C t p (j + 1)) := by
  have hs : psf P ((j + 1 : Nat) : Int) (bgn P ((j + 1 : Nat) : Int)) = true := by
    unfold psf
    refine decide_eq_true ⟨⟨hP, by omega, h3⟩, ?_⟩
    unfold bgn
    have := Int.mul_lt_mul_of_pos_right (show ((j + 1 : Nat) : Int) - 1 < ((j + 1 : Nat) : Int) + P.dl - 1 by omega) (show (0 : Int) < P.lg by omega)
    omega
  have hn : ∀ x ∈ sel C p j, x ≠ j + 1 := fun x hx => by have := (sel_mem.1 hx).1; omega
  have ho : ofI ((j + 1 : Nat) : Int) ((sel C p j).map (gm s P t)) = [] := ofI_mapn (A := fun k => tgs (kyk s P k) k t ++ t) hn
  have e1 : ivs ((sel C p j).map (gm s P t)) = (sel C p j).map (fun k => ((k : Nat) : Int)) := ivs_map (A := fun k => tgs (kyk s P k) k t ++ t) (sel_rising p j)
  have hl := sel_len (C := C) p j
  have hT1 : hasT ((j + 1 : Nat) : Int) t ((sel C 0 p).map (hm t)) = false := hasT_lt (fun u hu => by
    obtain ⟨x, hx, rfl⟩ := List.mem_map.1 hu
    have h4 := (sel_mem.1 hx).1
    show ((x : Nat) : Int) < ((j + 1 : Nat) : Int)
    omega)
  have hT2 : hasT ((j + 1 : Nat) : Int) (tgs (kyk s P ((j + 1 : Nat) : Int)) ((j + 1 : Nat) : Int) t ++ t) ((sel C p j).map (gm s P t)) = false := hasT_lt (fun u hu => by
    obtain ⟨x, hx, rfl⟩ := List.mem_map.1 hu
    have h4 := (sel_mem.1 hx).1
    show ((x : Nat) : Int) < ((j + 1 : Nat) : Int)
    omega)
  have hb : bpE 2 16 ((j + 1 : Nat) : Int) (tgs (kyk s P ((j + 1 : Nat) : Int)) ((j + 1 : Nat) : Int) t ++ t) ((sel C p j).map (gm s P t)) = 0 := by
    unfold bpE
    rw [if_neg (by omega), hT2, ho, e1, if_neg (by decide), List.length_nil, List.length_map, if_neg (by omega)]
  have e := wtg_put (S := mS s P C t p j) (q := own s P ((j + 1 : Nat) : Int) t) (t := bgn P ((j + 1 : Nat) : Int)) hs hT1 hb
  refine e.trans ?_
  unfold mS
  dsimp only
  rw [sel_step h2, if_pos hC, List.map_append]
  rfl
theorem mS_got (hP : POk P) {m p j : Nat} (h1 : m ≤ p) (h2 : p ≤ j) (h3 : ((j + 1 : Nat) : Int) ≤ P.ct) (h16 : P.ct ≤ 16) (hp : pte P ((j + 1 : Nat) : Int) = ((p : Nat) : Int)) (ht : t.size ≤ 1000) (hC : C (j + 1) = true) : got (mS s P C t m j) (own s P ((j + 1 : Nat) : Int) t) (bgn P ((j + 1 : Nat) : Int)) = (((sel C m p).map (hm t), 0), mS s P C t p (j + 1)) :=
  got_ok (own_form (by omega) h3 ht) (mS_lnp hP h1 h2 h3 h16 hp) (mS_put hP h2 h3 h16 hC)
theorem mS_skip {m j : Nat} (h1 : m ≤ j) (hC : C (j + 1) = false) : mS s P C t m (j + 1) = mS s P C t m j := by
  unfold mS
  rw [sel_step h1, hC]
  simp
theorem mS_ok (hP : POk P) {m j : Nat} (h1 : m ≤ j) (h3 : (j : Int) ≤ P.ct) (h16 : P.ct ≤ 16) (ht : t.size ≤ 1000) : RcOk (mS s P C t m j) ∧ Sml 1000 (mS s P C t m j) := by
  have l1 := sel_len (C := C) m j
  have l2 := sel_len (C := C) 0 m
  have e1 : (mS s P C t m j).L.length = (sel C m j).length := List.length_map _
  have e2 : (mS s P C t m j).B.length = (sel C 0 m).length := List.length_map _
  refine ⟨⟨hP, by show (0 : Int) ≤ ((m : Nat) : Int); omega, by show ((m : Nat) : Int) ≤ P.ct; omega, (by decide : (1 : Int) ≤ 16 ∧ (16 : Int) ≤ 64), (by decide : 1 ≤ 2 ∧ 2 ≤ 64), (by decide : (1 : Int) ≤ 16 ∧ (16 : Int) ≤ 64), fun u hu => ?_⟩, ?_⟩
  · obtain ⟨x, hx, rfl⟩ := List.mem_map.1 hu
    have h4 := (sel_mem.1 hx).1
    have e : (tgs (kyk s P x) x t ++ t).size = 16 + t.size := by rw [ByteArray.size_append, tgs_size]
    refine ⟨by show (1 : Int) ≤ ((x : Nat) : Int); omega, by show ((x : Nat) : Int) ≤ P.ct; omega, ?_, ?_⟩
    · show 16 ≤ (tgs (kyk s P x) x t ++ t).size; omega
    · show (tgs (kyk s P x) x t ++ t).size ≤ 1016; omega
  · exact ⟨by rw [e1, e2]; omega, (by decide : (0 : Int) ≤ 0), by rw [e1]; show (0 : Int) + (((sel C m j).length : Nat) : Int) ≤ 1000; omega, (by decide : (0 : Int) ≤ 0 ∧ (0 : Int) ≤ 1000)⟩
end
end Go.Proofs.YtcclcemdodoiiaaGreatDoor
