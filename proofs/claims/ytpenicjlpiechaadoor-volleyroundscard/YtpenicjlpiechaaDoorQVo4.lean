/- Volleys: New, Answer, Open, Ask, Take. -/
import Derived.Test.YtpenicjlpiechaaDoorQVo2
import Derived.Test.YtpenicjlpiechaaDoorQVo3
import Derived.WalkKit
import Derived.WalkSpells
import Derived.WalkLawsBesides
namespace Go.Proofs.YtpenicjlpiechaaDoor
set_option maxRecDepth 10000
open Go Go.RowKit
set_option linter.unusedVariables false
set_option linter.unusedSimpArgs false

def dv (d : Dw) : Dw × Value := (d, .bool true)
/-- A volley at p. -/
def vo (p : Nat) (S : Vy) : HP := ex fun m : Nat => [blk p [.string S.k, .int .i64 S.r, .map (some m), .string S.a] 91, mp kA m (S.d.map dv)]
theorem vo_open {w0 w : World} {R : List HP} {p : Nat} {S : Vy} (h : Ms w0 w (vo p S :: R)) : ∃ m, Ms w0 w (blk p [.string S.k, .int .i64 S.r, .map (some m), .string S.a] 91 :: mp kA m ((S.d).map dv) :: R) := h.opn
theorem vo_mk {w0 w : World} {R : List HP} {p m : Nat} {S : Vy} (h : Ms w0 w (blk p [.string S.k, .int .i64 S.r, .map (some m), .string S.a] 91 :: mp kA m ((S.d).map dv) :: R)) : Ms w0 w (vo p S :: R) := Ms.shut m h
theorem look_d (d : List Dw) (x : Dw) : (mlook (d.map dv) x).getD (.bool false) = .bool (decide (x ∈ d)) := by
  induction d with
  | nil => rfl
  | cons y d ih =>
    by_cases h : y = x
    · subst h
      simp [mlook, dv]
    · have e : mlook ((y :: d).map dv) x = mlook (d.map dv) x := by simp [mlook, dv, h]
      rw [e, ih]
      congr 1
      exact decide_eq_decide.2 ⟨fun h => List.mem_cons_of_mem _ h, fun h2 => (List.mem_cons.1 h2).resolve_left (fun e => h e.symm)⟩
theorem put_d (d : List Dw) (x : Dw) (h : x ∉ d) : mput (d.map dv) x (.bool true) = (d ++ [x]).map dv := by
  unfold mput
  rw [if_neg (by rw [List.map_map]; intro hm; obtain ⟨y, hy, e⟩ := List.mem_map.1 hm; exact h (by rw [← e]; exact hy)), List.map_append]
  rfl
theorem mb_in (t : Int) : (mb t).size ≤ 100 := by rw [mb_size]; decide
def dw (s : ByteArray) (h : s.size = 16) : Dw := ⟨s.data.toList, h⟩
theorem cut16 : cutN 16 = 16 := by decide
theorem one_bc (l : List UInt8) : ∀ v ∈ bc l, v.oneCell' = true := by
  intro v hv
  simp only [bc, List.mem_map] at hv
  obtain ⟨b, _, rfl⟩ := hv
  rfl
theorem tld_size {a : ByteArray} {t2 t3 : Int} (ha : a.size = 24) : (tld a t2 t3).size = 40 := by unfold tld; rw [ByteArray.size_append, ByteArray.size_append, mb_size, mb_size, ha]
theorem short_16 (k t g : ByteArray) (hg : fst k t 16 = g) (hk : k.size ≤ 549755813888) (ht : t.size ≤ 274877906944) (w : World) (hT : Tabs w) : Calls Tryd.prog 46 #[.string k, .string t, .int .i64 16] w fun e w' => e = .returned (.string g) ∧ Below w.heap.size w w' := by
  subst hg
  exact short_any k t 16 hk ht w hT
set_option maxHeartbeats 8000000 in
theorem answer_l (k a : ByteArray) (t2 t3 : Int) (w : World) (hT : Tabs w) (hk : k.size ≤ 3000) (ha : a.size = 24) (p t g r : ByteArray) (h1 : Shut (a ++ mb t2 = p)) (h2 : Shut (p ++ mb t3 = t)) (h3 : Shut (fst k t 16 = g)) (h4 : Shut (t ++ g = r)) (s1 : p.size = 32) (s2 : t.size = 40) (s3 : g.size = 16) : Calls Tryd.prog 19 #[.string k, .string a, .int .i64 t2, .int .i64 t3] w fun e w' => e = .returned (.tuple #[.string r, .int .i64 0]) ∧ Below w.heap.size w w' := by
  have hM := Ms.refl w
  go_enter Tryd.func19, Tryd.ntmps19
  refine wp_seq_k fun _ κ1 => wl_region (wl_fare kn ?_)
  simp (disch := omega) only [fx, pv, kx]
  refine wl_nil (κ1 _ _ ?_)
  refine wp_seq_k fun _ κ2 => wp_seq_k fun _ κ3 => wl_region (wl_fare kn ?_)
  simp (disch := omega) only [fx, pv, kx]
  refine wl_give rfl (g_lenT _ (a) (24) rfl (by rw [ha]; rfl) ?_)
  refine wl_fare kn ?_
  simp (disch := omega) only [fx, pv, kx]
  refine wl_nil (κ3 _ _ ?_)
  refine wp_cond_false rfl (wp_skip ?_)
  refine κ2 _ _ (wp_seq_k fun _ κ4 => ?_)
  refine wl_region (wl_fare kn ?_)
  simp (disch := omega) only [fx, pv, kx]
  refine wl_give rfl (g_cM hM (kf45 _ _) (vput_any (t2) w) rfl fun w5 hM => ?_)
  try simp only [nz]
  refine wl_give rfl (g_sadd 9 _ _ (a) (mb (t2)) (p) rfl rfl h1.out (by have := mb_in t2; omega) ?_)
  refine wl_fare kn ?_
  simp (disch := omega) only [fx, pv, kx]
  refine wl_give rfl (g_cM hM (kf45 _ _) (vput_any (t3) w5) rfl fun w6 hM => ?_)
  try simp only [nz]
  refine wl_give rfl (g_sadd 9 _ _ (p) (mb (t3)) (t) rfl rfl h2.out (by have := mb_in t3; omega) ?_)
  refine wl_fare kn ?_
  simp (disch := omega) only [fx, pv, kx]
  refine wl_nil (κ4 _ _ ?_)
  refine wp_seq_k fun _ κ7 => wl_region (wl_fare kn ?_)
  simp (disch := omega) only [fx, pv, kx]
  refine wl_give rfl (g_cM hM (kf46 _ _) (short_16 k t g h3.out (by omega) (by omega) w6 (hM.tabs hT)) rfl fun w8 hM => ?_)
  try simp only [nz]
  refine wl_give rfl (g_sadd 9 _ _ (t) (g) (r) rfl rfl h4.out (by omega) ?_)
  refine wl_fare kn ?_
  simp (disch := omega) only [fx, pv, kx]
  refine wl_nil (κ7 _ _ ?_)
  refine wp_ret ?_
  go_ret2
  exact ⟨rfl, hM.below⟩
theorem answer_y (k a : ByteArray) (t2 t3 : Int) (w : World) (hT : Tabs w) (hk : k.size ≤ 3000) (ha : a.size = 24) : Calls Tryd.prog 19 #[.string k, .string a, .int .i64 t2, .int .i64 t3] w fun e w' => e = .returned (.tuple #[.string (anw k a t2 t3), .int .i64 0]) ∧ Below w.heap.size w w' := by
  have s1 : (a ++ mb t2).size = 32 := by rw [ByteArray.size_append, mb_size, ha]
  have s2 := tld_size (t2 := t2) (t3 := t3) ha
  obtain ⟨g, hg⟩ : ∃ g, fst k (tld a t2 t3) 16 = g := ⟨_, rfl⟩
  have s3 : g.size = 16 := by rw [← hg, fst_size, cut16]
  have e : tld a t2 t3 ++ g = anw k a t2 t3 := by rw [← hg]; rfl
  obtain ⟨t, ht⟩ : ∃ t, tld a t2 t3 = t := ⟨_, rfl⟩
  obtain ⟨r, hr⟩ : ∃ r, anw k a t2 t3 = r := ⟨_, rfl⟩
  obtain ⟨p, hp⟩ : ∃ p, a ++ mb t2 = p := ⟨_, rfl⟩
  have h2 : p ++ mb t3 = t := by rw [← hp, ← ht]; rfl
  rw [hr]
  rw [ht] at hg e s2
  rw [hp] at s1
  rw [hr] at e
  exact answer_l k a t2 t3 w hT hk ha p t g r ⟨hp⟩ ⟨h2⟩ ⟨hg⟩ ⟨e⟩ s1 s2 s3
set_option maxHeartbeats 8000000 in
theorem new_n1 (k : ByteArray) (r : Int) (w : World) (hk : k = ⟨#[]⟩) : Calls Tryd.prog 17 #[.string k, .int .i64 r] w fun e w' => e = .returned (.tuple #[.pointer none, .int .i64 1]) ∧ Below w.heap.size w w' := by
  have hM := Ms.refl w
  go_enter Tryd.func17, Tryd.ntmps17
  refine wp_seq_k fun _ κ1 => wl_region (wl_fare kn ?_)
  simp (disch := omega) only [fx, pv, kx]
  refine wl_nil (κ1 _ _ ?_)
  refine wp_seq_k fun _ κ2 => wp_seq_k fun _ κ3 => wl_region (wl_fare kn ?_)
  simp (disch := omega) only [fx, pv, kx]
  refine wl_give rfl (g_steq 9 _ _ (k) (⟨#[]⟩) true rfl rfl (decide_eq_true hk) ?_)
  refine wl_fare kn ?_
  simp (disch := omega) only [fx, pv, kx]
  refine wl_nil (κ3 _ _ ?_)
  refine wp_cond_true rfl (wp_seq_k fun _ κ4 => ?_)
  refine wl_region (wl_fare kn ?_)
  simp (disch := omega) only [fx, pv, kx]
  refine wl_nil (κ4 _ _ ?_)
  refine wp_ret ?_
  go_ret2
  exact ⟨rfl, hM.below⟩
set_option maxHeartbeats 8000000 in
theorem new_y {w0 w : World} {R : List HP} (k : ByteArray) (r : Int) (hk : k ≠ ⟨#[]⟩) (hr : 0 ≤ r ∧ r ≤ 100000000) (hM : Ms w0 w R) : Calls Tryd.prog 17 #[.string k, .int .i64 r] w fun e w' => ∃ p : Nat, e = .returned (.tuple #[.pointer (some ⟨p, 0, none⟩), .int .i64 0]) ∧ Ms w0 w' (vo p ⟨k, r, [], ⟨#[]⟩⟩ :: R) := by
  go_enter Tryd.func17, Tryd.ntmps17
  refine wp_seq_k fun _ κ1 => wl_region (wl_fare kn ?_)
  simp (disch := omega) only [fx, pv, kx]
  refine wl_nil (κ1 _ _ ?_)
  refine wp_seq_k fun _ κ2 => wp_seq_k fun _ κ3 => wl_region (wl_fare kn ?_)
  simp (disch := omega) only [fx, pv, kx]
  refine wl_give rfl (g_steq 9 _ _ (k) (⟨#[]⟩) false rfl rfl (decide_eq_false hk) ?_)
  refine wl_fare kn ?_
  simp (disch := omega) only [fx, pv, kx]
  refine wl_give rfl (g_cM hM (kf23 _ _) (may_y r w hr) rfl fun w4 hM => wl_fare kn ?_)
  simp (disch := omega) only [fx, pv, kx]
  refine wl_nil (κ3 _ _ ?_)
  refine wp_cond_false rfl (wp_skip ?_)
  refine κ2 _ _ (wp_seq_k fun _ κ5 => ?_)
  refine wl_region (wl_fare kn ?_)
  simp (disch := omega) only [fx, pv, kx]
  refine wl_give rfl (g_mmap (enc := kA) hM fun w6 h_ => ?_)
  replace hM : Ms w0 w6 (mp kA (w4.heap.size) ([]) :: R) := h_
  clear h_
  try simp only [nz]
  refine wl_give rfl (g_bld91 _ _ _ (k) (r) ((w4.heap.size)) rfl rfl rfl ?_)
  try simp only [nz]
  refine wl_give rfl (g_box 91 _ ([.string (k), .int .i64 (r), .map (some (w4.heap.size)), .string (⟨#[]⟩)]) rfl fun w7 t_ b_ => ?_)
  replace hM := hM.new t_ b_
  clear t_ b_
  refine wl_fare kn ?_
  simp (disch := omega) only [fx, pv, kx]
  refine wl_nil (κ5 _ _ ?_)
  refine wp_ret ?_
  have h9 := vo_mk (S := ⟨k, r, [], ⟨#[]⟩⟩) ((hM.up 1 rfl).up 1 rfl)
  go_ret2
  exact ⟨_, rfl, h9⟩
theorem Ms.fresh1 {w0 w w' : World} {R : List HP} (hM : Ms w0 w R) {g : Nat} {cs : List Value} {t : TypeId} (h : Ms w w' [blk g cs t]) : Ms w0 w' (blk g cs t :: R) := by
  obtain ⟨F, ⟨F1, F2, ⟨h1, h2⟩, h3, h4, h5⟩, h6⟩ := h.mem
  exact hM.fresh h.below (h6 g ((h4 g).2 (.inl ((h1 g).2 rfl)))) h2
theorem parts_m {w0 w : World} {R : List HP} (s : ByteArray) (hs : s.size = 24) (hM : Ms w0 w R) : Calls Tryd.prog 48 #[.string s, .int .i64 8] w fun e w' => ∃ g : Nat, e = .returned (.slice (some ⟨g, 0, none⟩) 3 3) ∧ Ms w0 w' (blk g [.string (pcs s 0), .string (pcs s 1), .string (pcs s 2)] 9 :: R) :=
  (parts_any s w hs).mono fun e w' ⟨g, h1, h2⟩ => ⟨g, h1, hM.fresh1 h2⟩
set_option maxHeartbeats 8000000 in
theorem opn_y {w0 w : World} {R : List HP} {p : Nat} {S : Vy} {m : Nat} (ha : S.a ≠ ⟨#[]⟩) (hM : Ms w0 w (blk p [.string S.k, .int .i64 S.r, .map (some m), .string S.a] 91 :: R)) : Calls Tryd.prog 22 #[.pointer (some ⟨p, 0, none⟩)] w fun e w' => e = .returned (.bool true) ∧ Ms w0 w' (blk p [.string S.k, .int .i64 S.r, .map (some m), .string S.a] 91 :: R) := by
  go_enter Tryd.func22, Tryd.ntmps22
  refine wp_seq_k fun _ κ1 => wl_region (wl_fare kn ?_)
  simp (disch := omega) only [fx, pv, kx]
  refine wl_nil (κ1 _ _ ?_)
  refine wp_seq_k fun _ κ2 => wl_region (wl_fare kn ?_)
  simp (disch := omega) only [fx, pv, kx, (hM.get 0 rfl).cell 3 (.string (S.a)) rfl]
  refine wl_give rfl (g_strN _ _ (S.a) (⟨#[]⟩) false true rfl rfl (decide_eq_false ha) rfl ?_)
  refine wl_fare kn ?_
  simp (disch := omega) only [fx, pv, kx]
  refine wl_nil (κ2 _ _ ?_)
  refine wp_ret ?_
  go_ret
  exact ⟨rfl, (hM.up 0 rfl)⟩
theorem vopen_y {w0 w : World} {R : List HP} {p : Nat} {S : Vy} (ha : S.a ≠ ⟨#[]⟩) (hM : Ms w0 w (vo p S :: R)) : Calls Tryd.prog 22 #[.pointer (some ⟨p, 0, none⟩)] w fun e w' => e = .returned (.bool true) ∧ Ms w0 w' (vo p S :: R) := by
  obtain ⟨m, hM⟩ := vo_open hM
  exact (opn_y ha hM).mono fun e w' ⟨h1, h2⟩ => ⟨h1, vo_mk h2⟩
set_option maxHeartbeats 8000000 in
theorem opn_n {w0 w : World} {R : List HP} {p : Nat} {S : Vy} {m : Nat} (ha : S.a = ⟨#[]⟩) (hM : Ms w0 w (blk p [.string S.k, .int .i64 S.r, .map (some m), .string S.a] 91 :: R)) : Calls Tryd.prog 22 #[.pointer (some ⟨p, 0, none⟩)] w fun e w' => e = .returned (.bool false) ∧ Ms w0 w' (blk p [.string S.k, .int .i64 S.r, .map (some m), .string S.a] 91 :: R) := by
  go_enter Tryd.func22, Tryd.ntmps22
  refine wp_seq_k fun _ κ1 => wl_region (wl_fare kn ?_)
  simp (disch := omega) only [fx, pv, kx]
  refine wl_nil (κ1 _ _ ?_)
  refine wp_seq_k fun _ κ2 => wl_region (wl_fare kn ?_)
  simp (disch := omega) only [fx, pv, kx, (hM.get 0 rfl).cell 3 (.string (S.a)) rfl]
  refine wl_give rfl (g_strN _ _ (S.a) (⟨#[]⟩) true false rfl rfl (decide_eq_true ha) rfl ?_)
  refine wl_fare kn ?_
  simp (disch := omega) only [fx, pv, kx]
  refine wl_nil (κ2 _ _ ?_)
  refine wp_ret ?_
  go_ret
  exact ⟨rfl, (hM.up 0 rfl)⟩
theorem vopen_n {w0 w : World} {R : List HP} {p : Nat} {S : Vy} (ha : S.a = ⟨#[]⟩) (hM : Ms w0 w (vo p S :: R)) : Calls Tryd.prog 22 #[.pointer (some ⟨p, 0, none⟩)] w fun e w' => e = .returned (.bool false) ∧ Ms w0 w' (vo p S :: R) := by
  obtain ⟨m, hM⟩ := vo_open hM
  exact (opn_n ha hM).mono fun e w' ⟨h1, h2⟩ => ⟨h1, vo_mk h2⟩
set_option maxHeartbeats 8000000 in
theorem ask_n {w0 w : World} {R : List HP} {p : Nat} {S : Vy} (x : ByteArray) (t : Int) (hx : x.size ≠ 16) (hM : Ms w0 w (vo p S :: R)) : Calls Tryd.prog 18 #[.pointer (some ⟨p, 0, none⟩), .string x, .int .i64 t] w fun e w' => e = .returned (.tuple #[.string ⟨#[]⟩, .int .i64 5]) ∧ Ms w0 w' (vo p S :: R) := by
  obtain ⟨m, hM⟩ := vo_open hM
  go_enter Tryd.func18, Tryd.ntmps18
  refine wp_seq_k fun _ κ1 => wl_region (wl_fare kn ?_)
  simp (disch := omega) only [fx, pv, kx]
  refine wl_nil (κ1 _ _ ?_)
  refine wp_seq_k fun _ κ2 => wp_seq_k fun _ κ3 => wl_region (wl_fare kn ?_)
  simp (disch := omega) only [fx, pv, kx]
  refine wl_give rfl (g_lenT _ (x) (((x.size : Nat) : Int)) rfl (rfl) ?_)
  refine wl_fare kn ?_
  simp (disch := omega) only [fx, pv, kx, ((decide_eq_true (by omega)) : decide ((((x.size : Nat) : Int)) ≠ (16)) = true)]
  refine wl_nil (κ3 _ _ ?_)
  refine wp_cond_true rfl (wp_seq_k fun _ κ4 => ?_)
  refine wl_region (wl_fare kn ?_)
  simp (disch := omega) only [fx, pv, kx]
  refine wl_nil (κ4 _ _ ?_)
  refine wp_ret ?_
  have h9 := vo_mk (S := S) ((hM.up 1 rfl).up 1 rfl)
  go_ret2
  exact ⟨rfl, h9⟩
set_option maxHeartbeats 8000000 in
theorem ask_t {w0 w : World} {R : List HP} {p : Nat} {S : Vy} (x : ByteArray) (t : Int) (hx : x.size = 16) (hd : dw x hx ∈ S.d) (hM : Ms w0 w (vo p S :: R)) : Calls Tryd.prog 18 #[.pointer (some ⟨p, 0, none⟩), .string x, .int .i64 t] w fun e w' => e = .returned (.tuple #[.string ⟨#[]⟩, .int .i64 11]) ∧ Ms w0 w' (vo p S :: R) := by
  obtain ⟨m, hM⟩ := vo_open hM
  go_enter Tryd.func18, Tryd.ntmps18
  refine wp_seq_k fun _ κ1 => wl_region (wl_fare kn ?_)
  simp (disch := omega) only [fx, pv, kx]
  refine wl_nil (κ1 _ _ ?_)
  refine wp_seq_k fun _ κ2 => wp_seq_k fun _ κ3 => wl_region (wl_fare kn ?_)
  simp (disch := omega) only [fx, pv, kx]
  refine wl_give rfl (g_lenT _ (x) (16) rfl (by rw [hx]; rfl) ?_)
  refine wl_fare kn ?_
  simp (disch := omega) only [fx, pv, kx]
  refine wl_nil (κ3 _ _ ?_)
  refine wp_cond_false rfl (wp_skip ?_)
  refine κ2 _ _ (wp_seq_k fun _ κ4 => ?_)
  refine wl_region (wl_fare kn ?_)
  simp (disch := omega) only [fx, pv, kx]
  refine wl_give rfl (g_bytes _ (x) rfl hM fun cap6 w5 h_ => ?_)
  replace hM : Ms w0 w5 (byt (w.heap.size) (x) :: blk (p) ([.string (S.k), .int .i64 (S.r), .map (some m), .string (S.a)]) 91 :: mp kA m ((S.d).map dv) :: R) := h_
  clear h_
  try simp only [nz]
  refine wl_give rfl (g_arr _ (w.heap.size) (x).size cap6 rfl (by omega) ?_)
  try simp only [nz]
  refine wl_give rfl (g_ldB _ (w.heap.size) x rfl hx hM ?_)
  try simp only [nz]
  refine wl_give rfl (g_alloc 42 (bc (List.replicate 16 0)) zeroB16 fun w7 t_ b_ => ?_)
  replace hM := hM.new t_ b_
  clear t_ b_
  try simp only [nz]
  refine wl_give rfl (g_store_all 42 _ _ (w5.heap.size) (bc (x.data.toList)) _ 42 rfl rfl (hM.get 0 rfl) ((szB16 _ hx)) (bb_len hx rfl) (one_bc _) fun w8 t_ b_ => ?_)
  replace hM : Ms w0 w8 (blk (w5.heap.size) (bc (x.data.toList)) 42 :: byt (w.heap.size) (x) :: blk (p) ([.string (S.k), .int .i64 (S.r), .map (some m), .string (S.a)]) 91 :: mp kA m ((S.d).map dv) :: R) := hM.put 0 rfl t_ b_
  clear t_ b_
  try simp only [nz]
  refine wl_nil (κ4 _ _ ?_)
  refine wp_seq_k fun _ κ9 => wp_seq_k fun _ κ10 => ?_
  refine wp_region_fixed (by kernel_rfl) (by kernel_rfl) [.pointer (some ⟨p, 0, none⟩), .pointer (some ⟨p, 0, none⟩), .pointer (some ⟨p, 2, none⟩), .map (some m), .agg (bc (x.data.toList)).toArray, .bool true] (by rfl) (fun wx => Ms w0 wx (blk (w5.heap.size) (bc (x.data.toList)) 42 :: byt (w.heap.size) (x) :: blk (p) ([.string (S.k), .int .i64 (S.r), .map (some m), .string (S.a)]) 91 :: mp kA m ((S.d).map dv) :: R)) hM.drew ?_ ?_
  · simp only [fullL, Act.put, st_a, st_s, st_0]
    refine ⟨?_, ?_, ?_, ?_, ?_, ?_, trivial⟩
    · exact mvL rfl rfl
    · exact ncL rfl rfl
    · exact faL rfl rfl (fun _ => fa91_2 _ _ _)
    · exact fun wx hM => gw rfl (g_ld1 89 _ (p) (2) _ rfl (ld89 _ _ _ _ ((hM.get 2 rfl).cell (2) _ (rfl))) ⟨rfl, hM⟩)
    · exact fun wx hM => gw rfl (g_load_all 42 _ (w5.heap.size) (bc (x.data.toList)) 42 _ rfl (hM.get 0 rfl) Tryd.underlying42 rfl ((szB16 _ hx)) ⟨rfl, hM⟩)
    · exact fun wx hM => gw rfl (g_look keyA Tryd.underlying89 Tryd.zeroValue4 _ _ (dw x hx) (.bool true) rfl rfl (show Ms w0 _ (mp kA m ((S.d).map dv) :: blk (w5.heap.size) (bc (x.data.toList)) 42 :: byt (w.heap.size) (x) :: blk (p) ([.string (S.k), .int .i64 (S.r), .map (some m), .string (S.a)]) 91 :: R) from (hM.up 3 rfl)) ((look_d _ _).trans (by rw [decide_eq_true hd])) ⟨rfl, hM⟩)
  · simp only [fullL, Act.put, st_a, st_s, st_0]
    intro w11 hM
    refine κ10 _ _ (wp_cond_true rfl ?_)
    refine wp_seq_k fun _ κ12 => wl_region (wl_fare kn ?_)
    simp (disch := omega) only [fx, pv, kx]
    refine wl_nil (κ12 _ _ ?_)
    refine wp_ret ?_
    have h9 := vo_mk (S := S) ((((hM.erase 0).erase 0).up 1 rfl).up 1 rfl)
    go_ret2
    exact ⟨rfl, h9⟩
set_option maxHeartbeats 8000000 in
theorem ask_y {w0 w : World} {R : List HP} {p : Nat} {S : Vy} (x : ByteArray) (t : Int) (hx : x.size = 16) (hd : dw x hx ∉ S.d) (hM : Ms w0 w (vo p S :: R)) : Calls Tryd.prog 18 #[.pointer (some ⟨p, 0, none⟩), .string x, .int .i64 t] w fun e w' => e = .returned (.tuple #[.string (x ++ mb t), .int .i64 0]) ∧ Ms w0 w' (vo p ⟨S.k, S.r, S.d ++ [dw x hx], x ++ mb t⟩ :: R) := by
  obtain ⟨m, hM⟩ := vo_open hM
  go_enter Tryd.func18, Tryd.ntmps18
  refine wp_seq_k fun _ κ1 => wl_region (wl_fare kn ?_)
  simp (disch := omega) only [fx, pv, kx]
  refine wl_nil (κ1 _ _ ?_)
  refine wp_seq_k fun _ κ2 => wp_seq_k fun _ κ3 => wl_region (wl_fare kn ?_)
  simp (disch := omega) only [fx, pv, kx]
  refine wl_give rfl (g_lenT _ (x) (16) rfl (by rw [hx]; rfl) ?_)
  refine wl_fare kn ?_
  simp (disch := omega) only [fx, pv, kx]
  refine wl_nil (κ3 _ _ ?_)
  refine wp_cond_false rfl (wp_skip ?_)
  refine κ2 _ _ (wp_seq_k fun _ κ4 => ?_)
  refine wl_region (wl_fare kn ?_)
  simp (disch := omega) only [fx, pv, kx]
  refine wl_give rfl (g_bytes _ (x) rfl hM fun cap6 w5 h_ => ?_)
  replace hM : Ms w0 w5 (byt (w.heap.size) (x) :: blk (p) ([.string (S.k), .int .i64 (S.r), .map (some m), .string (S.a)]) 91 :: mp kA m ((S.d).map dv) :: R) := h_
  clear h_
  try simp only [nz]
  refine wl_give rfl (g_arr _ (w.heap.size) (x).size cap6 rfl (by omega) ?_)
  try simp only [nz]
  refine wl_give rfl (g_ldB _ (w.heap.size) x rfl hx hM ?_)
  try simp only [nz]
  refine wl_give rfl (g_alloc 42 (bc (List.replicate 16 0)) zeroB16 fun w7 t_ b_ => ?_)
  replace hM := hM.new t_ b_
  clear t_ b_
  try simp only [nz]
  refine wl_give rfl (g_store_all 42 _ _ (w5.heap.size) (bc (x.data.toList)) _ 42 rfl rfl (hM.get 0 rfl) ((szB16 _ hx)) (bb_len hx rfl) (one_bc _) fun w8 t_ b_ => ?_)
  replace hM : Ms w0 w8 (blk (w5.heap.size) (bc (x.data.toList)) 42 :: byt (w.heap.size) (x) :: blk (p) ([.string (S.k), .int .i64 (S.r), .map (some m), .string (S.a)]) 91 :: mp kA m ((S.d).map dv) :: R) := hM.put 0 rfl t_ b_
  clear t_ b_
  try simp only [nz]
  refine wl_nil (κ4 _ _ ?_)
  refine wp_seq_k fun _ κ9 => wp_seq_k fun _ κ10 => ?_
  refine wp_region_fixed (by kernel_rfl) (by kernel_rfl) [.pointer (some ⟨p, 0, none⟩), .pointer (some ⟨p, 0, none⟩), .pointer (some ⟨p, 2, none⟩), .map (some m), .agg (bc (x.data.toList)).toArray, .bool false] (by rfl) (fun wx => Ms w0 wx (blk (w5.heap.size) (bc (x.data.toList)) 42 :: byt (w.heap.size) (x) :: blk (p) ([.string (S.k), .int .i64 (S.r), .map (some m), .string (S.a)]) 91 :: mp kA m ((S.d).map dv) :: R)) hM.drew ?_ ?_
  · simp only [fullL, Act.put, st_a, st_s, st_0]
    refine ⟨?_, ?_, ?_, ?_, ?_, ?_, trivial⟩
    · exact mvL rfl rfl
    · exact ncL rfl rfl
    · exact faL rfl rfl (fun _ => fa91_2 _ _ _)
    · exact fun wx hM => gw rfl (g_ld1 89 _ (p) (2) _ rfl (ld89 _ _ _ _ ((hM.get 2 rfl).cell (2) _ (rfl))) ⟨rfl, hM⟩)
    · exact fun wx hM => gw rfl (g_load_all 42 _ (w5.heap.size) (bc (x.data.toList)) 42 _ rfl (hM.get 0 rfl) Tryd.underlying42 rfl ((szB16 _ hx)) ⟨rfl, hM⟩)
    · exact fun wx hM => gw rfl (g_look keyA Tryd.underlying89 Tryd.zeroValue4 _ _ (dw x hx) (.bool false) rfl rfl (show Ms w0 _ (mp kA m ((S.d).map dv) :: blk (w5.heap.size) (bc (x.data.toList)) 42 :: byt (w.heap.size) (x) :: blk (p) ([.string (S.k), .int .i64 (S.r), .map (some m), .string (S.a)]) 91 :: R) from (hM.up 3 rfl)) ((look_d _ _).trans (by rw [decide_eq_false hd])) ⟨rfl, hM⟩)
  · simp only [fullL, Act.put, st_a, st_s, st_0]
    intro w11 hM
    refine κ10 _ _ (wp_cond_false rfl ?_)
    refine wp_skip (κ9 _ _ ?_)
    refine wp_seq_k fun _ κ12 => ?_
    refine wp_region_steps (by kernel_rfl) (by kernel_rfl) [5] [0, 0, 0, 0, 0, 0] [0, 0, 0, 0, 0, 1] (by kernel_rfl) (Pm := Unit) (fun π => [.pointer (some ⟨p, 0, none⟩), .pointer (some ⟨p, 0, none⟩), .pointer (some ⟨p, 2, none⟩), .map (some m), .agg (bc (x.data.toList)).toArray, undef]) (fun _ => by rfl) (fun j_ π wx => match j_ with | 0 => Ms w0 wx (blk (w5.heap.size) (bc (x.data.toList)) 42 :: byt (w.heap.size) (x) :: blk (p) ([.string (S.k), .int .i64 (S.r), .map (some m), .string (S.a)]) 91 :: mp kA m ((S.d).map dv) :: R) | _ => Ms w0 wx (mp kA m (mput ((S.d).map dv) (dw x hx) (.bool true)) :: blk (w5.heap.size) (bc (x.data.toList)) 42 :: byt (w.heap.size) (x) :: blk (p) ([.string (S.k), .int .i64 (S.r), .map (some m), .string (S.a)]) 91 :: R)) () hM.drew ?_ ?_ ?_
    · intro j_ k_ o_ hj_ ho_ π wx hM
      rcases j_ with _ | j_
      · obtain rfl := Option.some.inj hj_
        cases so ho_
        simp only [fullL, Act.put, st_a, st_s, st_0]
        change Ms _ _ _ at hM
        exact gw rfl (g_mup keyA Tryd.underlying89 _ _ _ (dw x hx) (.bool true) rfl rfl rfl (show Ms w0 wx (mp kA m ((S.d).map dv) :: blk (w5.heap.size) (bc (x.data.toList)) 42 :: byt (w.heap.size) (x) :: blk (p) ([.string (S.k), .int .i64 (S.r), .map (some m), .string (S.a)]) 91 :: R) from (hM.up 3 rfl)) (fun  w' h_ => ⟨(), rfl, (fun _ _ _ => by first | rfl | trivial), h_⟩))
      · simp at hj_
    · intro i_ o_ ho_ hi_ j_ hd_ hh_ hj_ π wx hM
      simp only [fullL, Act.put, st_a, st_s, st_0]
      rcases i_ with _ | _ | _ | _ | _ | _ | i_
      · cases so ho_
        exact gw rfl (g_move _ _ rfl ⟨rfl, hM⟩)
      · cases so ho_
        exact gw rfl (g_nil _ _ rfl ⟨rfl, hM⟩)
      · cases so ho_
        exact gw rfl (g_fa _ _ _ _ _ _ rfl (fa91_2 _ _ _) ⟨rfl, hM⟩)
      · cases so ho_
        rcases j_ with _ | _ | j_
        · change Ms _ _ _ at hM
          exact gw rfl (g_ld1 89 _ (p) (2) _ rfl (ld89 _ _ _ _ ((hM.get 2 rfl).cell (2) _ (rfl))) ⟨rfl, hM⟩)
        · exact absurd hh_ (by decide)
        · exact absurd hj_ (by simp)
      · cases so ho_
        rcases j_ with _ | _ | j_
        · change Ms _ _ _ at hM
          exact gw rfl (g_load_all 42 _ (w5.heap.size) (bc (x.data.toList)) 42 _ rfl (hM.get 0 rfl) Tryd.underlying42 rfl ((szB16 _ hx)) ⟨rfl, hM⟩)
        · exact absurd hh_ (by decide)
        · exact absurd hj_ (by simp)
      · exact absurd (by decide) hi_
      · simp at ho_
    · simp only [fullL, Act.put, st_a, st_s, st_0]
      rintro ⟨⟩ w13 hM
      replace hM : Ms w0 w13 (mp kA m (mput ((S.d).map dv) (dw x hx) (.bool true)) :: blk (w5.heap.size) (bc (x.data.toList)) 42 :: byt (w.heap.size) (x) :: blk (p) ([.string (S.k), .int .i64 (S.r), .map (some m), .string (S.a)]) 91 :: R) := hM
      refine κ12 _ _ (wp_seq_k fun _ κ14 => ?_)
      refine wl_region (wl_fare kn ?_)
      simp (disch := omega) only [fx, pv, kx]
      refine wl_give rfl (g_cM hM (kf45 _ _) (vput_any (t) w13) rfl fun w15 hM => ?_)
      try simp only [nz]
      refine wl_give rfl (g_sadd 9 _ _ (x) (mb (t)) (x ++ mb t) rfl rfl rfl (by have := mb_in t; omega) ?_)
      refine wl_fare kn ?_
      simp (disch := omega) only [fx, pv, kx]
      refine wl_give rfl (g_st1 9 _ _ (p) 3 (.string (x ++ mb t)) _ 91 rfl rfl (hM.get 3 rfl) (show 3 < 4 by decide) rfl rfl size9 fun w16 t_ b_ => ?_)
      replace hM : Ms w0 w16 (mp kA m (mput ((S.d).map dv) (dw x hx) (.bool true)) :: blk (w5.heap.size) (bc (x.data.toList)) 42 :: byt (w.heap.size) (x) :: blk (p) ([.string (S.k), .int .i64 (S.r), .map (some m), .string (x ++ mb t)]) 91 :: R) := hM.put 3 rfl t_ b_
      clear t_ b_
      try simp only [nz]
      refine wl_nil (κ14 _ _ ?_)
      refine wp_seq_k fun _ κ17 => wl_region (wl_fare kn ?_)
      simp (config := { maxSteps := 10000000 }) (disch := omega) only [fx, pv, kx, (hM.get 3 rfl).cell 3 (.string (x ++ mb t)) rfl]
      refine wl_nil (κ17 _ _ ?_)
      refine wp_ret ?_
      have h9 := ((((hM.erase 1).erase 1).up 0 rfl).up 1 rfl)
      rw [put_d _ _ hd] at h9
      replace h9 := vo_mk (S := ⟨S.k, S.r, S.d ++ [dw x hx], x ++ mb t⟩) h9
      go_ret2
      exact ⟨rfl, h9⟩
/-- What a volley takes. -/
def U3 (x : ByteArray) : ByteArray := (x.extract 0 40).extract 16 (x.extract 0 40).size
def tkv (S : Vy) (x : ByteArray) (t : Int) : (Int × Int × Int) × Int := vrd (tm (pcs (U3 x) 0)) (tm (pcs (U3 x) 1)) (tm (pcs (U3 x) 2)) t S.r
def tk (S : Vy) (x : ByteArray) (t : Int) : ((Int × Int × Int) × Int) × Vy :=
  if S.a = ⟨#[]⟩ then (((0, 0, 0), 10), S)
  else if x.size ≠ 56 then (((0, 0, 0), 5), S)
  else if x.extract 0 24 ≠ S.a then (((0, 0, 0), 2), S)
  else if rgt S.k (x.extract 0 40) (x.extract 40 x.size) = false then (((0, 0, 0), 12), S)
  else (tkv S x t, ⟨S.k, S.r, S.d, ⟨#[]⟩⟩)
theorem tm_in (s : ByteArray) : Wd.In64 (tm s) := by unfold tm Wd.In64; rw [IntKind.wrap_i64]; omega
theorem pcs_size (s : ByteArray) (j : Nat) : (pcs s j).size ≤ 8 := by unfold pcs; rw [ByteArray.size_extract]; omega
set_option maxHeartbeats 8000000 in
theorem tk_a {w0 w : World} {R : List HP} {p : Nat} {S : Vy} (hT : Tabs w0) (x : ByteArray) (t : Int) (ha : S.a = ⟨#[]⟩) (hM : Ms w0 w (vo p S :: R)) : Calls Tryd.prog 20 #[.pointer (some ⟨p, 0, none⟩), .string x, .int .i64 t] w fun e w' => e = .returned (.tuple #[.agg (smc 0 0 0).toArray, .int .i64 (10)]) ∧ Ms w0 w' (vo p (S) :: R) := by
  obtain ⟨m, hM⟩ := vo_open hM
  go_enter Tryd.func20, Tryd.ntmps20
  refine wp_seq_k fun _ κ1 => wl_region (wl_give rfl (g_alloc 23 (smc (0) (0) (0)) zeroSm ?_))
  intro w2 t_ b_
  replace hM := hM.new t_ b_
  clear t_ b_
  refine wl_fare kn ?_
  simp (disch := omega) only [fx, pv, kx]
  refine wl_nil (κ1 _ _ ?_)
  refine wp_seq_k fun _ κ3 => wp_seq_k fun _ κ4 => wl_region (wl_fare kn ?_)
  simp (disch := omega) only [fx, pv, kx]
  refine wl_give rfl (g_call 22 _ _ [.pointer (some ⟨p, 0, none⟩)] (kf22 _ _) rfl ((opn_n ha (show Ms w0 w2 (blk (p) ([.string (S.k), .int .i64 (S.r), .map (some m), .string (S.a)]) 91 :: blk (w.heap.size) (smc (0) (0) (0)) 23 :: mp kA m ((S.d).map dv) :: R) from (hM.up 1 rfl))).mono ?_))
  rintro e w5 ⟨rfl, h_⟩
  refine ⟨_, rfl, ?_⟩
  replace hM : Ms w0 w5 (blk (p) ([.string (S.k), .int .i64 (S.r), .map (some m), .string (S.a)]) 91 :: blk (w.heap.size) (smc (0) (0) (0)) 23 :: mp kA m ((S.d).map dv) :: R) := h_
  clear h_
  refine wl_fare kn ?_
  simp (disch := omega) only [fx, pv, kx]
  refine wl_nil (κ4 _ _ ?_)
  refine wp_cond_true rfl (wp_seq_k fun _ κ6 => ?_)
  refine wl_region (wl_give rfl (g_bldSm_n   ?_))
  try simp only [nz]
  refine wl_give rfl (g_store_all 23 _ _ (w.heap.size) (smc (0) (0) (0)) _ 23 rfl rfl (hM.get 1 rfl) (szSm _ _ _) (rfl) (one_smc _ _ _) fun w7 t_ b_ => ?_)
  replace hM : Ms w0 w7 (blk (p) ([.string (S.k), .int .i64 (S.r), .map (some m), .string (S.a)]) 91 :: blk (w.heap.size) (smc (0) (0) (0)) 23 :: mp kA m ((S.d).map dv) :: R) := hM.put 1 rfl t_ b_
  clear t_ b_
  refine wl_fare kn ?_
  simp (disch := omega) only [fx, pv, kx]
  refine wl_nil (κ6 _ _ ?_)
  refine wp_ret ?_
  (try simp only [Exit.inBlock, Exit.then])
  have hb9 := (hM.get 1 rfl)
  have h9 := vo_mk (S := S) (((hM.erase 1).up 1 rfl).up 1 rfl)
  exact bodyPost_ret (results_blk_tmp rfl _ (smc (0) (0) (0)) (.int .i64 (10)) _ rfl rfl hb9 Tryd.underlying23 rfl (szSm _ _ _)) rfl ⟨rfl, h9⟩
set_option maxHeartbeats 8000000 in
theorem tk_b {w0 w : World} {R : List HP} {p : Nat} {S : Vy} (hT : Tabs w0) (x : ByteArray) (t : Int) (ha : S.a ≠ ⟨#[]⟩) (hx : x.size ≠ 56) (hM : Ms w0 w (vo p S :: R)) : Calls Tryd.prog 20 #[.pointer (some ⟨p, 0, none⟩), .string x, .int .i64 t] w fun e w' => e = .returned (.tuple #[.agg (smc 0 0 0).toArray, .int .i64 (5)]) ∧ Ms w0 w' (vo p (S) :: R) := by
  obtain ⟨m, hM⟩ := vo_open hM
  go_enter Tryd.func20, Tryd.ntmps20
  refine wp_seq_k fun _ κ1 => wl_region (wl_give rfl (g_alloc 23 (smc (0) (0) (0)) zeroSm ?_))
  intro w2 t_ b_
  replace hM := hM.new t_ b_
  clear t_ b_
  refine wl_fare kn ?_
  simp (disch := omega) only [fx, pv, kx]
  refine wl_nil (κ1 _ _ ?_)
  refine wp_seq_k fun _ κ3 => wp_seq_k fun _ κ4 => wl_region (wl_fare kn ?_)
  simp (disch := omega) only [fx, pv, kx]
  refine wl_give rfl (g_call 22 _ _ [.pointer (some ⟨p, 0, none⟩)] (kf22 _ _) rfl ((opn_y ha (show Ms w0 w2 (blk (p) ([.string (S.k), .int .i64 (S.r), .map (some m), .string (S.a)]) 91 :: blk (w.heap.size) (smc (0) (0) (0)) 23 :: mp kA m ((S.d).map dv) :: R) from (hM.up 1 rfl))).mono ?_))
  rintro e w5 ⟨rfl, h_⟩
  refine ⟨_, rfl, ?_⟩
  replace hM : Ms w0 w5 (blk (p) ([.string (S.k), .int .i64 (S.r), .map (some m), .string (S.a)]) 91 :: blk (w.heap.size) (smc (0) (0) (0)) 23 :: mp kA m ((S.d).map dv) :: R) := h_
  clear h_
  refine wl_fare kn ?_
  simp (disch := omega) only [fx, pv, kx]
  refine wl_nil (κ4 _ _ ?_)
  refine wp_cond_false rfl (wp_skip ?_)
  refine κ3 _ _ (wp_seq_k fun _ κ6 => ?_)
  refine wp_seq_k fun _ κ7 => wl_region (wl_fare kn ?_)
  simp (disch := omega) only [fx, pv, kx]
  refine wl_give rfl (g_lenT _ (x) (((x.size : Nat) : Int)) rfl (rfl) ?_)
  refine wl_fare kn ?_
  simp (disch := omega) only [fx, pv, kx, ((decide_eq_true (by omega)) : decide ((((x.size : Nat) : Int)) ≠ (56)) = true)]
  refine wl_nil (κ7 _ _ ?_)
  refine wp_cond_true rfl (wp_seq_k fun _ κ8 => ?_)
  refine wl_region (wl_give rfl (g_bldSm_n   ?_))
  try simp only [nz]
  refine wl_give rfl (g_store_all 23 _ _ (w.heap.size) (smc (0) (0) (0)) _ 23 rfl rfl (hM.get 1 rfl) (szSm _ _ _) (rfl) (one_smc _ _ _) fun w9 t_ b_ => ?_)
  replace hM : Ms w0 w9 (blk (p) ([.string (S.k), .int .i64 (S.r), .map (some m), .string (S.a)]) 91 :: blk (w.heap.size) (smc (0) (0) (0)) 23 :: mp kA m ((S.d).map dv) :: R) := hM.put 1 rfl t_ b_
  clear t_ b_
  refine wl_fare kn ?_
  simp (disch := omega) only [fx, pv, kx]
  refine wl_nil (κ8 _ _ ?_)
  refine wp_ret ?_
  (try simp only [Exit.inBlock, Exit.then])
  have hb9 := (hM.get 1 rfl)
  have h9 := vo_mk (S := S) (((hM.erase 1).up 1 rfl).up 1 rfl)
  exact bodyPost_ret (results_blk_tmp rfl _ (smc (0) (0) (0)) (.int .i64 (5)) _ rfl rfl hb9 Tryd.underlying23 rfl (szSm _ _ _)) rfl ⟨rfl, h9⟩
set_option maxHeartbeats 8000000 in
theorem tk_c {w0 w : World} {R : List HP} {p : Nat} {S : Vy} (hT : Tabs w0) (x : ByteArray) (t : Int) (ha : S.a ≠ ⟨#[]⟩) (hx : x.size = 56) (hf : ¬ x.extract 0 24 = S.a) (hM : Ms w0 w (vo p S :: R)) : Calls Tryd.prog 20 #[.pointer (some ⟨p, 0, none⟩), .string x, .int .i64 t] w fun e w' => e = .returned (.tuple #[.agg (smc 0 0 0).toArray, .int .i64 (2)]) ∧ Ms w0 w' (vo p (S) :: R) := by
  obtain ⟨m, hM⟩ := vo_open hM
  go_enter Tryd.func20, Tryd.ntmps20
  refine wp_seq_k fun _ κ1 => wl_region (wl_give rfl (g_alloc 23 (smc (0) (0) (0)) zeroSm ?_))
  intro w2 t_ b_
  replace hM := hM.new t_ b_
  clear t_ b_
  refine wl_fare kn ?_
  simp (disch := omega) only [fx, pv, kx]
  refine wl_nil (κ1 _ _ ?_)
  refine wp_seq_k fun _ κ3 => wp_seq_k fun _ κ4 => wl_region (wl_fare kn ?_)
  simp (disch := omega) only [fx, pv, kx]
  refine wl_give rfl (g_call 22 _ _ [.pointer (some ⟨p, 0, none⟩)] (kf22 _ _) rfl ((opn_y ha (show Ms w0 w2 (blk (p) ([.string (S.k), .int .i64 (S.r), .map (some m), .string (S.a)]) 91 :: blk (w.heap.size) (smc (0) (0) (0)) 23 :: mp kA m ((S.d).map dv) :: R) from (hM.up 1 rfl))).mono ?_))
  rintro e w5 ⟨rfl, h_⟩
  refine ⟨_, rfl, ?_⟩
  replace hM : Ms w0 w5 (blk (p) ([.string (S.k), .int .i64 (S.r), .map (some m), .string (S.a)]) 91 :: blk (w.heap.size) (smc (0) (0) (0)) 23 :: mp kA m ((S.d).map dv) :: R) := h_
  clear h_
  refine wl_fare kn ?_
  simp (disch := omega) only [fx, pv, kx]
  refine wl_nil (κ4 _ _ ?_)
  refine wp_cond_false rfl (wp_skip ?_)
  refine κ3 _ _ (wp_seq_k fun _ κ6 => ?_)
  refine wp_seq_k fun _ κ7 => wl_region (wl_fare kn ?_)
  simp (disch := omega) only [fx, pv, kx]
  refine wl_give rfl (g_lenT _ (x) (56) rfl (by rw [hx]; rfl) ?_)
  refine wl_fare kn ?_
  simp (disch := omega) only [fx, pv, kx]
  refine wl_nil (κ7 _ _ ?_)
  refine wp_cond_false rfl (wp_skip ?_)
  refine κ6 _ _ (wp_seq_k fun _ κ8 => ?_)
  refine wp_region_fixed (by kernel_rfl) (by kernel_rfl) [.string (x), .string ((x).extract 0 24), .string (x), .string ((x).extract 0 40), .string (x), .string ((x).extract 40 (x).size), .string ((x).extract 0 24), .string ((x).extract 0 40), .string ((x).extract 40 (x).size)] (by rfl) (fun wx => Ms w0 wx (blk (p) ([.string (S.k), .int .i64 (S.r), .map (some m), .string (S.a)]) 91 :: blk (w.heap.size) (smc (0) (0) (0)) 23 :: mp kA m ((S.d).map dv) :: R)) hM.drew ?_ ?_
  · simp only [fullL, Act.put, st_a, st_s, st_0]
    refine ⟨?_, ?_, ?_, ?_, ?_, ?_, ?_, ?_, ?_, trivial⟩
    · exact mvL rfl rfl
    · exact fun wx hM => gw rfl (g_sl_h _ _ (x) ((x).extract 0 24) 24 rfl rfl (by rw [hx]; decide) rfl ⟨rfl, hM⟩)
    · exact mvL rfl rfl
    · exact fun wx hM => gw rfl (g_sl_h _ _ (x) ((x).extract 0 40) 40 rfl rfl (by rw [hx]; decide) rfl ⟨rfl, hM⟩)
    · exact mvL rfl rfl
    · exact fun wx hM => gw rfl (g_sl_l _ _ (x) ((x).extract 40 (x).size) 40 rfl rfl (by rw [hx]; decide) rfl ⟨rfl, hM⟩)
    · exact asL rfl rfl
    · exact asL rfl rfl
    · exact asL rfl rfl
  · simp only [fullL, Act.put, st_a, st_s, st_0]
    intro w9 hM
    refine κ8 _ _ (wp_seq_k fun _ κ10 => ?_)
    refine wp_seq_k fun _ κ11 => wl_region (wl_fare kn ?_)
    simp (config := { maxSteps := 10000000 }) (disch := omega) only [fx, pv, kx, (hM.get 0 rfl).cell 3 (.string (S.a)) rfl]
    refine wl_give rfl (g_strN _ _ ((x).extract 0 24) (S.a) false true rfl rfl (decide_eq_false hf) rfl ?_)
    try simp only [nz]
    refine wl_nil (κ11 _ _ ?_)
    refine wp_cond_true rfl (wp_seq_k fun _ κ12 => ?_)
    refine wl_region (wl_give rfl (g_bldSm_n   ?_))
    try simp only [nz]
    refine wl_give rfl (g_store_all 23 _ _ (w.heap.size) (smc (0) (0) (0)) _ 23 rfl rfl (hM.get 1 rfl) (szSm _ _ _) (rfl) (one_smc _ _ _) fun w13 t_ b_ => ?_)
    replace hM : Ms w0 w13 (blk (p) ([.string (S.k), .int .i64 (S.r), .map (some m), .string (S.a)]) 91 :: blk (w.heap.size) (smc (0) (0) (0)) 23 :: mp kA m ((S.d).map dv) :: R) := hM.put 1 rfl t_ b_
    clear t_ b_
    refine wl_fare kn ?_
    simp (disch := omega) only [fx, pv, kx]
    refine wl_nil (κ12 _ _ ?_)
    refine wp_ret ?_
    (try simp only [Exit.inBlock, Exit.then])
    have hb9 := (hM.get 1 rfl)
    have h9 := vo_mk (S := S) (((hM.erase 1).up 1 rfl).up 1 rfl)
    exact bodyPost_ret (results_blk_tmp rfl _ (smc (0) (0) (0)) (.int .i64 (2)) _ rfl rfl hb9 Tryd.underlying23 rfl (szSm _ _ _)) rfl ⟨rfl, h9⟩
set_option maxHeartbeats 8000000 in
theorem tk_d {w0 w : World} {R : List HP} {p : Nat} {S : Vy} (hT : Tabs w0) (x : ByteArray) (t : Int) (hk : S.k.size ≤ 3000) (ha : S.a ≠ ⟨#[]⟩) (hx : x.size = 56) (hf : x.extract 0 24 = S.a) (hr : rgt S.k (x.extract 0 40) (x.extract 40 x.size) = false) (hM : Ms w0 w (vo p S :: R)) : Calls Tryd.prog 20 #[.pointer (some ⟨p, 0, none⟩), .string x, .int .i64 t] w fun e w' => e = .returned (.tuple #[.agg (smc 0 0 0).toArray, .int .i64 (12)]) ∧ Ms w0 w' (vo p (S) :: R) := by
  obtain ⟨m, hM⟩ := vo_open hM
  go_enter Tryd.func20, Tryd.ntmps20
  refine wp_seq_k fun _ κ1 => wl_region (wl_give rfl (g_alloc 23 (smc (0) (0) (0)) zeroSm ?_))
  intro w2 t_ b_
  replace hM := hM.new t_ b_
  clear t_ b_
  refine wl_fare kn ?_
  simp (disch := omega) only [fx, pv, kx]
  refine wl_nil (κ1 _ _ ?_)
  refine wp_seq_k fun _ κ3 => wp_seq_k fun _ κ4 => wl_region (wl_fare kn ?_)
  simp (disch := omega) only [fx, pv, kx]
  refine wl_give rfl (g_call 22 _ _ [.pointer (some ⟨p, 0, none⟩)] (kf22 _ _) rfl ((opn_y ha (show Ms w0 w2 (blk (p) ([.string (S.k), .int .i64 (S.r), .map (some m), .string (S.a)]) 91 :: blk (w.heap.size) (smc (0) (0) (0)) 23 :: mp kA m ((S.d).map dv) :: R) from (hM.up 1 rfl))).mono ?_))
  rintro e w5 ⟨rfl, h_⟩
  refine ⟨_, rfl, ?_⟩
  replace hM : Ms w0 w5 (blk (p) ([.string (S.k), .int .i64 (S.r), .map (some m), .string (S.a)]) 91 :: blk (w.heap.size) (smc (0) (0) (0)) 23 :: mp kA m ((S.d).map dv) :: R) := h_
  clear h_
  refine wl_fare kn ?_
  simp (disch := omega) only [fx, pv, kx]
  refine wl_nil (κ4 _ _ ?_)
  refine wp_cond_false rfl (wp_skip ?_)
  refine κ3 _ _ (wp_seq_k fun _ κ6 => ?_)
  refine wp_seq_k fun _ κ7 => wl_region (wl_fare kn ?_)
  simp (disch := omega) only [fx, pv, kx]
  refine wl_give rfl (g_lenT _ (x) (56) rfl (by rw [hx]; rfl) ?_)
  refine wl_fare kn ?_
  simp (disch := omega) only [fx, pv, kx]
  refine wl_nil (κ7 _ _ ?_)
  refine wp_cond_false rfl (wp_skip ?_)
  refine κ6 _ _ (wp_seq_k fun _ κ8 => ?_)
  refine wp_region_fixed (by kernel_rfl) (by kernel_rfl) [.string (x), .string ((x).extract 0 24), .string (x), .string ((x).extract 0 40), .string (x), .string ((x).extract 40 (x).size), .string ((x).extract 0 24), .string ((x).extract 0 40), .string ((x).extract 40 (x).size)] (by rfl) (fun wx => Ms w0 wx (blk (p) ([.string (S.k), .int .i64 (S.r), .map (some m), .string (S.a)]) 91 :: blk (w.heap.size) (smc (0) (0) (0)) 23 :: mp kA m ((S.d).map dv) :: R)) hM.drew ?_ ?_
  · simp only [fullL, Act.put, st_a, st_s, st_0]
    refine ⟨?_, ?_, ?_, ?_, ?_, ?_, ?_, ?_, ?_, trivial⟩
    · exact mvL rfl rfl
    · exact fun wx hM => gw rfl (g_sl_h _ _ (x) ((x).extract 0 24) 24 rfl rfl (by rw [hx]; decide) rfl ⟨rfl, hM⟩)
    · exact mvL rfl rfl
    · exact fun wx hM => gw rfl (g_sl_h _ _ (x) ((x).extract 0 40) 40 rfl rfl (by rw [hx]; decide) rfl ⟨rfl, hM⟩)
    · exact mvL rfl rfl
    · exact fun wx hM => gw rfl (g_sl_l _ _ (x) ((x).extract 40 (x).size) 40 rfl rfl (by rw [hx]; decide) rfl ⟨rfl, hM⟩)
    · exact asL rfl rfl
    · exact asL rfl rfl
    · exact asL rfl rfl
  · simp only [fullL, Act.put, st_a, st_s, st_0]
    intro w9 hM
    refine κ8 _ _ (wp_seq_k fun _ κ10 => ?_)
    refine wp_seq_k fun _ κ11 => wl_region (wl_fare kn ?_)
    simp (config := { maxSteps := 10000000 }) (disch := omega) only [fx, pv, kx, (hM.get 0 rfl).cell 3 (.string (S.a)) rfl]
    refine wl_give rfl (g_strN _ _ ((x).extract 0 24) (S.a) true false rfl rfl (decide_eq_true hf) rfl ?_)
    try simp only [nz]
    refine wl_nil (κ11 _ _ ?_)
    refine wp_cond_false rfl (wp_skip ?_)
    refine κ10 _ _ (wp_seq_k fun _ κ12 => ?_)
    refine wp_seq_k fun _ κ13 => wl_region (wl_fare kn ?_)
    simp (config := { maxSteps := 10000000 }) (disch := omega) only [fx, pv, kx, (hM.get 0 rfl).cell 0 (.string (S.k)) rfl]
    refine wl_give rfl (g_cM hM (kf47 _ _) (right_any (S.k) (x.extract 0 40) (x.extract 40 x.size) w9 (hM.tabs hT) (by omega) (by rw [ByteArray.size_extract]; omega) (by rw [ByteArray.size_extract]; unfold maxLen; omega) false hr) rfl fun w14 hM => wl_fare kn ?_)
    simp (disch := omega) only [fx, pv, kx]
    refine wl_nil (κ13 _ _ ?_)
    refine wp_cond_true rfl (wp_seq_k fun _ κ15 => ?_)
    refine wl_region (wl_give rfl (g_bldSm_n   ?_))
    try simp only [nz]
    refine wl_give rfl (g_store_all 23 _ _ (w.heap.size) (smc (0) (0) (0)) _ 23 rfl rfl (hM.get 1 rfl) (szSm _ _ _) (rfl) (one_smc _ _ _) fun w16 t_ b_ => ?_)
    replace hM : Ms w0 w16 (blk (p) ([.string (S.k), .int .i64 (S.r), .map (some m), .string (S.a)]) 91 :: blk (w.heap.size) (smc (0) (0) (0)) 23 :: mp kA m ((S.d).map dv) :: R) := hM.put 1 rfl t_ b_
    clear t_ b_
    refine wl_fare kn ?_
    simp (disch := omega) only [fx, pv, kx]
    refine wl_nil (κ15 _ _ ?_)
    refine wp_ret ?_
    (try simp only [Exit.inBlock, Exit.then])
    have hb9 := (hM.get 1 rfl)
    have h9 := vo_mk (S := S) (((hM.erase 1).up 1 rfl).up 1 rfl)
    exact bodyPost_ret (results_blk_tmp rfl _ (smc (0) (0) (0)) (.int .i64 (12)) _ rfl rfl hb9 Tryd.underlying23 rfl (szSm _ _ _)) rfl ⟨rfl, h9⟩
set_option maxHeartbeats 8000000 in
theorem tk_e {w0 w : World} {R : List HP} {p : Nat} {S : Vy} (hT : Tabs w0) (x : ByteArray) (t : Int) (ht : Wd.In64 t) (hk : S.k.size ≤ 3000) (ha : S.a ≠ ⟨#[]⟩) (hx : x.size = 56) (hf : x.extract 0 24 = S.a) (hr : rgt S.k (x.extract 0 40) (x.extract 40 x.size) = true) (hU : (U3 x).size = 24) (O D B E : Int) (hv : tkv S x t = ((O, D, B), E)) (hM : Ms w0 w (vo p S :: R)) : Calls Tryd.prog 20 #[.pointer (some ⟨p, 0, none⟩), .string x, .int .i64 t] w fun e w' => e = .returned (.tuple #[.agg (smc O D B).toArray, .int .i64 (E)]) ∧ Ms w0 w' (vo p (⟨S.k, S.r, S.d, ⟨#[]⟩⟩) :: R) := by
  obtain ⟨m, hM⟩ := vo_open hM
  go_enter Tryd.func20, Tryd.ntmps20
  refine wp_seq_k fun _ κ1 => wl_region (wl_give rfl (g_alloc 23 (smc (0) (0) (0)) zeroSm ?_))
  intro w2 t_ b_
  replace hM := hM.new t_ b_
  clear t_ b_
  refine wl_fare kn ?_
  simp (disch := omega) only [fx, pv, kx]
  refine wl_nil (κ1 _ _ ?_)
  refine wp_seq_k fun _ κ3 => wp_seq_k fun _ κ4 => wl_region (wl_fare kn ?_)
  simp (disch := omega) only [fx, pv, kx]
  refine wl_give rfl (g_call 22 _ _ [.pointer (some ⟨p, 0, none⟩)] (kf22 _ _) rfl ((opn_y ha (show Ms w0 w2 (blk (p) ([.string (S.k), .int .i64 (S.r), .map (some m), .string (S.a)]) 91 :: blk (w.heap.size) (smc (0) (0) (0)) 23 :: mp kA m ((S.d).map dv) :: R) from (hM.up 1 rfl))).mono ?_))
  rintro e w5 ⟨rfl, h_⟩
  refine ⟨_, rfl, ?_⟩
  replace hM : Ms w0 w5 (blk (p) ([.string (S.k), .int .i64 (S.r), .map (some m), .string (S.a)]) 91 :: blk (w.heap.size) (smc (0) (0) (0)) 23 :: mp kA m ((S.d).map dv) :: R) := h_
  clear h_
  refine wl_fare kn ?_
  simp (disch := omega) only [fx, pv, kx]
  refine wl_nil (κ4 _ _ ?_)
  refine wp_cond_false rfl (wp_skip ?_)
  refine κ3 _ _ (wp_seq_k fun _ κ6 => ?_)
  refine wp_seq_k fun _ κ7 => wl_region (wl_fare kn ?_)
  simp (disch := omega) only [fx, pv, kx]
  refine wl_give rfl (g_lenT _ (x) (56) rfl (by rw [hx]; rfl) ?_)
  refine wl_fare kn ?_
  simp (disch := omega) only [fx, pv, kx]
  refine wl_nil (κ7 _ _ ?_)
  refine wp_cond_false rfl (wp_skip ?_)
  refine κ6 _ _ (wp_seq_k fun _ κ8 => ?_)
  refine wp_region_fixed (by kernel_rfl) (by kernel_rfl) [.string (x), .string ((x).extract 0 24), .string (x), .string ((x).extract 0 40), .string (x), .string ((x).extract 40 (x).size), .string ((x).extract 0 24), .string ((x).extract 0 40), .string ((x).extract 40 (x).size)] (by rfl) (fun wx => Ms w0 wx (blk (p) ([.string (S.k), .int .i64 (S.r), .map (some m), .string (S.a)]) 91 :: blk (w.heap.size) (smc (0) (0) (0)) 23 :: mp kA m ((S.d).map dv) :: R)) hM.drew ?_ ?_
  · simp only [fullL, Act.put, st_a, st_s, st_0]
    refine ⟨?_, ?_, ?_, ?_, ?_, ?_, ?_, ?_, ?_, trivial⟩
    · exact mvL rfl rfl
    · exact fun wx hM => gw rfl (g_sl_h _ _ (x) ((x).extract 0 24) 24 rfl rfl (by rw [hx]; decide) rfl ⟨rfl, hM⟩)
    · exact mvL rfl rfl
    · exact fun wx hM => gw rfl (g_sl_h _ _ (x) ((x).extract 0 40) 40 rfl rfl (by rw [hx]; decide) rfl ⟨rfl, hM⟩)
    · exact mvL rfl rfl
    · exact fun wx hM => gw rfl (g_sl_l _ _ (x) ((x).extract 40 (x).size) 40 rfl rfl (by rw [hx]; decide) rfl ⟨rfl, hM⟩)
    · exact asL rfl rfl
    · exact asL rfl rfl
    · exact asL rfl rfl
  · simp only [fullL, Act.put, st_a, st_s, st_0]
    intro w9 hM
    refine κ8 _ _ (wp_seq_k fun _ κ10 => ?_)
    refine wp_seq_k fun _ κ11 => wl_region (wl_fare kn ?_)
    simp (config := { maxSteps := 10000000 }) (disch := omega) only [fx, pv, kx, (hM.get 0 rfl).cell 3 (.string (S.a)) rfl]
    refine wl_give rfl (g_strN _ _ ((x).extract 0 24) (S.a) true false rfl rfl (decide_eq_true hf) rfl ?_)
    try simp only [nz]
    refine wl_nil (κ11 _ _ ?_)
    refine wp_cond_false rfl (wp_skip ?_)
    refine κ10 _ _ (wp_seq_k fun _ κ12 => ?_)
    refine wp_seq_k fun _ κ13 => wl_region (wl_fare kn ?_)
    simp (config := { maxSteps := 10000000 }) (disch := omega) only [fx, pv, kx, (hM.get 0 rfl).cell 0 (.string (S.k)) rfl]
    refine wl_give rfl (g_cM hM (kf47 _ _) (right_any (S.k) (x.extract 0 40) (x.extract 40 x.size) w9 (hM.tabs hT) (by omega) (by rw [ByteArray.size_extract]; omega) (by rw [ByteArray.size_extract]; unfold maxLen; omega) true hr) rfl fun w14 hM => wl_fare kn ?_)
    simp (disch := omega) only [fx, pv, kx]
    refine wl_nil (κ13 _ _ ?_)
    refine wp_cond_false rfl (wp_skip ?_)
    refine κ12 _ _ (wp_seq_k fun _ κ15 => ?_)
    refine wl_region (wl_fare kn ?_)
    simp (config := { maxSteps := 10000000 }) (disch := omega) only [fx, pv, kx]
    refine wl_give rfl (g_st1 9 _ _ (p) 3 (.string (⟨#[]⟩)) _ 91 rfl rfl (hM.get 0 rfl) (show 3 < 4 by decide) rfl rfl size9 fun w16 t_ b_ => ?_)
    replace hM : Ms w0 w16 (blk (p) ([.string (S.k), .int .i64 (S.r), .map (some m), .string (⟨#[]⟩)]) 91 :: blk (w.heap.size) (smc (0) (0) (0)) 23 :: mp kA m ((S.d).map dv) :: R) := hM.put 0 rfl t_ b_
    clear t_ b_
    try simp only [nz]
    refine wl_nil (κ15 _ _ ?_)
    refine wp_seq_k fun _ κ17 => wl_region (wl_fare kn ?_)
    simp (disch := omega) only [fx, pv, kx]
    refine wl_give rfl (g_sl_l _ _ (x.extract 0 40) (U3 x) 16 rfl rfl (by rw [ByteArray.size_extract]; omega) rfl ?_)
    try simp only [nz]
    refine wl_give rfl (g_call 48 _ _ [.string (U3 x), .int .i64 (8)] (kf48 _ _) rfl ((parts_m (U3 x) hU hM).mono ?_))
    rintro e w18 ⟨g19, rfl, h_⟩
    refine ⟨_, rfl, ?_⟩
    replace hM : Ms w0 w18 (blk (g19) ([.string (pcs (U3 x) 0), .string (pcs (U3 x) 1), .string (pcs (U3 x) 2)]) 9 :: blk (p) ([.string (S.k), .int .i64 (S.r), .map (some m), .string (⟨#[]⟩)]) 91 :: blk (w.heap.size) (smc (0) (0) (0)) 23 :: mp kA m ((S.d).map dv) :: R) := h_
    clear h_
    refine wl_fare kn ?_
    simp (disch := omega) only [fx, pv, kx]
    refine wl_nil (κ17 _ _ ?_)
    refine wp_seq_k fun _ κ20 => ?_
    refine wp_region_steps (by kernel_rfl) (by kernel_rfl) [20] [0, 0, 0, 0, 0, 0, 0, 0, 0, 0, 0, 0, 0, 0, 0, 0, 0, 0, 0, 0, 0, 1] [0, 0, 0, 0, 0, 0, 0, 0, 0, 0, 0, 0, 0, 0, 0, 0, 0, 0, 0, 0, 1, 1] (by kernel_rfl) (Pm := Unit) (fun π => [.slice (some ⟨g19, 0, none⟩) (3) (3), .pointer (some ⟨g19, 0, none⟩), .string (pcs (U3 x) 0), .int .i64 (tm (pcs (U3 x) 0)), .slice (some ⟨g19, 0, none⟩) (3) (3), .pointer (some ⟨g19, 1, none⟩), .string (pcs (U3 x) 1), .int .i64 (tm (pcs (U3 x) 1)), .slice (some ⟨g19, 0, none⟩) (3) (3), .pointer (some ⟨g19, 2, none⟩), .string (pcs (U3 x) 2), .int .i64 (tm (pcs (U3 x) 2)), .int .i64 (t), .pointer (some ⟨p, 0, none⟩), .pointer (some ⟨p, 0, none⟩), .pointer (some ⟨p, 1, none⟩), .int .i64 (S.r), .tuple #[.agg (smc (O) (D) (B)).toArray, .int .i64 (E)], .agg (smc (O) (D) (B)).toArray, .int .i64 (E), undef, .int .i64 (E)]) (fun _ => by rfl) (fun j_ π wx => match j_ with | 0 => Ms w0 wx (blk (g19) ([.string (pcs (U3 x) 0), .string (pcs (U3 x) 1), .string (pcs (U3 x) 2)]) 9 :: blk (p) ([.string (S.k), .int .i64 (S.r), .map (some m), .string (⟨#[]⟩)]) 91 :: blk (w.heap.size) (smc (0) (0) (0)) 23 :: mp kA m ((S.d).map dv) :: R) | _ => Ms w0 wx (blk (g19) ([.string (pcs (U3 x) 0), .string (pcs (U3 x) 1), .string (pcs (U3 x) 2)]) 9 :: blk (p) ([.string (S.k), .int .i64 (S.r), .map (some m), .string (⟨#[]⟩)]) 91 :: blk (w.heap.size) (smc (O) (D) (B)) 23 :: mp kA m ((S.d).map dv) :: R)) () hM.drew ?_ ?_ ?_
    · intro j_ k_ o_ hj_ ho_ π wx hM
      rcases j_ with _ | j_
      · obtain rfl := Option.some.inj hj_
        cases so ho_
        simp only [fullL, Act.put, st_a, st_s, st_0]
        change Ms _ _ _ at hM
        exact gw rfl (g_store_all 23 _ _ (w.heap.size) (smc (O) (D) (B)) _ 23 rfl rfl (hM.get 2 rfl) (szSm _ _ _) (rfl) (one_smc _ _ _) (fun w' t_ b_ => ⟨(), rfl, (fun _ _ _ => by first | rfl | trivial), hM.put 2 rfl t_ b_⟩))
      · simp at hj_
    · intro i_ o_ ho_ hi_ j_ hd_ hh_ hj_ π wx hM
      simp only [fullL, Act.put, st_a, st_s, st_0]
      rcases i_ with _ | _ | _ | _ | _ | _ | _ | _ | _ | _ | _ | _ | _ | _ | _ | _ | _ | _ | _ | _ | _ | _ | i_
      · cases so ho_
        exact gw rfl (g_move _ _ rfl ⟨rfl, hM⟩)
      · cases so ho_
        exact gw rfl (g_ix _ _ 95 9 1 Tryd.underlying95 (fun w => Tryd.sizeOf9 w) (g19) 0 3 3 0 (0) (0) rfl rfl rfl (by decide) (by decide) ⟨rfl, hM⟩)
      · cases so ho_
        rcases j_ with _ | _ | j_
        · change Ms _ _ _ at hM
          exact gw rfl (g_ld1 9 _ (g19) (0) _ rfl (ld9 _ _ _ _ ((hM.get 0 rfl).cell (0) _ (rfl))) ⟨rfl, hM⟩)
        · exact absurd hh_ (by decide)
        · exact absurd hj_ (by simp)
      · cases so ho_
        rcases j_ with _ | _ | j_
        · change Ms _ _ _ at hM
          exact gw rfl (g_call 49 _ _ [.string (pcs (U3 x) 0)] (kf49 _ _) rfl ((vtake_any (pcs (U3 x) 0) wx (pcs_size _ _)).mono (fun _ _ ⟨h1_, h2_⟩ => ⟨_, h1_, rfl, hM.call h2_⟩)))
        · exact absurd hh_ (by decide)
        · exact absurd hj_ (by simp)
      · cases so ho_
        exact gw rfl (g_move _ _ rfl ⟨rfl, hM⟩)
      · cases so ho_
        exact gw rfl (g_ix _ _ 95 9 1 Tryd.underlying95 (fun w => Tryd.sizeOf9 w) (g19) 0 3 3 1 (1) (1) rfl rfl rfl (by decide) (by decide) ⟨rfl, hM⟩)
      · cases so ho_
        rcases j_ with _ | _ | j_
        · change Ms _ _ _ at hM
          exact gw rfl (g_ld1 9 _ (g19) (1) _ rfl (ld9 _ _ _ _ ((hM.get 0 rfl).cell (1) _ (rfl))) ⟨rfl, hM⟩)
        · exact absurd hh_ (by decide)
        · exact absurd hj_ (by simp)
      · cases so ho_
        rcases j_ with _ | _ | j_
        · change Ms _ _ _ at hM
          exact gw rfl (g_call 49 _ _ [.string (pcs (U3 x) 1)] (kf49 _ _) rfl ((vtake_any (pcs (U3 x) 1) wx (pcs_size _ _)).mono (fun _ _ ⟨h1_, h2_⟩ => ⟨_, h1_, rfl, hM.call h2_⟩)))
        · exact absurd hh_ (by decide)
        · exact absurd hj_ (by simp)
      · cases so ho_
        exact gw rfl (g_move _ _ rfl ⟨rfl, hM⟩)
      · cases so ho_
        exact gw rfl (g_ix _ _ 95 9 1 Tryd.underlying95 (fun w => Tryd.sizeOf9 w) (g19) 0 3 3 2 (2) (2) rfl rfl rfl (by decide) (by decide) ⟨rfl, hM⟩)
      · cases so ho_
        rcases j_ with _ | _ | j_
        · change Ms _ _ _ at hM
          exact gw rfl (g_ld1 9 _ (g19) (2) _ rfl (ld9 _ _ _ _ ((hM.get 0 rfl).cell (2) _ (rfl))) ⟨rfl, hM⟩)
        · exact absurd hh_ (by decide)
        · exact absurd hj_ (by simp)
      · cases so ho_
        rcases j_ with _ | _ | j_
        · change Ms _ _ _ at hM
          exact gw rfl (g_call 49 _ _ [.string (pcs (U3 x) 2)] (kf49 _ _) rfl ((vtake_any (pcs (U3 x) 2) wx (pcs_size _ _)).mono (fun _ _ ⟨h1_, h2_⟩ => ⟨_, h1_, rfl, hM.call h2_⟩)))
        · exact absurd hh_ (by decide)
        · exact absurd hj_ (by simp)
      · cases so ho_
        exact gw rfl (g_move _ _ rfl ⟨rfl, hM⟩)
      · cases so ho_
        exact gw rfl (g_move _ _ rfl ⟨rfl, hM⟩)
      · cases so ho_
        exact gw rfl (g_nil _ _ rfl ⟨rfl, hM⟩)
      · cases so ho_
        exact gw rfl (g_fa _ _ _ _ _ _ rfl (fa91_1 _ _ _) ⟨rfl, hM⟩)
      · cases so ho_
        rcases j_ with _ | _ | j_
        · change Ms _ _ _ at hM
          exact gw rfl (g_ld1 2 _ (p) (1) _ rfl (ld2 _ _ _ _ ((hM.get 1 rfl).cell (1) _ (rfl))) ⟨rfl, hM⟩)
        · exact absurd hh_ (by decide)
        · exact absurd hj_ (by simp)
      · cases so ho_
        rcases j_ with _ | _ | j_
        · change Ms _ _ _ at hM
          exact gw rfl (g_call 11 _ _ [.int .i64 (tm (pcs (U3 x) 0)), .int .i64 (tm (pcs (U3 x) 1)), .int .i64 (tm (pcs (U3 x) 2)), .int .i64 (t), .int .i64 (S.r)] (kf11 _ _) rfl ((round_any (tm (pcs (U3 x) 0)) (tm (pcs (U3 x) 1)) (tm (pcs (U3 x) 2)) t S.r wx (tm_in _) (tm_in _) (tm_in _) ht O D B E ⟨hv⟩).mono (fun _ _ ⟨h1_, h2_⟩ => ⟨_, h1_, rfl, hM.call h2_⟩)))
        · exact absurd hh_ (by decide)
        · exact absurd hj_ (by simp)
      · cases so ho_
        exact gw rfl (g_extract _ _ _ _ rfl rfl ⟨rfl, hM⟩)
      · cases so ho_
        exact gw rfl (g_extract _ _ _ _ rfl rfl ⟨rfl, hM⟩)
      · exact absurd (by decide) hi_
      · cases so ho_
        exact gw rfl (g_assign _ _ rfl ⟨rfl, hM⟩)
      · simp at ho_
    · simp only [fullL, Act.put, st_a, st_s, st_0]
      rintro ⟨⟩ w21 hM
      replace hM : Ms w0 w21 (blk (g19) ([.string (pcs (U3 x) 0), .string (pcs (U3 x) 1), .string (pcs (U3 x) 2)]) 9 :: blk (p) ([.string (S.k), .int .i64 (S.r), .map (some m), .string (⟨#[]⟩)]) 91 :: blk (w.heap.size) (smc (O) (D) (B)) 23 :: mp kA m ((S.d).map dv) :: R) := hM
      refine κ20 _ _ (wp_ret ?_)
      (try simp only [Exit.inBlock, Exit.then])
      have hb9 := (hM.get 2 rfl)
      have h9 := vo_mk (S := ⟨S.k, S.r, S.d, ⟨#[]⟩⟩) ((((hM.erase 0).erase 1).up 1 rfl).up 1 rfl)
      exact bodyPost_ret (results_blk_tmp rfl _ (smc (O) (D) (B)) (.int .i64 (E)) _ rfl rfl hb9 Tryd.underlying23 rfl (szSm _ _ _)) rfl ⟨rfl, h9⟩
theorem take_any2 {w0 w : World} {R : List HP} {p : Nat} {S : Vy} (hT : Tabs w0) (x : ByteArray) (t : Int) (ht : Wd.In64 t) (hk : S.k.size ≤ 3000) (O D B E : Int) (S2 : Vy) (h : tk S x t = (((O, D, B), E), S2)) (hM : Ms w0 w (vo p S :: R)) : Calls Tryd.prog 20 #[.pointer (some ⟨p, 0, none⟩), .string x, .int .i64 t] w fun e w' => e = .returned (.tuple #[.agg (smc O D B).toArray, .int .i64 E]) ∧ Ms w0 w' (vo p S2 :: R) := by
  unfold tk at h
  by_cases ha : S.a = ⟨#[]⟩
  · rw [if_pos ha] at h; cases h; exact tk_a hT x t ha hM
  · rw [if_neg ha] at h
    by_cases hx : x.size = 56
    · rw [if_neg (fun hn => hn hx)] at h
      by_cases hf : x.extract 0 24 = S.a
      · rw [if_neg (fun hn => hn hf)] at h
        cases hr : rgt S.k (x.extract 0 40) (x.extract 40 x.size)
        · rw [hr, if_pos rfl] at h; cases h; exact tk_d hT x t hk ha hx hf hr hM
        · rw [hr, if_neg (by decide)] at h
          have h1 := congrArg Prod.fst h
          have h2 := congrArg Prod.snd h
          simp only at h1 h2
          subst h2
          exact tk_e hT x t ht hk ha hx hf hr (by unfold U3; rw [ByteArray.size_extract, ByteArray.size_extract]; omega) O D B E h1 hM
      · rw [if_pos hf] at h; cases h; exact tk_c hT x t ha hx hf hM
    · rw [if_pos hx] at h; cases h; exact tk_b hT x t ha hx hM
end Go.Proofs.YtpenicjlpiechaaDoor
