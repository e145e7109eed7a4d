/- awake and large: what the calls that each law asks first answer. -/
import Derived.Test.YtpkjocibgmjhdaaSl
namespace Go.Proofs.Ytpkjocibgmjhdaa
set_option maxRecDepth 10000
open Go Go.RowKit
set_option linter.unusedVariables false
set_option linter.unusedSimpArgs false

section
variable {w0 w : World} {R : List HP} {p x : Nat} {y d i : Int} {L : List Thg} {s : ByteArray}
theorem put_v (hM : Ms w0 w (bf p x y d L :: R)) (hx : 1 ≤ x) (hx2 : x ≤ 1000) (hi : i ≤ 9223372036854775807) (hd : 0 ≤ d) (hd2 : d < 1000000) {e d' : Int} {L' : List Thg} (hE : bpE x y i s L = e) (hD : bpD x y i s L d = d') (hL : bpL x y i s L = L') :
    Calls Try.prog 14 #[.pointer (some ⟨p, 0, none⟩), .int .i64 i, .string s] w fun e' w' => e' = .returned (.int .i64 e) ∧ Ms w0 w' (bf p x y d' L' :: R) := by
  subst hE; subst hD; subst hL
  exact put_any hM hx hx2 hi hd hd2
theorem take_v (hM : Ms w0 w (bf p x y d L :: R)) (hL : L.length ≤ 10000) {ts : List ByteArray} {L' : List Thg} (hT : ofI i L = ts) (hN : notI i L = L') : Calls Try.prog 17 #[.pointer (some ⟨p, 0, none⟩), .int .i64 i] w fun e w' => ∃ v, e = .returned v ∧ Ms w0 w' (row 9 1 v ts.length (ts.map Value.string) :: bf p x y d L' :: R) := by
  subst hT; subst hN
  exact take_any hM hL
theorem ivals_v (hM : Ms w0 w (bf p x y d L :: R)) (hL : L.length ≤ 1000000) {l : List Int} (h : ivs L = l) : Calls Try.prog 21 #[.pointer (some ⟨p, 0, none⟩)] w fun e w' => ∃ v, e = .returned v ∧ Ms w0 w' (row 3 1 v l.length (l.map encZ) :: bf p x y d L :: R) := by
  subst h
  exact ivals_any hM hL
theorem size_v (hM : Ms w0 w (bf p x y d L :: R)) (hL : L.length ≤ 1000000) {n : Int} (h : ((L.length : Nat) : Int) = n) : Calls Try.prog 23 #[.pointer (some ⟨p, 0, none⟩)] w fun e w' => e = .returned (.int .i64 n) ∧ Ms w0 w' (bf p x y d L :: R) := by
  subst h
  exact size_any hM hL
theorem drop_v (hM : Ms w0 w (bf p x y d L :: R)) (hL : L.length ≤ 1000000) {n : Int} {L' : List Thg} (hN : ((bdN i L : Nat) : Int) = n) (h : notB i L = L') : Calls Try.prog 19 #[.pointer (some ⟨p, 0, none⟩), .int .i64 i] w fun e w' => e = .returned (.int .i64 n) ∧ Ms w0 w' (bf p x y d L' :: R) := by
  subst hN; subst h
  exact drop_any hM hL
theorem has_v (hM : Ms w0 w (bf p x y d L :: R)) (hx : x ≤ 1000) {r : Bool} (h : hasT i s L = r) : Calls Try.prog 25 #[.pointer (some ⟨p, 0, none⟩), .int .i64 i, .string s] w fun e w' => e = .returned (.bool r) ∧ Ms w0 w' (bf p x y d L :: R) := by
  subst h
  exact has_any hM hx
theorem to_sl {f : FuncId} {args : Array Value} {e size n : Nat} {xs : List Value} (hn : 0 < n) (h : Calls Try.prog f args w (fun a w' => ∃ v, a = .returned v ∧ Ms w0 w' (row e size v n xs :: R))) : Calls Try.prog f args w (fun a w' => ∃ g cap, a = .returned (.slice (some ⟨g, 0, none⟩) n cap) ∧ Ms w0 w' (sl e size g cap n xs :: R)) :=
  h.mono fun a w' ⟨v, h1, h2⟩ => by
    obtain ⟨g, cap, rfl, h3⟩ := row_sl h2 hn
    exact ⟨g, cap, h1, h3⟩
theorem to_row {f : FuncId} {args : Array Value} {e size n : Nat} {xs : List Value} (h : Calls Try.prog f args w (fun a w' => ∃ v, a = .returned v ∧ Ms w0 w' (row e size v n xs :: R))) : Calls Try.prog f args w (fun a w' => ∃ o cap, a = .returned (.slice o n cap) ∧ Ms w0 w' (row e size (.slice o n cap) n xs :: R)) :=
  h.mono fun a w' ⟨v, h1, h2⟩ => by
    obtain ⟨o, cap, rfl, _⟩ := row_slice h2
    exact ⟨o, cap, h1, h2⟩
end
set_option maxHeartbeats 4000000 in
theorem large_t (k i : Int) (s : ByteArray) (w : World) (h : ((200 : Int) < ((s.size : Nat) : Int))) : Calls Try.prog 13 #[.agg ([.int .i64 k, .int .i64 i, .string s] : List Value).toArray] w fun e w' => e = .returned (.bool true) ∧ Below w.heap.size w w' := by
  have hM := Ms.refl w
  go_enter Try.func13, Try.ntmps13
  refine wp_seq_k (fun K1 hK1 => ?_)
  refine wl_region ?_
  refine wl_give rfl (g_box 32 _ ([.int .i64 (k), .int .i64 (i), .string (s)]) rfl ?_)
  intro w2 t_ b_
  replace hM : Ms w w2 [blk (w.heap.size) ([.int .i64 (k), .int .i64 (i), .string (s)]) 32] := hM.new t_ b_
  clear t_ b_
  (try simp only [Act.put, List.setIfInBounds_toArray, List.set_cons_zero, List.set_cons_succ])
  refine wl_give rfl (g_assign _ (.bool false) rfl ?_)
  (try simp only [Act.put, List.setIfInBounds_toArray, List.set_cons_zero, List.set_cons_succ])
  refine wl_nil ?_
  refine hK1 _ _ ?_
  (try clear hK1 K1)
  refine wp_seq_k (fun K3 hK3 => ?_)
  refine wl_region ?_
  refine wl_give rfl (g_fa 32 _ (w.heap.size) (0) (2) 2 rfl (fa32_2 _ _ _) ?_)
  (try simp only [Act.put, List.setIfInBounds_toArray, List.set_cons_zero, List.set_cons_succ])
  refine wl_give rfl (g_ld1 9 _ (w.heap.size) 2 _ rfl (ld9 _ _ _ _ ((hM.get 0 rfl).cell 2 _ rfl)) ?_)
  (try simp only [Act.put, List.setIfInBounds_toArray, List.set_cons_zero, List.set_cons_succ])
  refine wl_give rfl (g_lenT _ (s) ((((s).size : Nat) : Int)) rfl rfl ?_)
  (try simp only [Act.put, List.setIfInBounds_toArray, List.set_cons_zero, List.set_cons_succ])
  refine wl_give rfl (g_igtr 3 _ _ .i64 ((((s).size : Nat) : Int)) (200) true rfl rfl (decide_eq_true h) ?_)
  (try simp only [Act.put, List.setIfInBounds_toArray, List.set_cons_zero, List.set_cons_succ])
  refine wl_give rfl (g_assign _ (.bool true) rfl ?_)
  (try simp only [Act.put, List.setIfInBounds_toArray, List.set_cons_zero, List.set_cons_succ])
  refine wl_nil ?_
  refine hK3 _ _ ?_
  (try clear hK3 K3)
  refine wp_ret ?_
  go_ret
  exact ⟨rfl, hM.below⟩
set_option maxHeartbeats 4000000 in
theorem large_f (k i : Int) (s : ByteArray) (w : World) (h : ¬ ((200 : Int) < ((s.size : Nat) : Int))) : Calls Try.prog 13 #[.agg ([.int .i64 k, .int .i64 i, .string s] : List Value).toArray] w fun e w' => e = .returned (.bool false) ∧ Below w.heap.size w w' := by
  have hM := Ms.refl w
  go_enter Try.func13, Try.ntmps13
  refine wp_seq_k (fun K1 hK1 => ?_)
  refine wl_region ?_
  refine wl_give rfl (g_box 32 _ ([.int .i64 (k), .int .i64 (i), .string (s)]) rfl ?_)
  intro w2 t_ b_
  replace hM : Ms w w2 [blk (w.heap.size) ([.int .i64 (k), .int .i64 (i), .string (s)]) 32] := hM.new t_ b_
  clear t_ b_
  (try simp only [Act.put, List.setIfInBounds_toArray, List.set_cons_zero, List.set_cons_succ])
  refine wl_give rfl (g_assign _ (.bool false) rfl ?_)
  (try simp only [Act.put, List.setIfInBounds_toArray, List.set_cons_zero, List.set_cons_succ])
  refine wl_nil ?_
  refine hK1 _ _ ?_
  (try clear hK1 K1)
  refine wp_seq_k (fun K3 hK3 => ?_)
  refine wl_region ?_
  refine wl_give rfl (g_fa 32 _ (w.heap.size) (0) (2) 2 rfl (fa32_2 _ _ _) ?_)
  (try simp only [Act.put, List.setIfInBounds_toArray, List.set_cons_zero, List.set_cons_succ])
  refine wl_give rfl (g_ld1 9 _ (w.heap.size) 2 _ rfl (ld9 _ _ _ _ ((hM.get 0 rfl).cell 2 _ rfl)) ?_)
  (try simp only [Act.put, List.setIfInBounds_toArray, List.set_cons_zero, List.set_cons_succ])
  refine wl_give rfl (g_lenT _ (s) ((((s).size : Nat) : Int)) rfl rfl ?_)
  (try simp only [Act.put, List.setIfInBounds_toArray, List.set_cons_zero, List.set_cons_succ])
  refine wl_give rfl (g_igtr 3 _ _ .i64 ((((s).size : Nat) : Int)) (200) false rfl rfl (decide_eq_false h) ?_)
  (try simp only [Act.put, List.setIfInBounds_toArray, List.set_cons_zero, List.set_cons_succ])
  refine wl_give rfl (g_assign _ (.bool false) rfl ?_)
  (try simp only [Act.put, List.setIfInBounds_toArray, List.set_cons_zero, List.set_cons_succ])
  refine wl_nil ?_
  refine hK3 _ _ ?_
  (try clear hK3 K3)
  refine wp_ret ?_
  go_ret
  exact ⟨rfl, hM.below⟩
set_option maxHeartbeats 4000000 in
theorem awake_any (w : World) : Calls Try.prog 10 #[] w fun e w' => e = .returned (.bool true) ∧ Below w.heap.size w w' := by
  have hM := Ms.refl w
  go_enter Try.func10, Try.ntmps10
  refine wp_seq_k (fun K1 hK1 => ?_)
  refine wl_region ?_
  refine wl_give rfl (g_assign _ (.bool false) rfl ?_)
  (try simp only [Act.put, List.setIfInBounds_toArray, List.set_cons_zero, List.set_cons_succ])
  refine wl_nil ?_
  refine hK1 _ _ ?_
  (try clear hK1 K1)
  refine wp_seq_k (fun K2 hK2 => ?_)
  refine wl_region ?_
  refine wl_give rfl (g_call 11 _ _ [.int .i64 (2), .int .i64 (1)] (kf11 _ _) rfl ((new_any (2) (1) hM (by decide) (by decide) (by decide) (by decide)).mono ?_))
  rintro e w3 ⟨p4, rfl, h_⟩
  refine ⟨_, rfl, ?_⟩
  replace hM : Ms w w3 [bf p4 (2) (1) (0) ([])] := h_
  clear h_
  (try simp only [Act.put, List.setIfInBounds_toArray, List.set_cons_zero, List.set_cons_succ])
  refine wl_give rfl (g_move _ (.tuple #[.pointer (some ⟨p4, 0, none⟩), .int .i64 (0)]) rfl ?_)
  (try simp only [Act.put, List.setIfInBounds_toArray, List.set_cons_zero, List.set_cons_succ])
  refine wl_give rfl (g_extract _ #[.pointer (some ⟨p4, 0, none⟩), .int .i64 (0)] 0 (.pointer (some ⟨p4, 0, none⟩)) rfl rfl ?_)
  (try simp only [Act.put, List.setIfInBounds_toArray, List.set_cons_zero, List.set_cons_succ])
  refine wl_give rfl (g_extract _ #[.pointer (some ⟨p4, 0, none⟩), .int .i64 (0)] 1 (.int .i64 (0)) rfl rfl ?_)
  (try simp only [Act.put, List.setIfInBounds_toArray, List.set_cons_zero, List.set_cons_succ])
  refine wl_give rfl (g_assign _ (.pointer (some ⟨p4, 0, none⟩)) rfl ?_)
  (try simp only [Act.put, List.setIfInBounds_toArray, List.set_cons_zero, List.set_cons_succ])
  refine wl_give rfl (g_assign _ (.int .i64 (0)) rfl ?_)
  (try simp only [Act.put, List.setIfInBounds_toArray, List.set_cons_zero, List.set_cons_succ])
  refine wl_nil ?_
  refine hK2 _ _ ?_
  (try clear hK2 K2)
  refine wp_seq_k (fun K5 hK5 => ?_)
  refine wl_region ?_
  refine wl_give rfl (g_call 11 _ _ [.int .i64 (0), .int .i64 (1)] (kf11 _ _) rfl ((new_bad 0 1 w3 (by decide)).mono ?_))
  rintro e w6 ⟨rfl, t_⟩
  refine ⟨_, rfl, ?_⟩
  replace hM := hM.call t_
  clear t_
  (try simp only [Act.put, List.setIfInBounds_toArray, List.set_cons_zero, List.set_cons_succ])
  refine wl_give rfl (g_move _ (.tuple #[.pointer none, .int .i64 (1)]) rfl ?_)
  (try simp only [Act.put, List.setIfInBounds_toArray, List.set_cons_zero, List.set_cons_succ])
  refine wl_give rfl (g_extract _ #[.pointer none, .int .i64 (1)] 0 (.pointer none) rfl rfl ?_)
  (try simp only [Act.put, List.setIfInBounds_toArray, List.set_cons_zero, List.set_cons_succ])
  refine wl_give rfl (g_extract _ #[.pointer none, .int .i64 (1)] 1 (.int .i64 (1)) rfl rfl ?_)
  (try simp only [Act.put, List.setIfInBounds_toArray, List.set_cons_zero, List.set_cons_succ])
  refine wl_give rfl (g_assign _ (.pointer none) rfl ?_)
  (try simp only [Act.put, List.setIfInBounds_toArray, List.set_cons_zero, List.set_cons_succ])
  refine wl_give rfl (g_assign _ (.int .i64 (1)) rfl ?_)
  (try simp only [Act.put, List.setIfInBounds_toArray, List.set_cons_zero, List.set_cons_succ])
  refine wl_nil ?_
  refine hK5 _ _ ?_
  (try clear hK5 K5)
  refine wp_seq_k (fun K7 hK7 => ?_)
  refine wp_seq_k (fun K8 hK8 => ?_)
  refine wl_region ?_
  refine wl_give rfl (g_move _ (.pointer (some ⟨p4, 0, none⟩)) rfl ?_)
  (try simp only [Act.put, List.setIfInBounds_toArray, List.set_cons_zero, List.set_cons_succ])
  refine wl_give rfl (g_peq _ ((some ⟨p4, 0, none⟩)) false rfl rfl ?_)
  (try simp only [Act.put, List.setIfInBounds_toArray, List.set_cons_zero, List.set_cons_succ])
  refine wl_nil ?_
  refine hK8 _ _ ?_
  (try clear hK8 K8)
  refine wp_cond_false rfl ?_
  refine wp_skip ?_
  refine hK7 _ _ ?_
  (try clear hK7 K7)
  refine wp_seq_k (fun K9 hK9 => ?_)
  refine wl_region ?_
  refine wl_give rfl (g_move _ (.pointer (some ⟨p4, 0, none⟩)) rfl ?_)
  (try simp only [Act.put, List.setIfInBounds_toArray, List.set_cons_zero, List.set_cons_succ])
  refine wl_give rfl (g_call 14 _ _ [.pointer (some ⟨p4, 0, none⟩), .int .i64 (5), .string (⟨#[97]⟩)] (kf14 _ _) rfl ((put_v (e := 0) (d' := 0) (L' := [(5, ⟨#[97]⟩)]) hM (by decide) (by decide) (by decide) (by decide) (by decide) (by decide) (by decide) (by decide)).mono ?_))
  rintro e w10 ⟨rfl, h_⟩
  refine ⟨_, rfl, ?_⟩
  replace hM : Ms w w10 [bf p4 (2) (1) (0) ([(5, ⟨#[97]⟩)])] := h_
  clear h_
  (try simp only [Act.put, List.setIfInBounds_toArray, List.set_cons_zero, List.set_cons_succ])
  refine wl_give rfl (g_move _ (.pointer (some ⟨p4, 0, none⟩)) rfl ?_)
  (try simp only [Act.put, List.setIfInBounds_toArray, List.set_cons_zero, List.set_cons_succ])
  refine wl_give rfl (g_call 14 _ _ [.pointer (some ⟨p4, 0, none⟩), .int .i64 (5), .string (⟨#[98]⟩)] (kf14 _ _) rfl ((put_v (e := 0) (d' := 0) (L' := [(5, ⟨#[97]⟩), (5, ⟨#[98]⟩)]) hM (by decide) (by decide) (by decide) (by decide) (by decide) (by decide) (by decide) (by decide)).mono ?_))
  rintro e w11 ⟨rfl, h_⟩
  refine ⟨_, rfl, ?_⟩
  replace hM : Ms w w11 [bf p4 (2) (1) (0) ([(5, ⟨#[97]⟩), (5, ⟨#[98]⟩)])] := h_
  clear h_
  (try simp only [Act.put, List.setIfInBounds_toArray, List.set_cons_zero, List.set_cons_succ])
  refine wl_give rfl (g_move _ (.pointer (some ⟨p4, 0, none⟩)) rfl ?_)
  (try simp only [Act.put, List.setIfInBounds_toArray, List.set_cons_zero, List.set_cons_succ])
  refine wl_give rfl (g_call 14 _ _ [.pointer (some ⟨p4, 0, none⟩), .int .i64 (5), .string (⟨#[99]⟩)] (kf14 _ _) rfl ((put_v (e := 4) (d' := 1) (L' := [(5, ⟨#[97]⟩), (5, ⟨#[98]⟩)]) hM (by decide) (by decide) (by decide) (by decide) (by decide) (by decide) (by decide) (by decide)).mono ?_))
  rintro e w12 ⟨rfl, h_⟩
  refine ⟨_, rfl, ?_⟩
  replace hM : Ms w w12 [bf p4 (2) (1) (1) ([(5, ⟨#[97]⟩), (5, ⟨#[98]⟩)])] := h_
  clear h_
  (try simp only [Act.put, List.setIfInBounds_toArray, List.set_cons_zero, List.set_cons_succ])
  refine wl_give rfl (g_move _ (.pointer (some ⟨p4, 0, none⟩)) rfl ?_)
  (try simp only [Act.put, List.setIfInBounds_toArray, List.set_cons_zero, List.set_cons_succ])
  refine wl_give rfl (g_call 14 _ _ [.pointer (some ⟨p4, 0, none⟩), .int .i64 (6), .string (⟨#[100]⟩)] (kf14 _ _) rfl ((put_v (e := 4) (d' := 2) (L' := [(5, ⟨#[97]⟩), (5, ⟨#[98]⟩)]) hM (by decide) (by decide) (by decide) (by decide) (by decide) (by decide) (by decide) (by decide)).mono ?_))
  rintro e w13 ⟨rfl, h_⟩
  refine ⟨_, rfl, ?_⟩
  replace hM : Ms w w13 [bf p4 (2) (1) (2) ([(5, ⟨#[97]⟩), (5, ⟨#[98]⟩)])] := h_
  clear h_
  (try simp only [Act.put, List.setIfInBounds_toArray, List.set_cons_zero, List.set_cons_succ])
  refine wl_give rfl (g_move _ (.pointer (some ⟨p4, 0, none⟩)) rfl ?_)
  (try simp only [Act.put, List.setIfInBounds_toArray, List.set_cons_zero, List.set_cons_succ])
  refine wl_give rfl (g_call 14 _ _ [.pointer (some ⟨p4, 0, none⟩), .int .i64 (5), .string (⟨#[97]⟩)] (kf14 _ _) rfl ((put_v (e := 11) (d' := 2) (L' := [(5, ⟨#[97]⟩), (5, ⟨#[98]⟩)]) hM (by decide) (by decide) (by decide) (by decide) (by decide) (by decide) (by decide) (by decide)).mono ?_))
  rintro e w14 ⟨rfl, h_⟩
  refine ⟨_, rfl, ?_⟩
  replace hM : Ms w w14 [bf p4 (2) (1) (2) ([(5, ⟨#[97]⟩), (5, ⟨#[98]⟩)])] := h_
  clear h_
  (try simp only [Act.put, List.setIfInBounds_toArray, List.set_cons_zero, List.set_cons_succ])
  refine wl_give rfl (g_assign _ (.int .i64 (0)) rfl ?_)
  (try simp only [Act.put, List.setIfInBounds_toArray, List.set_cons_zero, List.set_cons_succ])
  refine wl_give rfl (g_assign _ (.int .i64 (0)) rfl ?_)
  (try simp only [Act.put, List.setIfInBounds_toArray, List.set_cons_zero, List.set_cons_succ])
  refine wl_give rfl (g_assign _ (.int .i64 (4)) rfl ?_)
  (try simp only [Act.put, List.setIfInBounds_toArray, List.set_cons_zero, List.set_cons_succ])
  refine wl_give rfl (g_assign _ (.int .i64 (4)) rfl ?_)
  (try simp only [Act.put, List.setIfInBounds_toArray, List.set_cons_zero, List.set_cons_succ])
  refine wl_give rfl (g_assign _ (.int .i64 (11)) rfl ?_)
  (try simp only [Act.put, List.setIfInBounds_toArray, List.set_cons_zero, List.set_cons_succ])
  refine wl_nil ?_
  refine hK9 _ _ ?_
  (try clear hK9 K9)
  refine wp_seq_k (fun K15 hK15 => ?_)
  refine wl_region ?_
  refine wl_give rfl (g_move _ (.pointer (some ⟨p4, 0, none⟩)) rfl ?_)
  (try simp only [Act.put, List.setIfInBounds_toArray, List.set_cons_zero, List.set_cons_succ])
  refine wl_give rfl (g_call 23 _ _ [.pointer (some ⟨p4, 0, none⟩)] (kf23 _ _) rfl ((keep1 0 rfl (fun R_ h_ => size_v (n := 2) h_ (by decide) (by decide)) hM).mono ?_))
  rintro e w16 ⟨rfl, h_⟩
  refine ⟨_, rfl, ?_⟩
  replace hM : Ms w w16 [bf p4 (2) (1) (2) ([(5, ⟨#[97]⟩), (5, ⟨#[98]⟩)])] := h_
  clear h_
  (try simp only [Act.put, List.setIfInBounds_toArray, List.set_cons_zero, List.set_cons_succ])
  refine wl_give rfl (g_move _ (.pointer (some ⟨p4, 0, none⟩)) rfl ?_)
  (try simp only [Act.put, List.setIfInBounds_toArray, List.set_cons_zero, List.set_cons_succ])
  refine wl_give rfl (g_call 24 _ _ [.pointer (some ⟨p4, 0, none⟩)] (kf24 _ _) rfl ((keep1 0 rfl (fun R_ h_ => dropped_any h_) hM).mono ?_))
  rintro e w17 ⟨rfl, h_⟩
  refine ⟨_, rfl, ?_⟩
  replace hM : Ms w w17 [bf p4 (2) (1) (2) ([(5, ⟨#[97]⟩), (5, ⟨#[98]⟩)])] := h_
  clear h_
  (try simp only [Act.put, List.setIfInBounds_toArray, List.set_cons_zero, List.set_cons_succ])
  refine wl_give rfl (g_move _ (.pointer (some ⟨p4, 0, none⟩)) rfl ?_)
  (try simp only [Act.put, List.setIfInBounds_toArray, List.set_cons_zero, List.set_cons_succ])
  refine wl_give rfl (g_call 25 _ _ [.pointer (some ⟨p4, 0, none⟩), .int .i64 (5), .string (⟨#[98]⟩)] (kf25 _ _) rfl ((keep1 0 rfl (fun R_ h_ => has_v (r := true) h_ (by decide) (by decide)) hM).mono ?_))
  rintro e w18 ⟨rfl, h_⟩
  refine ⟨_, rfl, ?_⟩
  replace hM : Ms w w18 [bf p4 (2) (1) (2) ([(5, ⟨#[97]⟩), (5, ⟨#[98]⟩)])] := h_
  clear h_
  (try simp only [Act.put, List.setIfInBounds_toArray, List.set_cons_zero, List.set_cons_succ])
  refine wl_give rfl (g_assign _ (.int .i64 (2)) rfl ?_)
  (try simp only [Act.put, List.setIfInBounds_toArray, List.set_cons_zero, List.set_cons_succ])
  refine wl_give rfl (g_assign _ (.int .i64 (2)) rfl ?_)
  (try simp only [Act.put, List.setIfInBounds_toArray, List.set_cons_zero, List.set_cons_succ])
  refine wl_give rfl (g_assign _ (.bool true) rfl ?_)
  (try simp only [Act.put, List.setIfInBounds_toArray, List.set_cons_zero, List.set_cons_succ])
  refine wl_nil ?_
  refine hK15 _ _ ?_
  (try clear hK15 K15)
  refine wp_seq_k (fun K19 hK19 => ?_)
  refine wl_region ?_
  refine wl_give rfl (g_move _ (.pointer (some ⟨p4, 0, none⟩)) rfl ?_)
  (try simp only [Act.put, List.setIfInBounds_toArray, List.set_cons_zero, List.set_cons_succ])
  refine wl_give rfl (g_call 21 _ _ [.pointer (some ⟨p4, 0, none⟩)] (kf21 _ _) rfl ((to_sl (by decide) (ivals_v (l := [5]) hM (by decide) (by decide))).mono ?_))
  rintro e w20 ⟨g21, k22, rfl, h_⟩
  refine ⟨_, rfl, ?_⟩
  replace hM : Ms w w20 [sl 3 1 g21 k22 (1) (([5]).map encZ), bf p4 (2) (1) (2) ([(5, ⟨#[97]⟩), (5, ⟨#[98]⟩)])] := h_
  clear h_
  (try simp only [Act.put, List.setIfInBounds_toArray, List.set_cons_zero, List.set_cons_succ])
  refine wl_give rfl (g_assign _ (.slice (some ⟨g21, 0, none⟩) (1) (k22)) rfl ?_)
  (try simp only [Act.put, List.setIfInBounds_toArray, List.set_cons_zero, List.set_cons_succ])
  refine wl_nil ?_
  refine hK19 _ _ ?_
  (try clear hK19 K19)
  refine wp_seq_k (fun K23 hK23 => ?_)
  refine wl_region ?_
  refine wl_give rfl (g_move _ (.pointer (some ⟨p4, 0, none⟩)) rfl ?_)
  (try simp only [Act.put, List.setIfInBounds_toArray, List.set_cons_zero, List.set_cons_succ])
  refine wl_give rfl (g_call 17 _ _ [.pointer (some ⟨p4, 0, none⟩), .int .i64 (5)] (kf17 _ _) rfl ((to_sl (by decide) (take_v (ts := [⟨#[97]⟩, ⟨#[98]⟩]) (L' := []) (show Ms w w20 [bf p4 (2) (1) (2) ([(5, ⟨#[97]⟩), (5, ⟨#[98]⟩)]), sl 3 1 g21 k22 (1) (([5]).map encZ)] from (hM.up 1 rfl)) (by decide) (by decide) (by decide))).mono ?_))
  rintro e w24 ⟨g25, k26, rfl, h_⟩
  refine ⟨_, rfl, ?_⟩
  replace hM : Ms w w24 [sl 9 1 g25 k26 (2) (([⟨#[97]⟩, ⟨#[98]⟩]).map Value.string), bf p4 (2) (1) (2) ([]), sl 3 1 g21 k22 (1) (([5]).map encZ)] := h_
  clear h_
  (try simp only [Act.put, List.setIfInBounds_toArray, List.set_cons_zero, List.set_cons_succ])
  refine wl_give rfl (g_assign _ (.slice (some ⟨g25, 0, none⟩) (2) (k26)) rfl ?_)
  (try simp only [Act.put, List.setIfInBounds_toArray, List.set_cons_zero, List.set_cons_succ])
  refine wl_nil ?_
  refine hK23 _ _ ?_
  (try clear hK23 K23)
  refine wp_seq_k (fun K27 hK27 => ?_)
  refine wl_region ?_
  refine wl_give rfl (g_move _ (.pointer (some ⟨p4, 0, none⟩)) rfl ?_)
  (try simp only [Act.put, List.setIfInBounds_toArray, List.set_cons_zero, List.set_cons_succ])
  refine wl_give rfl (g_call 14 _ _ [.pointer (some ⟨p4, 0, none⟩), .int .i64 (0), .string (⟨#[120]⟩)] (kf14 _ _) rfl ((put_v (e := 1) (d' := 2) (L' := []) (show Ms w w24 [bf p4 (2) (1) (2) ([]), sl 9 1 g25 k26 (2) (([⟨#[97]⟩, ⟨#[98]⟩]).map Value.string), sl 3 1 g21 k22 (1) (([5]).map encZ)] from (hM.up 1 rfl)) (by decide) (by decide) (by decide) (by decide) (by decide) (by decide) (by decide) (by decide)).mono ?_))
  rintro e w28 ⟨rfl, h_⟩
  refine ⟨_, rfl, ?_⟩
  replace hM : Ms w w28 [bf p4 (2) (1) (2) ([]), sl 9 1 g25 k26 (2) (([⟨#[97]⟩, ⟨#[98]⟩]).map Value.string), sl 3 1 g21 k22 (1) (([5]).map encZ)] := h_
  clear h_
  (try simp only [Act.put, List.setIfInBounds_toArray, List.set_cons_zero, List.set_cons_succ])
  refine wl_give rfl (g_assign _ (.int .i64 (1)) rfl ?_)
  (try simp only [Act.put, List.setIfInBounds_toArray, List.set_cons_zero, List.set_cons_succ])
  refine wl_nil ?_
  refine hK27 _ _ ?_
  (try clear hK27 K27)
  refine wp_seq_k (fun K29 hK29 => ?_)
  refine wl_region ?_
  refine wl_give rfl (g_move _ (.pointer (some ⟨p4, 0, none⟩)) rfl ?_)
  (try simp only [Act.put, List.setIfInBounds_toArray, List.set_cons_zero, List.set_cons_succ])
  refine wl_give rfl (g_call 14 _ _ [.pointer (some ⟨p4, 0, none⟩), .int .i64 (6), .string (⟨#[100]⟩)] (kf14 _ _) rfl ((put_v (e := 0) (d' := 2) (L' := [(6, ⟨#[100]⟩)]) hM (by decide) (by decide) (by decide) (by decide) (by decide) (by decide) (by decide) (by decide)).mono ?_))
  rintro e w30 ⟨rfl, h_⟩
  refine ⟨_, rfl, ?_⟩
  replace hM : Ms w w30 [bf p4 (2) (1) (2) ([(6, ⟨#[100]⟩)]), sl 9 1 g25 k26 (2) (([⟨#[97]⟩, ⟨#[98]⟩]).map Value.string), sl 3 1 g21 k22 (1) (([5]).map encZ)] := h_
  clear h_
  (try simp only [Act.put, List.setIfInBounds_toArray, List.set_cons_zero, List.set_cons_succ])
  refine wl_give rfl (g_assign _ (.int .i64 (0)) rfl ?_)
  (try simp only [Act.put, List.setIfInBounds_toArray, List.set_cons_zero, List.set_cons_succ])
  refine wl_nil ?_
  refine hK29 _ _ ?_
  (try clear hK29 K29)
  refine wp_seq_k (fun K31 hK31 => ?_)
  (try simp only [List.append_eq, List.cons_append, List.nil_append])
  refine wl_region ?_
  refine wl_give rfl (g_move _ (.int .i64 (0)) rfl ?_)
  (try simp only [Act.put, List.setIfInBounds_toArray, List.set_cons_zero, List.set_cons_succ])
  refine wl_give rfl (g_ieq 25 _ _ .i64 (0) (0) true rfl rfl (by decide) ?_)
  (try simp only [Act.put, List.setIfInBounds_toArray, List.set_cons_zero, List.set_cons_succ])
  refine wl_give rfl (g_move _ (.bool true) rfl ?_)
  (try simp only [Act.put, List.setIfInBounds_toArray, List.set_cons_zero, List.set_cons_succ])
  refine wl_give rfl (g_move _ (.int .i64 (1)) rfl ?_)
  (try simp only [Act.put, List.setIfInBounds_toArray, List.set_cons_zero, List.set_cons_succ])
  refine wl_give rfl (g_ieq 25 _ _ .i64 (1) (1) true rfl rfl (by decide) ?_)
  (try simp only [Act.put, List.setIfInBounds_toArray, List.set_cons_zero, List.set_cons_succ])
  refine wl_give rfl (g_pickt _ _ _ (.bool true) rfl rfl ?_)
  (try simp only [Act.put, List.setIfInBounds_toArray, List.set_cons_zero, List.set_cons_succ])
  refine wl_give rfl (g_move _ (.bool true) rfl ?_)
  (try simp only [Act.put, List.setIfInBounds_toArray, List.set_cons_zero, List.set_cons_succ])
  refine wl_give rfl (g_move _ (.int .i64 (0)) rfl ?_)
  (try simp only [Act.put, List.setIfInBounds_toArray, List.set_cons_zero, List.set_cons_succ])
  refine wl_give rfl (g_ieq 25 _ _ .i64 (0) (0) true rfl rfl (by decide) ?_)
  (try simp only [Act.put, List.setIfInBounds_toArray, List.set_cons_zero, List.set_cons_succ])
  refine wl_give rfl (g_pickt _ _ _ (.bool true) rfl rfl ?_)
  (try simp only [Act.put, List.setIfInBounds_toArray, List.set_cons_zero, List.set_cons_succ])
  refine wl_give rfl (g_move _ (.bool true) rfl ?_)
  (try simp only [Act.put, List.setIfInBounds_toArray, List.set_cons_zero, List.set_cons_succ])
  refine wl_give rfl (g_move _ (.int .i64 (0)) rfl ?_)
  (try simp only [Act.put, List.setIfInBounds_toArray, List.set_cons_zero, List.set_cons_succ])
  refine wl_give rfl (g_ieq 25 _ _ .i64 (0) (0) true rfl rfl (by decide) ?_)
  (try simp only [Act.put, List.setIfInBounds_toArray, List.set_cons_zero, List.set_cons_succ])
  refine wl_give rfl (g_pickt _ _ _ (.bool true) rfl rfl ?_)
  (try simp only [Act.put, List.setIfInBounds_toArray, List.set_cons_zero, List.set_cons_succ])
  refine wl_give rfl (g_move _ (.bool true) rfl ?_)
  (try simp only [Act.put, List.setIfInBounds_toArray, List.set_cons_zero, List.set_cons_succ])
  refine wl_give rfl (g_move _ (.int .i64 (4)) rfl ?_)
  (try simp only [Act.put, List.setIfInBounds_toArray, List.set_cons_zero, List.set_cons_succ])
  refine wl_give rfl (g_ieq 25 _ _ .i64 (4) (4) true rfl rfl (by decide) ?_)
  (try simp only [Act.put, List.setIfInBounds_toArray, List.set_cons_zero, List.set_cons_succ])
  refine wl_give rfl (g_pickt _ _ _ (.bool true) rfl rfl ?_)
  (try simp only [Act.put, List.setIfInBounds_toArray, List.set_cons_zero, List.set_cons_succ])
  refine wl_give rfl (g_move _ (.bool true) rfl ?_)
  (try simp only [Act.put, List.setIfInBounds_toArray, List.set_cons_zero, List.set_cons_succ])
  refine wl_give rfl (g_move _ (.int .i64 (4)) rfl ?_)
  (try simp only [Act.put, List.setIfInBounds_toArray, List.set_cons_zero, List.set_cons_succ])
  refine wl_give rfl (g_ieq 25 _ _ .i64 (4) (4) true rfl rfl (by decide) ?_)
  (try simp only [Act.put, List.setIfInBounds_toArray, List.set_cons_zero, List.set_cons_succ])
  refine wl_give rfl (g_pickt _ _ _ (.bool true) rfl rfl ?_)
  (try simp only [Act.put, List.setIfInBounds_toArray, List.set_cons_zero, List.set_cons_succ])
  refine wl_give rfl (g_move _ (.bool true) rfl ?_)
  (try simp only [Act.put, List.setIfInBounds_toArray, List.set_cons_zero, List.set_cons_succ])
  refine wl_give rfl (g_move _ (.int .i64 (11)) rfl ?_)
  (try simp only [Act.put, List.setIfInBounds_toArray, List.set_cons_zero, List.set_cons_succ])
  refine wl_give rfl (g_ieq 25 _ _ .i64 (11) (11) true rfl rfl (by decide) ?_)
  (try simp only [Act.put, List.setIfInBounds_toArray, List.set_cons_zero, List.set_cons_succ])
  refine wl_give rfl (g_pickt _ _ _ (.bool true) rfl rfl ?_)
  (try simp only [Act.put, List.setIfInBounds_toArray, List.set_cons_zero, List.set_cons_succ])
  refine wl_give rfl (g_move _ (.bool true) rfl ?_)
  (try simp only [Act.put, List.setIfInBounds_toArray, List.set_cons_zero, List.set_cons_succ])
  refine wl_give rfl (g_move _ (.int .i64 (2)) rfl ?_)
  (try simp only [Act.put, List.setIfInBounds_toArray, List.set_cons_zero, List.set_cons_succ])
  refine wl_give rfl (g_ieq 3 _ _ .i64 (2) (2) true rfl rfl (by decide) ?_)
  (try simp only [Act.put, List.setIfInBounds_toArray, List.set_cons_zero, List.set_cons_succ])
  refine wl_give rfl (g_pickt _ _ _ (.bool true) rfl rfl ?_)
  (try simp only [Act.put, List.setIfInBounds_toArray, List.set_cons_zero, List.set_cons_succ])
  refine wl_give rfl (g_move _ (.bool true) rfl ?_)
  (try simp only [Act.put, List.setIfInBounds_toArray, List.set_cons_zero, List.set_cons_succ])
  refine wl_give rfl (g_move _ (.int .i64 (2)) rfl ?_)
  (try simp only [Act.put, List.setIfInBounds_toArray, List.set_cons_zero, List.set_cons_succ])
  refine wl_give rfl (g_ieq 3 _ _ .i64 (2) (2) true rfl rfl (by decide) ?_)
  (try simp only [Act.put, List.setIfInBounds_toArray, List.set_cons_zero, List.set_cons_succ])
  refine wl_give rfl (g_pickt _ _ _ (.bool true) rfl rfl ?_)
  (try simp only [Act.put, List.setIfInBounds_toArray, List.set_cons_zero, List.set_cons_succ])
  refine wl_give rfl (g_move _ (.bool true) rfl ?_)
  (try simp only [Act.put, List.setIfInBounds_toArray, List.set_cons_zero, List.set_cons_succ])
  refine wl_give rfl (g_move _ (.bool true) rfl ?_)
  (try simp only [Act.put, List.setIfInBounds_toArray, List.set_cons_zero, List.set_cons_succ])
  refine wl_give rfl (g_pickt _ _ _ (.bool true) rfl rfl ?_)
  (try simp only [Act.put, List.setIfInBounds_toArray, List.set_cons_zero, List.set_cons_succ])
  refine wl_give rfl (g_move _ (.bool true) rfl ?_)
  (try simp only [Act.put, List.setIfInBounds_toArray, List.set_cons_zero, List.set_cons_succ])
  refine wl_give rfl (g_move _ (.slice (some ⟨g21, 0, none⟩) (1) (k22)) rfl ?_)
  (try simp only [Act.put, List.setIfInBounds_toArray, List.set_cons_zero, List.set_cons_succ])
  refine wl_give rfl (g_len _ 39 3 ((some ⟨g21, 0, none⟩)) (1) (k22) (1) Try.underlying39 rfl rfl ?_)
  (try simp only [Act.put, List.setIfInBounds_toArray, List.set_cons_zero, List.set_cons_succ])
  refine wl_give rfl (g_ieq 3 _ _ .i64 (1) (1) true rfl rfl (by decide) ?_)
  (try simp only [Act.put, List.setIfInBounds_toArray, List.set_cons_zero, List.set_cons_succ])
  refine wl_give rfl (g_pickt _ _ _ (.bool true) rfl rfl ?_)
  (try simp only [Act.put, List.setIfInBounds_toArray, List.set_cons_zero, List.set_cons_succ])
  refine wl_give rfl (g_move _ (.bool true) rfl ?_)
  (try simp only [Act.put, List.setIfInBounds_toArray, List.set_cons_zero, List.set_cons_succ])
  refine wl_give rfl (g_move _ (.slice (some ⟨g21, 0, none⟩) (1) (k22)) rfl ?_)
  (try simp only [Act.put, List.setIfInBounds_toArray, List.set_cons_zero, List.set_cons_succ])
  refine wl_give rfl (g_ix _ _ 39 3 1 Try.underlying39 szof3 g21 0 1 k22 0 (0 + 0 * 1) _ rfl rfl rfl (by decide) rfl ?_)
  (try simp only [Act.put, List.setIfInBounds_toArray, List.set_cons_zero, List.set_cons_succ])
  refine wl_give rfl (g_ld1 3 _ (g21) (0 + 0 * 1) _ rfl (ld3 _ _ _ _ (sl_cell (show Ms w _ [sl 3 1 g21 k22 (1) (([5]).map encZ), bf p4 (2) (1) (2) ([(6, ⟨#[100]⟩)]), sl 9 1 g25 k26 (2) (([⟨#[97]⟩, ⟨#[98]⟩]).map Value.string)] from (hM.up 2 rfl)) 0 _ rfl)) ?_)
  (try simp only [Act.put, List.setIfInBounds_toArray, List.set_cons_zero, List.set_cons_succ])
  refine wl_give rfl (g_ieq 3 _ _ .i64 (5) (5) true rfl rfl (by decide) ?_)
  (try simp only [Act.put, List.setIfInBounds_toArray, List.set_cons_zero, List.set_cons_succ])
  refine wl_give rfl (g_pickt _ _ _ (.bool true) rfl rfl ?_)
  (try simp only [Act.put, List.setIfInBounds_toArray, List.set_cons_zero, List.set_cons_succ])
  refine wl_give rfl (g_move _ (.bool true) rfl ?_)
  (try simp only [Act.put, List.setIfInBounds_toArray, List.set_cons_zero, List.set_cons_succ])
  refine wl_give rfl (g_move _ (.slice (some ⟨g25, 0, none⟩) (2) (k26)) rfl ?_)
  (try simp only [Act.put, List.setIfInBounds_toArray, List.set_cons_zero, List.set_cons_succ])
  refine wl_give rfl (g_len _ 36 9 ((some ⟨g25, 0, none⟩)) (2) (k26) (2) Try.underlying36 rfl rfl ?_)
  (try simp only [Act.put, List.setIfInBounds_toArray, List.set_cons_zero, List.set_cons_succ])
  refine wl_give rfl (g_ieq 3 _ _ .i64 (2) (2) true rfl rfl (by decide) ?_)
  (try simp only [Act.put, List.setIfInBounds_toArray, List.set_cons_zero, List.set_cons_succ])
  refine wl_give rfl (g_pickt _ _ _ (.bool true) rfl rfl ?_)
  (try simp only [Act.put, List.setIfInBounds_toArray, List.set_cons_zero, List.set_cons_succ])
  refine wl_give rfl (g_move _ (.bool true) rfl ?_)
  (try simp only [Act.put, List.setIfInBounds_toArray, List.set_cons_zero, List.set_cons_succ])
  refine wl_give rfl (g_move _ (.slice (some ⟨g25, 0, none⟩) (2) (k26)) rfl ?_)
  (try simp only [Act.put, List.setIfInBounds_toArray, List.set_cons_zero, List.set_cons_succ])
  refine wl_give rfl (g_ix _ _ 36 9 1 Try.underlying36 szof9 g25 0 2 k26 1 (0 + 1 * 1) _ rfl rfl rfl (by decide) rfl ?_)
  (try simp only [Act.put, List.setIfInBounds_toArray, List.set_cons_zero, List.set_cons_succ])
  refine wl_give rfl (g_ld1 9 _ (g25) (0 + 1 * 1) _ rfl (ld9 _ _ _ _ (sl_cell (show Ms w _ [sl 9 1 g25 k26 (2) (([⟨#[97]⟩, ⟨#[98]⟩]).map Value.string), bf p4 (2) (1) (2) ([(6, ⟨#[100]⟩)]), sl 3 1 g21 k22 (1) (([5]).map encZ)] from (hM.up 1 rfl)) 1 _ rfl)) ?_)
  (try simp only [Act.put, List.setIfInBounds_toArray, List.set_cons_zero, List.set_cons_succ])
  refine wl_give rfl (g_steq 9 _ _ (⟨#[98]⟩) (⟨#[98]⟩) true rfl rfl (decide_eq_true rfl) ?_)
  (try simp only [Act.put, List.setIfInBounds_toArray, List.set_cons_zero, List.set_cons_succ])
  refine wl_give rfl (g_pickt _ _ _ (.bool true) rfl rfl ?_)
  (try simp only [Act.put, List.setIfInBounds_toArray, List.set_cons_zero, List.set_cons_succ])
  refine wl_give rfl (g_move _ (.bool true) rfl ?_)
  (try simp only [Act.put, List.setIfInBounds_toArray, List.set_cons_zero, List.set_cons_succ])
  refine wl_give rfl (g_move _ (.int .i64 (1)) rfl ?_)
  (try simp only [Act.put, List.setIfInBounds_toArray, List.set_cons_zero, List.set_cons_succ])
  refine wl_give rfl (g_ieq 25 _ _ .i64 (1) (1) true rfl rfl (by decide) ?_)
  (try simp only [Act.put, List.setIfInBounds_toArray, List.set_cons_zero, List.set_cons_succ])
  refine wl_give rfl (g_pickt _ _ _ (.bool true) rfl rfl ?_)
  (try simp only [Act.put, List.setIfInBounds_toArray, List.set_cons_zero, List.set_cons_succ])
  refine wl_give rfl (g_move _ (.bool true) rfl ?_)
  (try simp only [Act.put, List.setIfInBounds_toArray, List.set_cons_zero, List.set_cons_succ])
  refine wl_give rfl (g_move _ (.int .i64 (0)) rfl ?_)
  (try simp only [Act.put, List.setIfInBounds_toArray, List.set_cons_zero, List.set_cons_succ])
  refine wl_give rfl (g_ieq 25 _ _ .i64 (0) (0) true rfl rfl (by decide) ?_)
  (try simp only [Act.put, List.setIfInBounds_toArray, List.set_cons_zero, List.set_cons_succ])
  refine wl_give rfl (g_pickt _ _ _ (.bool true) rfl rfl ?_)
  (try simp only [Act.put, List.setIfInBounds_toArray, List.set_cons_zero, List.set_cons_succ])
  refine wl_give rfl (g_move _ (.bool true) rfl ?_)
  (try simp only [Act.put, List.setIfInBounds_toArray, List.set_cons_zero, List.set_cons_succ])
  refine wl_give rfl (g_move _ (.pointer (some ⟨p4, 0, none⟩)) rfl ?_)
  (try simp only [Act.put, List.setIfInBounds_toArray, List.set_cons_zero, List.set_cons_succ])
  refine wl_give rfl (g_call 19 _ _ [.pointer (some ⟨p4, 0, none⟩), .int .i64 (7)] (kf19 _ _) rfl ((drop_v (n := 1) (L' := []) hM (by decide) (by decide) (by decide)).mono ?_))
  rintro e w32 ⟨rfl, h_⟩
  refine ⟨_, rfl, ?_⟩
  replace hM : Ms w w32 [bf p4 (2) (1) (2) ([]), sl 9 1 g25 k26 (2) (([⟨#[97]⟩, ⟨#[98]⟩]).map Value.string), sl 3 1 g21 k22 (1) (([5]).map encZ)] := h_
  clear h_
  (try simp only [Act.put, List.setIfInBounds_toArray, List.set_cons_zero, List.set_cons_succ])
  refine wl_give rfl (g_ieq 3 _ _ .i64 (1) (1) true rfl rfl (by decide) ?_)
  (try simp only [Act.put, List.setIfInBounds_toArray, List.set_cons_zero, List.set_cons_succ])
  refine wl_give rfl (g_pickt _ _ _ (.bool true) rfl rfl ?_)
  (try simp only [Act.put, List.setIfInBounds_toArray, List.set_cons_zero, List.set_cons_succ])
  refine wl_give rfl (g_move _ (.bool true) rfl ?_)
  (try simp only [Act.put, List.setIfInBounds_toArray, List.set_cons_zero, List.set_cons_succ])
  refine wl_give rfl (g_move _ (.pointer (some ⟨p4, 0, none⟩)) rfl ?_)
  (try simp only [Act.put, List.setIfInBounds_toArray, List.set_cons_zero, List.set_cons_succ])
  refine wl_give rfl (g_call 23 _ _ [.pointer (some ⟨p4, 0, none⟩)] (kf23 _ _) rfl ((keep1 0 rfl (fun R_ h_ => size_v (n := 0) h_ (by decide) (by decide)) hM).mono ?_))
  rintro e w33 ⟨rfl, h_⟩
  refine ⟨_, rfl, ?_⟩
  replace hM : Ms w w33 [bf p4 (2) (1) (2) ([]), sl 9 1 g25 k26 (2) (([⟨#[97]⟩, ⟨#[98]⟩]).map Value.string), sl 3 1 g21 k22 (1) (([5]).map encZ)] := h_
  clear h_
  (try simp only [Act.put, List.setIfInBounds_toArray, List.set_cons_zero, List.set_cons_succ])
  refine wl_give rfl (g_ieq 3 _ _ .i64 (0) (0) true rfl rfl (by decide) ?_)
  (try simp only [Act.put, List.setIfInBounds_toArray, List.set_cons_zero, List.set_cons_succ])
  refine wl_give rfl (g_pickt _ _ _ (.bool true) rfl rfl ?_)
  (try simp only [Act.put, List.setIfInBounds_toArray, List.set_cons_zero, List.set_cons_succ])
  refine wl_give rfl (g_move _ (.bool true) rfl ?_)
  (try simp only [Act.put, List.setIfInBounds_toArray, List.set_cons_zero, List.set_cons_succ])
  refine wl_give rfl (g_move _ (.pointer (some ⟨p4, 0, none⟩)) rfl ?_)
  (try simp only [Act.put, List.setIfInBounds_toArray, List.set_cons_zero, List.set_cons_succ])
  refine wl_give rfl (g_call 17 _ _ [.pointer (some ⟨p4, 0, none⟩), .int .i64 (5)] (kf17 _ _) rfl ((to_row (take_v (ts := []) (L' := []) hM (by decide) (by decide) (by decide))).mono ?_))
  rintro e w34 ⟨o35, k36, rfl, h_⟩
  refine ⟨_, rfl, ?_⟩
  replace hM : Ms w w34 [row 9 1 (.slice o35 (0) k36) (0) (([]).map Value.string), bf p4 (2) (1) (2) ([]), sl 9 1 g25 k26 (2) (([⟨#[97]⟩, ⟨#[98]⟩]).map Value.string), sl 3 1 g21 k22 (1) (([5]).map encZ)] := h_
  clear h_
  (try simp only [Act.put, List.setIfInBounds_toArray, List.set_cons_zero, List.set_cons_succ])
  refine wl_give rfl (g_len _ 36 9 (o35) (0) (k36) (0) Try.underlying36 rfl rfl ?_)
  (try simp only [Act.put, List.setIfInBounds_toArray, List.set_cons_zero, List.set_cons_succ])
  refine wl_give rfl (g_ieq 3 _ _ .i64 (0) (0) true rfl rfl (by decide) ?_)
  (try simp only [Act.put, List.setIfInBounds_toArray, List.set_cons_zero, List.set_cons_succ])
  refine wl_give rfl (g_pickt _ _ _ (.bool true) rfl rfl ?_)
  (try simp only [Act.put, List.setIfInBounds_toArray, List.set_cons_zero, List.set_cons_succ])
  refine wl_give rfl (g_assign _ (.bool true) rfl ?_)
  (try simp only [Act.put, List.setIfInBounds_toArray, List.set_cons_zero, List.set_cons_succ])
  refine wl_nil ?_
  refine hK31 _ _ ?_
  (try clear hK31 K31)
  refine wp_ret ?_
  go_ret
  exact ⟨rfl, hM.below⟩
end Go.Proofs.Ytpkjocibgmjhdaa
