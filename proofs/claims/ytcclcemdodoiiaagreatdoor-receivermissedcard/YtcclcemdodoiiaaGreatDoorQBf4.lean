/- What Put answers, where the interval's channel is known, or is none. -/
import Derived.Test.YtcclcemdodoiiaaGreatDoorQRunG
import Derived.Test.YtcclcemdodoiiaaGreatDoorQBf3
namespace Go.Proofs.YtcclcemdodoiiaaGreatDoor
set_option maxRecDepth 10000
open Go Go.RowKit
set_option linter.unusedVariables false
set_option linter.unusedSimpArgs false

set_option maxHeartbeats 4000000 in
theorem put_low {w0 w : World} {R : List HP} {p m x : Nat} {y d i : Int} {s : ByteArray} (hM : Ms w0 w (blk (p) ([.int .i64 (((x : Nat) : Int)), .int .i64 (y), .map (some m), .int .i64 (d)]) 130 :: R)) (hi : i < 1) : Calls Tryz.prog 63 #[.pointer (some ⟨p, 0, none⟩), .int .i64 i, .string s] w fun e w' => e = .returned (.int .i64 1) ∧ Ms w0 w' (blk (p) ([.int .i64 (((x : Nat) : Int)), .int .i64 (y), .map (some m), .int .i64 (d)]) 130 :: R) := by
  refine calls_of_lt Tryz.func63 rfl (fun b cs hbf hbk => ?_)
  simp only [Tryz.ntmps63, List.size_toArray, List.length_cons, List.length_nil, Nat.reduceAdd, Nat.reduceSub, Array.replicate_succ, Array.replicate_zero, List.push_toArray, List.append_toArray, List.nil_append, List.cons_append]
  refine lt_seq ?_
  refine lt_wp fun _ κ1 => ?_
  refine wl_region (wl_fare kn ?_)
  simp (disch := omega) only [fx, pv, kx]
  refine wl_nil (κ1 _ _ ?_)
  refine lt_seq ?_
  refine lt_seq ?_
  refine lt_wp fun _ κ2 => ?_
  refine wl_region (wl_fare kn ?_)
  simp (disch := omega) only [fx, pv, kx]
  refine wl_nil (κ2 _ _ ?_)
  refine lt_true rfl ?_
  refine lt_seq ?_
  refine lt_wp fun _ κ3 => ?_
  refine wl_region (wl_fare kn ?_)
  simp (disch := omega) only [fx, pv, kx]
  refine wl_nil (κ3 _ _ ?_)
  refine lt_ret hbf hbk Tryz.func63 rfl (results_tmp rfl _ _ _) ⟨rfl, (hM.up 0 rfl)⟩
theorem has_t {w0 w : World} {R : List HP} {p m x : Nat} {y d i : Int} {es : List (Int × Value)} {c : Nat} {s : ByteArray} {ts : List ByteArray} (hM : Ms w0 w (blk (p) ([.int .i64 (((x : Nat) : Int)), .int .i64 (y), .map (some m), .int .i64 (d)]) 130 :: mp kI m (es) :: ch c (x) ((ts).map Value.string) :: R)) (hl : mlook es i = some (.chan (some c))) (hx : ts.length ≤ x) (hx2 : x ≤ 1000) {r : Bool} (hr : isin s ts = r) : Calls Tryz.prog 87 #[.pointer (some ⟨p, 0, none⟩), .int .i64 i, .string s] w fun e w' => e = .returned (.bool r) ∧ Ms w0 w' (blk (p) ([.int .i64 (((x : Nat) : Int)), .int .i64 (y), .map (some m), .int .i64 (d)]) 130 :: mp kI m (es) :: ch c (x) ((ts).map Value.string) :: R) := by subst hr; exact has_in hM hl hx hx2
set_option maxHeartbeats 4000000 in
theorem put_twice {w0 w : World} {R : List HP} {p m x : Nat} {y d i : Int} {es : List (Int × Value)} {c : Nat} {s : ByteArray} {ts : List ByteArray} (hM : Ms w0 w (blk (p) ([.int .i64 (((x : Nat) : Int)), .int .i64 (y), .map (some m), .int .i64 (d)]) 130 :: mp kI m (es) :: ch c (x) ((ts).map Value.string) :: R)) (hi : ¬ i < 1) (hl : mlook es i = some (.chan (some c))) (hx : ts.length ≤ x) (hx2 : x ≤ 1000) (hr : isin s ts = true) : Calls Tryz.prog 63 #[.pointer (some ⟨p, 0, none⟩), .int .i64 i, .string s] w fun e w' => e = .returned (.int .i64 11) ∧ Ms w0 w' (blk (p) ([.int .i64 (((x : Nat) : Int)), .int .i64 (y), .map (some m), .int .i64 (d)]) 130 :: mp kI m (es) :: ch c (x) ((ts).map Value.string) :: R) := by
  refine calls_of_lt Tryz.func63 rfl (fun b cs hbf hbk => ?_)
  simp only [Tryz.ntmps63, List.size_toArray, List.length_cons, List.length_nil, Nat.reduceAdd, Nat.reduceSub, Array.replicate_succ, Array.replicate_zero, List.push_toArray, List.append_toArray, List.nil_append, List.cons_append]
  refine lt_seq ?_
  refine lt_wp fun _ κ1 => ?_
  refine wl_region (wl_fare kn ?_)
  simp (disch := omega) only [fx, pv, kx]
  refine wl_nil (κ1 _ _ ?_)
  refine lt_seq ?_
  refine lt_seq ?_
  refine lt_wp fun _ κ2 => ?_
  refine wl_region (wl_fare kn ?_)
  simp (disch := omega) only [fx, pv, kx]
  refine wl_nil (κ2 _ _ ?_)
  refine lt_false rfl ?_
  refine lt_skip ?_
  refine lt_seq ?_
  refine lt_seq ?_
  refine lt_wp fun _ κ3 => ?_
  refine wl_region (wl_fare kn ?_)
  simp (disch := omega) only [fx, pv, kx]
  refine wl_give rfl (g_call 87 _ _ [.pointer (some ⟨p, 0, none⟩), .int .i64 (i), .string (s)] (kf87 _ _) rfl ((has_t (show Ms w0 w (blk (p) ([.int .i64 (((x : Nat) : Int)), .int .i64 (y), .map (some m), .int .i64 (d)]) 130 :: mp kI m (es) :: ch c (x) ((ts).map Value.string) :: R) from (((hM.up 2 rfl).up 2 rfl).up 2 rfl)) hl hx hx2 hr).mono ?_))
  rintro e w4 ⟨rfl, h_⟩
  refine ⟨_, rfl, ?_⟩
  replace hM : Ms w0 w4 (blk (p) ([.int .i64 (((x : Nat) : Int)), .int .i64 (y), .map (some m), .int .i64 (d)]) 130 :: mp kI m (es) :: ch c (x) ((ts).map Value.string) :: R) := h_
  clear h_
  try simp only [nz]
  refine wl_nil (κ3 _ _ ?_)
  refine lt_true rfl ?_
  refine lt_seq ?_
  refine lt_wp fun _ κ5 => ?_
  refine wl_region (wl_fare kn ?_)
  simp (disch := omega) only [fx, pv, kx]
  refine wl_nil (κ5 _ _ ?_)
  refine lt_ret hbf hbk Tryz.func63 rfl (results_tmp rfl _ _ _) ⟨rfl, (((hM.up 2 rfl).up 2 rfl).up 2 rfl)⟩
set_option maxHeartbeats 4000000 in
theorem put_full {w0 w : World} {R : List HP} {p m x : Nat} {y d i : Int} {es : List (Int × Value)} {c : Nat} {s : ByteArray} {ts : List ByteArray} (hM : Ms w0 w (blk (p) ([.int .i64 (((x : Nat) : Int)), .int .i64 (y), .map (some m), .int .i64 (d)]) 130 :: mp kI m (es) :: ch c (x) ((ts).map Value.string) :: R)) (hi : ¬ i < 1) (hl : mlook es i = some (.chan (some c))) (hx : ts.length ≤ x) (hx2 : x ≤ 1000) (hr : isin s ts = false) (hf : x ≤ ts.length) (hd : Shut (IntKind.i64.wrap (d + 1) = d + 1)) : Calls Tryz.prog 63 #[.pointer (some ⟨p, 0, none⟩), .int .i64 i, .string s] w fun e w' => e = .returned (.int .i64 4) ∧ Ms w0 w' (blk (p) ([.int .i64 (((x : Nat) : Int)), .int .i64 (y), .map (some m), .int .i64 (d + 1)]) 130 :: mp kI m (es) :: ch c (x) ((ts).map Value.string) :: R) := by
  refine calls_of_lt Tryz.func63 rfl (fun b cs hbf hbk => ?_)
  simp only [Tryz.ntmps63, List.size_toArray, List.length_cons, List.length_nil, Nat.reduceAdd, Nat.reduceSub, Array.replicate_succ, Array.replicate_zero, List.push_toArray, List.append_toArray, List.nil_append, List.cons_append]
  refine lt_seq ?_
  refine lt_wp fun _ κ1 => ?_
  refine wl_region (wl_fare kn ?_)
  simp (disch := omega) only [fx, pv, kx]
  refine wl_nil (κ1 _ _ ?_)
  refine lt_seq ?_
  refine lt_seq ?_
  refine lt_wp fun _ κ2 => ?_
  refine wl_region (wl_fare kn ?_)
  simp (disch := omega) only [fx, pv, kx]
  refine wl_nil (κ2 _ _ ?_)
  refine lt_false rfl ?_
  refine lt_skip ?_
  refine lt_seq ?_
  refine lt_seq ?_
  refine lt_wp fun _ κ3 => ?_
  refine wl_region (wl_fare kn ?_)
  simp (disch := omega) only [fx, pv, kx]
  refine wl_give rfl (g_call 87 _ _ [.pointer (some ⟨p, 0, none⟩), .int .i64 (i), .string (s)] (kf87 _ _) rfl ((has_t (show Ms w0 w (blk (p) ([.int .i64 (((x : Nat) : Int)), .int .i64 (y), .map (some m), .int .i64 (d)]) 130 :: mp kI m (es) :: ch c (x) ((ts).map Value.string) :: R) from (((hM.up 2 rfl).up 2 rfl).up 2 rfl)) hl hx hx2 hr).mono ?_))
  rintro e w4 ⟨rfl, h_⟩
  refine ⟨_, rfl, ?_⟩
  replace hM : Ms w0 w4 (blk (p) ([.int .i64 (((x : Nat) : Int)), .int .i64 (y), .map (some m), .int .i64 (d)]) 130 :: mp kI m (es) :: ch c (x) ((ts).map Value.string) :: R) := h_
  clear h_
  try simp only [nz]
  refine wl_nil (κ3 _ _ ?_)
  refine lt_false rfl ?_
  refine lt_skip ?_
  refine lt_seq ?_
  refine lt_seq ?_
  refine lt_wp fun _ κ5 => ?_
  refine wl_region (wl_fare kn ?_)
  simp (disch := omega) only [fx, pv, kx]
  refine wl_give rfl (g_call 88 _ _ [.pointer (some ⟨p, 0, none⟩), .int .i64 (i)] (kf88 _ _) rfl ((line_in (show Ms w0 w4 (blk (p) ([.int .i64 (((x : Nat) : Int)), .int .i64 (y), .map (some m), .int .i64 (d)]) 130 :: mp kI m (es) :: ch c (x) ((ts).map Value.string) :: R) from ((hM.up 1 rfl).up 1 rfl)) hl).mono ?_))
  rintro e w6 ⟨rfl, h_⟩
  refine ⟨_, rfl, ?_⟩
  replace hM : Ms w0 w6 (blk (p) ([.int .i64 (((x : Nat) : Int)), .int .i64 (y), .map (some m), .int .i64 (d)]) 130 :: mp kI m (es) :: ch c (x) ((ts).map Value.string) :: R) := h_
  clear h_
  try simp only [nz]
  refine wl_nil (κ5 _ _ ?_)
  refine lt_wp fun _ κ7 => ?_
  refine wl_region (wl_fare kn ?_)
  simp (disch := omega) only [fx, pv, kx]
  refine wl_nil (κ7 _ _ ?_)
  refine lt_seq ?_
  refine lt_region ?_
  refine lo_sel_full hbk Tryz.zeroValue9 rfl rfl (show Ms w0 w6 (ch c (x) ((ts).map Value.string) :: blk (p) ([.int .i64 (((x : Nat) : Int)), .int .i64 (y), .map (some m), .int .i64 (d)]) 130 :: mp kI m (es) :: R) from (hM.up 2 rfl)) (by simpa using hf) ?_
  try simp only [nz]
  refine lo_give rfl (g_extract _ #[.int .i64 (-1), .bool false] 0 (.int .i64 (-1)) rfl rfl ?_)
  try simp only [nz]
  refine lo_give rfl (g_ieq 3 _ _ .i64 (-1) (0) false rfl rfl (by decide) ?_)
  try simp only [nz]
  refine lo_nil ?_
  refine lt_block ?_
  refine lt_false rfl ?_
  refine lt_seq ?_
  refine lt_wp fun _ κ9 => ?_
  refine wl_region (wl_fare kn ?_)
  simp (disch := omega) only [fx, pv, kx, (hM.get 0 rfl).cell 3 (.int .i64 (d)) rfl, (hd.out : IntKind.i64.wrap ((d) + (1)) = d + 1)]
  refine wl_give rfl (g_st1 3 _ _ (p) 3 (.int .i64 (d + 1)) _ 130 rfl rfl (hM.get 0 rfl) (show 3 < 4 by decide) rfl rfl size3 fun w10 t_ b_ => ?_)
  replace hM : Ms w0 w10 (blk (p) ([.int .i64 (((x : Nat) : Int)), .int .i64 (y), .map (some m), .int .i64 (d + 1)]) 130 :: mp kI m (es) :: ch c (x) ((ts).map Value.string) :: R) := hM.put 0 rfl t_ b_
  clear t_ b_
  try simp only [nz]
  refine wl_nil (κ9 _ _ ?_)
  refine lt_seq ?_
  refine lt_wp fun _ κ11 => ?_
  refine wl_region (wl_fare kn ?_)
  simp (disch := omega) only [fx, pv, kx]
  refine wl_nil (κ11 _ _ ?_)
  refine lt_ret hbf hbk Tryz.func63 rfl (results_tmp rfl _ _ _) ⟨rfl, (((hM.up 2 rfl).up 2 rfl).up 2 rfl)⟩
set_option maxHeartbeats 4000000 in
theorem put_room {w0 w : World} {R : List HP} {p m x : Nat} {y d i : Int} {es : List (Int × Value)} {c : Nat} {s : ByteArray} {ts : List ByteArray} (hM : Ms w0 w (blk (p) ([.int .i64 (((x : Nat) : Int)), .int .i64 (y), .map (some m), .int .i64 (d)]) 130 :: mp kI m (es) :: ch c (x) ((ts).map Value.string) :: R)) (hi : ¬ i < 1) (hl : mlook es i = some (.chan (some c))) (hx : ts.length ≤ x) (hx2 : x ≤ 1000) (hr : isin s ts = false) (hf : ts.length < x) : Calls Tryz.prog 63 #[.pointer (some ⟨p, 0, none⟩), .int .i64 i, .string s] w fun e w' => e = .returned (.int .i64 0) ∧ Ms w0 w' (blk (p) ([.int .i64 (((x : Nat) : Int)), .int .i64 (y), .map (some m), .int .i64 (d)]) 130 :: mp kI m (es) :: ch c (x) ((ts).map Value.string ++ [.string s]) :: R) := by
  refine calls_of_lt Tryz.func63 rfl (fun b cs hbf hbk => ?_)
  simp only [Tryz.ntmps63, List.size_toArray, List.length_cons, List.length_nil, Nat.reduceAdd, Nat.reduceSub, Array.replicate_succ, Array.replicate_zero, List.push_toArray, List.append_toArray, List.nil_append, List.cons_append]
  refine lt_seq ?_
  refine lt_wp fun _ κ1 => ?_
  refine wl_region (wl_fare kn ?_)
  simp (disch := omega) only [fx, pv, kx]
  refine wl_nil (κ1 _ _ ?_)
  refine lt_seq ?_
  refine lt_seq ?_
  refine lt_wp fun _ κ2 => ?_
  refine wl_region (wl_fare kn ?_)
  simp (disch := omega) only [fx, pv, kx]
  refine wl_nil (κ2 _ _ ?_)
  refine lt_false rfl ?_
  refine lt_skip ?_
  refine lt_seq ?_
  refine lt_seq ?_
  refine lt_wp fun _ κ3 => ?_
  refine wl_region (wl_fare kn ?_)
  simp (disch := omega) only [fx, pv, kx]
  refine wl_give rfl (g_call 87 _ _ [.pointer (some ⟨p, 0, none⟩), .int .i64 (i), .string (s)] (kf87 _ _) rfl ((has_t (show Ms w0 w (blk (p) ([.int .i64 (((x : Nat) : Int)), .int .i64 (y), .map (some m), .int .i64 (d)]) 130 :: mp kI m (es) :: ch c (x) ((ts).map Value.string) :: R) from (((hM.up 2 rfl).up 2 rfl).up 2 rfl)) hl hx hx2 hr).mono ?_))
  rintro e w4 ⟨rfl, h_⟩
  refine ⟨_, rfl, ?_⟩
  replace hM : Ms w0 w4 (blk (p) ([.int .i64 (((x : Nat) : Int)), .int .i64 (y), .map (some m), .int .i64 (d)]) 130 :: mp kI m (es) :: ch c (x) ((ts).map Value.string) :: R) := h_
  clear h_
  try simp only [nz]
  refine wl_nil (κ3 _ _ ?_)
  refine lt_false rfl ?_
  refine lt_skip ?_
  refine lt_seq ?_
  refine lt_seq ?_
  refine lt_wp fun _ κ5 => ?_
  refine wl_region (wl_fare kn ?_)
  simp (disch := omega) only [fx, pv, kx]
  refine wl_give rfl (g_call 88 _ _ [.pointer (some ⟨p, 0, none⟩), .int .i64 (i)] (kf88 _ _) rfl ((line_in (show Ms w0 w4 (blk (p) ([.int .i64 (((x : Nat) : Int)), .int .i64 (y), .map (some m), .int .i64 (d)]) 130 :: mp kI m (es) :: ch c (x) ((ts).map Value.string) :: R) from ((hM.up 1 rfl).up 1 rfl)) hl).mono ?_))
  rintro e w6 ⟨rfl, h_⟩
  refine ⟨_, rfl, ?_⟩
  replace hM : Ms w0 w6 (blk (p) ([.int .i64 (((x : Nat) : Int)), .int .i64 (y), .map (some m), .int .i64 (d)]) 130 :: mp kI m (es) :: ch c (x) ((ts).map Value.string) :: R) := h_
  clear h_
  try simp only [nz]
  refine wl_nil (κ5 _ _ ?_)
  refine lt_wp fun _ κ7 => ?_
  refine wl_region (wl_fare kn ?_)
  simp (disch := omega) only [fx, pv, kx]
  refine wl_nil (κ7 _ _ ?_)
  refine lt_seq ?_
  refine lt_region ?_
  refine lo_sel_room hbk Tryz.zeroValue9 rfl rfl (show Ms w0 w6 (ch c (x) ((ts).map Value.string) :: blk (p) ([.int .i64 (((x : Nat) : Int)), .int .i64 (y), .map (some m), .int .i64 (d)]) 130 :: mp kI m (es) :: R) from (hM.up 2 rfl)) (by simpa using hf) ?_
  intro w8 h_
  replace hM : Ms w0 w8 (ch c (x) ((ts).map Value.string ++ [.string (s)]) :: blk (p) ([.int .i64 (((x : Nat) : Int)), .int .i64 (y), .map (some m), .int .i64 (d)]) 130 :: mp kI m (es) :: R) := h_
  clear h_
  try simp only [nz]
  refine lo_give rfl (g_extract _ #[.int .i64 (0), .bool false] 0 (.int .i64 (0)) rfl rfl ?_)
  try simp only [nz]
  refine lo_give rfl (g_ieq 3 _ _ .i64 (0) (0) true rfl rfl (by decide) ?_)
  try simp only [nz]
  refine lo_nil ?_
  refine lt_block ?_
  refine lt_true rfl ?_
  refine lt_seq ?_
  refine lt_wp fun _ κ9 => ?_
  refine wl_region (wl_fare kn ?_)
  simp (disch := omega) only [fx, pv, kx]
  refine wl_nil (κ9 _ _ ?_)
  refine lt_ret hbf hbk Tryz.func63 rfl (results_tmp rfl _ _ _) ⟨rfl, (((hM.up 0 rfl).up 2 rfl).up 2 rfl)⟩
set_option maxHeartbeats 4000000 in
theorem bput_none {w0 w : World} {R : List HP} {p m x : Nat} {y d i : Int} {es : List (Int × Value)} {s : ByteArray} (hM : Ms w0 w (blk (p) ([.int .i64 (((x : Nat) : Int)), .int .i64 (y), .map (some m), .int .i64 (d)]) 130 :: mp kI m (es) :: R)) (hi : ¬ i < 1) (hl : mlook es i = none) (hn : ¬ ((es.length : Nat) : Int) < y) (hd : Shut (IntKind.i64.wrap (d + 1) = d + 1)) : Calls Tryz.prog 63 #[.pointer (some ⟨p, 0, none⟩), .int .i64 i, .string s] w fun e w' => e = .returned (.int .i64 4) ∧ Ms w0 w' (blk (p) ([.int .i64 (((x : Nat) : Int)), .int .i64 (y), .map (some m), .int .i64 (d + 1)]) 130 :: mp kI m (es) :: R) := by
  refine calls_of_lt Tryz.func63 rfl (fun b cs hbf hbk => ?_)
  simp only [Tryz.ntmps63, List.size_toArray, List.length_cons, List.length_nil, Nat.reduceAdd, Nat.reduceSub, Array.replicate_succ, Array.replicate_zero, List.push_toArray, List.append_toArray, List.nil_append, List.cons_append]
  refine lt_seq ?_
  refine lt_wp fun _ κ1 => ?_
  refine wl_region (wl_fare kn ?_)
  simp (disch := omega) only [fx, pv, kx]
  refine wl_nil (κ1 _ _ ?_)
  refine lt_seq ?_
  refine lt_seq ?_
  refine lt_wp fun _ κ2 => ?_
  refine wl_region (wl_fare kn ?_)
  simp (disch := omega) only [fx, pv, kx]
  refine wl_nil (κ2 _ _ ?_)
  refine lt_false rfl ?_
  refine lt_skip ?_
  refine lt_seq ?_
  refine lt_seq ?_
  refine lt_wp fun _ κ3 => ?_
  refine wl_region (wl_fare kn ?_)
  simp (disch := omega) only [fx, pv, kx]
  refine wl_give rfl (g_call 87 _ _ [.pointer (some ⟨p, 0, none⟩), .int .i64 (i), .string (s)] (kf87 _ _) rfl ((has_out (show Ms w0 w (blk (p) ([.int .i64 (((x : Nat) : Int)), .int .i64 (y), .map (some m), .int .i64 (d)]) 130 :: mp kI m (es) :: R) from ((hM.up 1 rfl).up 1 rfl)) hl).mono ?_))
  rintro e w4 ⟨rfl, h_⟩
  refine ⟨_, rfl, ?_⟩
  replace hM : Ms w0 w4 (blk (p) ([.int .i64 (((x : Nat) : Int)), .int .i64 (y), .map (some m), .int .i64 (d)]) 130 :: mp kI m (es) :: R) := h_
  clear h_
  try simp only [nz]
  refine wl_nil (κ3 _ _ ?_)
  refine lt_false rfl ?_
  refine lt_skip ?_
  refine lt_seq ?_
  refine lt_seq ?_
  refine lt_wp fun _ κ5 => ?_
  refine wl_region (wl_fare kn ?_)
  simp (disch := omega) only [fx, pv, kx]
  refine wl_give rfl (g_call 88 _ _ [.pointer (some ⟨p, 0, none⟩), .int .i64 (i)] (kf88 _ _) rfl ((line_none (show Ms w0 w4 (blk (p) ([.int .i64 (((x : Nat) : Int)), .int .i64 (y), .map (some m), .int .i64 (d)]) 130 :: mp kI m (es) :: R) from ((hM.up 1 rfl).up 1 rfl)) hl hn).mono ?_))
  rintro e w6 ⟨rfl, h_⟩
  refine ⟨_, rfl, ?_⟩
  replace hM : Ms w0 w6 (blk (p) ([.int .i64 (((x : Nat) : Int)), .int .i64 (y), .map (some m), .int .i64 (d)]) 130 :: mp kI m (es) :: R) := h_
  clear h_
  try simp only [nz]
  refine wl_nil (κ5 _ _ ?_)
  refine lt_wp fun _ κ7 => ?_
  refine wl_region (wl_fare kn ?_)
  simp (disch := omega) only [fx, pv, kx]
  refine wl_nil (κ7 _ _ ?_)
  refine lt_seq ?_
  refine lt_region ?_
  refine lo_sel_nil hbk Tryz.zeroValue9 rfl rfl ?_
  try simp only [nz]
  refine lo_give rfl (g_extract _ #[.int .i64 (-1), .bool false] 0 (.int .i64 (-1)) rfl rfl ?_)
  try simp only [nz]
  refine lo_give rfl (g_ieq 3 _ _ .i64 (-1) (0) false rfl rfl (by decide) ?_)
  try simp only [nz]
  refine lo_nil ?_
  refine lt_block ?_
  refine lt_false rfl ?_
  refine lt_seq ?_
  refine lt_wp fun _ κ9 => ?_
  refine wl_region (wl_fare kn ?_)
  simp (disch := omega) only [fx, pv, kx, (hM.get 0 rfl).cell 3 (.int .i64 (d)) rfl, (hd.out : IntKind.i64.wrap ((d) + (1)) = d + 1)]
  refine wl_give rfl (g_st1 3 _ _ (p) 3 (.int .i64 (d + 1)) _ 130 rfl rfl (hM.get 0 rfl) (show 3 < 4 by decide) rfl rfl size3 fun w10 t_ b_ => ?_)
  replace hM : Ms w0 w10 (blk (p) ([.int .i64 (((x : Nat) : Int)), .int .i64 (y), .map (some m), .int .i64 (d + 1)]) 130 :: mp kI m (es) :: R) := hM.put 0 rfl t_ b_
  clear t_ b_
  try simp only [nz]
  refine wl_nil (κ9 _ _ ?_)
  refine lt_seq ?_
  refine lt_wp fun _ κ11 => ?_
  refine wl_region (wl_fare kn ?_)
  simp (disch := omega) only [fx, pv, kx]
  refine wl_nil (κ11 _ _ ?_)
  refine lt_ret hbf hbk Tryz.func63 rfl (results_tmp rfl _ _ _) ⟨rfl, ((hM.up 1 rfl).up 1 rfl)⟩
theorem keep_ex {α : Type} {P : Program} {f : FuncId} {args : Array Value} {w : World} {v : Value} {Q : α → World → Prop} (h : Calls P f args w (fun e w' => ∃ u, e = .returned u ∧ u = v ∧ ∃ c, Q c w')) : Calls P f args w (fun e w' => ∃ c, e = .returned v ∧ Q c w') := h.mono fun e w' ⟨u, h1, h2, c, h3⟩ => ⟨c, by rw [h1, h2], h3⟩
set_option maxHeartbeats 4000000 in
theorem put_new {w0 w : World} {R : List HP} {p m x : Nat} {y d i : Int} {es : List (Int × Value)} {s : ByteArray} (hM : Ms w0 w (blk (p) ([.int .i64 (((x : Nat) : Int)), .int .i64 (y), .map (some m), .int .i64 (d)]) 130 :: mp kI m (es) :: R)) (hi : ¬ i < 1) (hl : mlook es i = none) (hn : ((es.length : Nat) : Int) < y) (hx1 : 1 ≤ x) (hx2 : x ≤ 1000) : Calls Tryz.prog 63 #[.pointer (some ⟨p, 0, none⟩), .int .i64 i, .string s] w fun e w' => ∃ c, e = .returned (.int .i64 0) ∧ Ms w0 w' (blk (p) ([.int .i64 (((x : Nat) : Int)), .int .i64 (y), .map (some m), .int .i64 (d)]) 130 :: mp kI m (es ++ [(i, .chan (some c))]) :: ch c x ([] ++ [.string s]) :: R) := by
  refine keep_ex ?_
  refine calls_of_ltv Tryz.func63 rfl (fun b cs hbf hbk => ?_)
  simp only [Tryz.ntmps63, List.size_toArray, List.length_cons, List.length_nil, Nat.reduceAdd, Nat.reduceSub, Array.replicate_succ, Array.replicate_zero, List.push_toArray, List.append_toArray, List.nil_append, List.cons_append]
  refine lt_seq ?_
  refine lt_wp fun _ κ1 => ?_
  refine wl_region (wl_fare kn ?_)
  simp (disch := omega) only [fx, pv, kx]
  refine wl_nil (κ1 _ _ ?_)
  refine lt_seq ?_
  refine lt_seq ?_
  refine lt_wp fun _ κ2 => ?_
  refine wl_region (wl_fare kn ?_)
  simp (disch := omega) only [fx, pv, kx]
  refine wl_nil (κ2 _ _ ?_)
  refine lt_false rfl ?_
  refine lt_skip ?_
  refine lt_seq ?_
  refine lt_seq ?_
  refine lt_wp fun _ κ3 => ?_
  refine wl_region (wl_fare kn ?_)
  simp (disch := omega) only [fx, pv, kx]
  refine wl_give rfl (g_call 87 _ _ [.pointer (some ⟨p, 0, none⟩), .int .i64 (i), .string (s)] (kf87 _ _) rfl ((has_out (show Ms w0 w (blk (p) ([.int .i64 (((x : Nat) : Int)), .int .i64 (y), .map (some m), .int .i64 (d)]) 130 :: mp kI m (es) :: R) from ((hM.up 1 rfl).up 1 rfl)) hl).mono ?_))
  rintro e w4 ⟨rfl, h_⟩
  refine ⟨_, rfl, ?_⟩
  replace hM : Ms w0 w4 (blk (p) ([.int .i64 (((x : Nat) : Int)), .int .i64 (y), .map (some m), .int .i64 (d)]) 130 :: mp kI m (es) :: R) := h_
  clear h_
  try simp only [nz]
  refine wl_nil (κ3 _ _ ?_)
  refine lt_false rfl ?_
  refine lt_skip ?_
  refine lt_seq ?_
  refine lt_seq ?_
  refine lt_wp fun _ κ5 => ?_
  refine wl_region (wl_fare kn ?_)
  simp (disch := omega) only [fx, pv, kx]
  refine wl_give rfl (g_call 88 _ _ [.pointer (some ⟨p, 0, none⟩), .int .i64 (i)] (kf88 _ _) rfl ((line_new (show Ms w0 w4 (blk (p) ([.int .i64 (((x : Nat) : Int)), .int .i64 (y), .map (some m), .int .i64 (d)]) 130 :: mp kI m (es) :: R) from ((hM.up 1 rfl).up 1 rfl)) hl hn hx2).mono ?_))
  rintro e w6 ⟨c7, rfl, h_⟩
  refine ⟨_, rfl, ?_⟩
  replace hM : Ms w0 w6 (blk (p) ([.int .i64 (((x : Nat) : Int)), .int .i64 (y), .map (some m), .int .i64 (d)]) 130 :: mp kI m (es ++ [(i, .chan (some c7))]) :: ch c7 (x) ([]) :: R) := h_
  clear h_
  try simp only [nz]
  refine wl_nil (κ5 _ _ ?_)
  refine lt_wp fun _ κ8 => ?_
  refine wl_region (wl_fare kn ?_)
  simp (disch := omega) only [fx, pv, kx]
  refine wl_nil (κ8 _ _ ?_)
  refine lt_seq ?_
  refine lt_region ?_
  refine lo_sel_room hbk Tryz.zeroValue9 rfl rfl (show Ms w0 w6 (ch c7 (x) ([]) :: blk (p) ([.int .i64 (((x : Nat) : Int)), .int .i64 (y), .map (some m), .int .i64 (d)]) 130 :: mp kI m (es ++ [(i, .chan (some c7))]) :: R) from (hM.up 2 rfl)) (by simp; omega) ?_
  intro w9 h_
  replace hM : Ms w0 w9 (ch c7 (x) ([] ++ [.string (s)]) :: blk (p) ([.int .i64 (((x : Nat) : Int)), .int .i64 (y), .map (some m), .int .i64 (d)]) 130 :: mp kI m (es ++ [(i, .chan (some c7))]) :: R) := h_
  clear h_
  try simp only [nz]
  refine lo_give rfl (g_extract _ #[.int .i64 (0), .bool false] 0 (.int .i64 (0)) rfl rfl ?_)
  try simp only [nz]
  refine lo_give rfl (g_ieq 3 _ _ .i64 (0) (0) true rfl rfl (by decide) ?_)
  try simp only [nz]
  refine lo_nil ?_
  refine lt_block ?_
  refine lt_true rfl ?_
  refine lt_seq ?_
  refine lt_wp fun _ κ10 => ?_
  refine wl_region (wl_fare kn ?_)
  simp (disch := omega) only [fx, pv, kx]
  refine wl_nil (κ10 _ _ ?_)
  refine lt_ret hbf hbk Tryz.func63 rfl (results_tmp rfl _ _ _) ⟨_, rfl, rfl, c7, (((hM.up 0 rfl).up 2 rfl).up 2 rfl)⟩
end Go.Proofs.YtcclcemdodoiiaaGreatDoor
