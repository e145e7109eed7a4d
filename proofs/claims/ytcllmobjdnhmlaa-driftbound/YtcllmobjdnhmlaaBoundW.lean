/- The law DriftBound, walked: called with any numbers of its parameters' kinds it returns true, and nothing that was there is changed. -/
import Derived.Test.YtcllmobjdnhmlaaDrM
namespace Go.Proofs.Ytcllmobjdnhmlaa.driftBound
open Go Go.RowKit
set_option linter.unusedVariables false

set_option maxRecDepth 10000 in
set_option maxHeartbeats 4000000 in
theorem walk1 (ra_ : Int) (mo_ : Int) (sp_ : Int) (w_ra_ : In64 ra_) (w_mo_ : 0 ≤ mo_ ∧ mo_ < 65536) (w_sp_ : 0 ≤ sp_ ∧ sp_ < 18446744073709551616) (w : World) (R k v x q n g y z : Int) (e1 : Hid (ra_.tmod 100000001 = R)) (e2 : Hid (sp_.tmod 1152921504606846976 = k)) (e3 : Hid (IntKind.i64.wrap k = k)) (e4 : Hid (IntKind.i64.wrap (-R) = v)) (e5 : Hid ((if R < v then v else R) = x)) (e6 : Hid (IntKind.i64.wrap mo_ = mo_)) (e7 : Hid (IntKind.i64.wrap (x + mo_) = q)) (e8 : Hid (IntKind.i64.wrap (n - k) = y)) (e9 : Hid (IntKind.i64.wrap (k - n) = z)) (ho : Ok R) (j0 : In64 0) (jR : In64 R) (jk : In64 k) (jq : In64 q) (hn : Hid (rd 0 0 R k = (n, 0))) (hg : Hid (grw k q = (g, 0))) (h1 : y ≤ g) (h2 : z ≤ g) :
    Calls Try.prog 7 #[.int .i64 ra_, .int .u16 mo_, .int .u64 sp_] w fun e w' => e = .returned (.bool true) ∧ Below w.heap.size w w' := by
  go_enter Try.func7, Try.ntmps7
  go_wp2_with fail
  refine (awake_any w).mono ?_
  rintro e w1 ⟨rfl, t_⟩
  have hB := t_
  clear t_
  go_wp2_with (first
    | ((with_reducible refine at_binD 18 ?_); refine L_give (by rfl) (g_irem 2 _ _ .i64 _ 100000001 _ rfl rfl (by decide) e1.out ?_))
    | ((with_reducible refine at_binD 20 ?_); refine L_give (by rfl) (g_irem 41 _ _ .u64 _ 1152921504606846976 _ rfl rfl (by decide) e2.out ?_))
    | ((with_reducible refine at_cnv 21 ?_); refine L_give (by rfl) (g_cv64 _ _ _ rfl e3.out ?_)))
  refine (new_good 0 0 R w1 ho).mono ?_
  rintro e w2 ⟨rfl, t_⟩
  replace hB := hB.trans (t_.mono hB.size)
  clear t_
  go_wp2_with (first
    | ((with_reducible refine at_allocD 9 23 ?_); refine L_alloc 23 (cl 0 0 0) zeroC ?_; intro w3 t_ b_c; have l_c : w.heap.size ≤ w2.heap.size := hB.size; replace hB := t_.below hB l_c; clear t_)
    | ((with_reducible refine at_storeX 9 23 ?_); refine L_store_all 23 _ _ (w2.heap.size) (cl (0) (0) (R)) _ 23 rfl rfl b_c (szC 0 0 0) (rfl) (one_cl _ _ _) ?_; have b0_c := b_c; clear b_c; intro w4 t_ b_c; replace hB := t_.below hB l_c; clear t_ b0_c)
    | ((with_reducible refine at_loadD 28 23 ?_); refine L_load_all 23 _ (w2.heap.size) (cl (0) (0) (R)) 23 _ rfl b_c Try.underlying23 rfl (szC 0 0 0) ?_))
  refine (read_any 0 0 R k n 0 w4 j0 j0 jR jk hn).mono ?_
  rintro e w5 ⟨rfl, t_⟩
  replace b_c := b_c.below t_ b_c.lt
  replace hB := hB.trans (t_.mono hB.size)
  clear t_
  go_wp2_with (first
    | ((with_reducible refine at_unD 37 ?_); refine L_give (by rfl) (g_ineg 2 _ _ _ _ rfl e4.out ?_))
    | ((with_reducible refine at_callDG 38 ?_); refine L_give (by rfl) (g_max _ _ _ _ _ rfl rfl e5.out ?_))
    | ((with_reducible refine at_cnv 40 ?_); refine L_give (by rfl) (g_cv16 _ _ _ rfl e6.out ?_))
    | ((with_reducible refine at_binD 41 ?_); refine L_give (by rfl) (g_iadd 2 _ _ .i64 _ _ _ rfl rfl e7.out ?_)))
  refine (grown_any k q g 0 w5 jk jq hg).mono ?_
  rintro e w6 ⟨rfl, t_⟩
  replace b_c := b_c.below t_ b_c.lt
  replace hB := hB.trans (t_.mono hB.size)
  clear t_
  go_wp2_with (first
    | ((with_reducible refine at_binD 58 ?_); refine L_give (by rfl) (g_isub 2 _ _ .i64 _ _ _ rfl rfl e8.out ?_))
    | ((with_reducible refine at_binD 60 ?_); refine L_give (by rfl) (g_ileq 2 _ _ .i64 _ _ true rfl rfl (decide_eq_true h1) ?_))
    | ((with_reducible refine at_binD 65 ?_); refine L_give (by rfl) (g_isub 2 _ _ .i64 _ _ _ rfl rfl e9.out ?_))
    | ((with_reducible refine at_binD 67 ?_); refine L_give (by rfl) (g_ileq 2 _ _ .i64 _ _ true rfl rfl (decide_eq_true h2) ?_)))
  go_ret
  exact ⟨rfl, hB⟩

theorem prod_le (k x q : Int) (hk : 0 ≤ k) (h : x ≤ q) : k * x ≤ k * q := Int.mul_le_mul_of_nonneg_left h hk
theorem walk (ra_ : Int) (mo_ : Int) (sp_ : Int) (w_ra_ : In64 ra_) (w_mo_ : 0 ≤ mo_ ∧ mo_ < 65536) (w_sp_ : 0 ≤ sp_ ∧ sp_ < 18446744073709551616) (w : World) :
    Calls Try.prog 7 #[.int .i64 ra_, .int .u16 mo_, .int .u64 sp_] w fun e w' => e = .returned (.bool true) ∧ Below w.heap.size w w' := by
  have hR := tmod_8 ra_
  have hk := tmod_60 sp_
  have hk0 : 0 ≤ sp_.tmod 1152921504606846976 := Int.tmod_nonneg _ w_sp_.1
  generalize e1 : ra_.tmod 100000001 = R at hR
  generalize e2 : sp_.tmod 1152921504606846976 = k at hk hk0
  obtain ⟨x, hx⟩ : ∃ x, (if R < -R then -R else R) = x := ⟨_, rfl⟩
  have hx1 : R ≤ x ∧ -R ≤ x ∧ x ≤ 100000000 := by
    rw [← hx]; split <;> omega
  have p1 := prod_8 k R hk0 (by omega) (by omega)
  have p2 := prod_le k R (x + mo_) hk0 (by omega)
  have p3 := prod_le k (-R) (x + mo_) hk0 (by omega)
  have p4 := prod_le k (x + mo_) 200000000 hk0 (by omega)
  have p5 : k * -R = -(k * R) := Int.mul_neg k R
  have p6 : 0 ≤ k * (x + mo_) := Int.mul_nonneg hk0 (by omega)
  have hn : rd 0 0 R k = (k + k * R / 1000000000, 0) := rd_ok 0 0 R k _ (by omega) (by omega) (by rw [Int.sub_zero, Int.zero_add]) (by unfold In64; omega)
  have hg : grw k (x + mo_) = ((k * (x + mo_) + 999999999) / 1000000000, 0) := grw_ok k _ _ hk0 (by omega) rfl (by unfold In64; omega)
  refine walk1 ra_ mo_ sp_ w_ra_ w_mo_ w_sp_ w R k (-R) x (x + mo_) _ _ (k + k * R / 1000000000 - k) (k - (k + k * R / 1000000000)) e1 e2 (w64 k (by unfold In64; omega)) (w64 _ (by unfold In64; omega)) hx (w64 _ (by unfold In64; omega)) (w64 _ (by unfold In64; omega)) (w64 _ (by unfold In64; omega)) (w64 _ (by unfold In64; omega)) (by unfold Ok; omega) (by unfold In64; omega) (by unfold In64; omega) (by unfold In64; omega) (by unfold In64; omega) hn hg (by omega) (by omega)

end Go.Proofs.Ytcllmobjdnhmlaa.driftBound
