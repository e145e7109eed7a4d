/- ShaPieces' walk: the law returns true; nothing that was there has turned. -/
import Derived.Test.YthbnlidfgjgncaaDoorAwake
import Derived.OpenShut
namespace Go.Proofs.YthbnlidfgjgncaaDoor.shaPieces
open Go.RowKit
set_option linter.unusedVariables false
/-- How many bytes the pieces have together; the pieces, joined. -/
def szs : List ByteArray → Nat
  | [] => 0
  | s :: r => s.size + szs r
def cat : List ByteArray → List UInt8
  | [] => []
  | s :: r => s.data.toList ++ cat r
theorem append_list (a b : ByteArray) : (a ++ b).data.toList = a.data.toList ++ b.data.toList := by
  rw [ByteArray.data_append, Array.toList_append]
theorem szs_snoc (l : List ByteArray) (s : ByteArray) : szs (l ++ [s]) = szs l + s.size := by
  induction l with
  | nil => simp [szs]
  | cons a l ih => simp only [List.cons_append, szs, ih]; omega
theorem cat_snoc (l : List ByteArray) (s : ByteArray) : cat (l ++ [s]) = cat l ++ s.data.toList := by
  induction l with
  | nil => simp [cat]
  | cons a l ih => simp only [List.cons_append, cat, ih, List.append_assoc]
theorem cat_length (l : List ByteArray) : (cat l).length = szs l := by
  induction l with
  | nil => rfl
  | cons a l ih => simp only [cat, szs, List.length_append, ih, Lib.size_eq]
theorem szs_take_le (l : List ByteArray) (j : Nat) : szs (l.take j) ≤ szs l := by
  induction l generalizing j with
  | nil => simp [szs]
  | cons a l ih =>
    cases j with
    | zero => simp [szs]
    | succ j => simp only [List.take_succ_cons, szs]; have := ih j; omega
theorem szs_bound (l : List ByteArray) (B : Nat) (h : ∀ s ∈ l, s.size ≤ B) : szs l ≤ l.length * B := by
  induction l with
  | nil => simp [szs]
  | cons a l ih =>
    have h1 := h a (by simp)
    have h2 := ih (fun s hs => h s (by simp [hs]))
    simp only [szs, List.length_cons, Nat.add_mul, Nat.one_mul]; omega
theorem take_next (l : List ByteArray) (j : Nat) (h : j < l.length) : l.take (j + 1) = l.take j ++ [l.getD j ByteArray.empty] := by
  rw [List.take_succ_eq_append_getElem h]; simp [h]
/-- The slice of pieces, in memory. -/
def Lies (w : World) (ao : Option Addr) (n : Nat) (ss : List ByteArray) : Prop :=
  ∀ j, j < n → ∃ b o, ao = some ⟨b, o, none⟩ ∧ w.cell? ⟨b, o + j, none⟩ = some (.string (ss.getD j ByteArray.empty))
theorem big (ao : Option Addr) (n cap : Nat) (ss : List ByteArray) (hl : ss.length = n) (u : World) (hc : Lies u ao n ss) (hn : n ≤ 9223372036854775807) (hbig : 40 < n) (hT : Tabs u) :
    Calls Tryd.prog 5 #[.slice ao n cap] u fun e w' => e = .returned (.bool true) ∧ Below u.heap.size u w' := by
  go_enter Tryd.func5, Tryd.ntmps5
  go_wp2_with fail
  refine (awake_any _ hT).mono ?_; rintro e w1 ⟨rfl, hb1⟩
  go_wp2_with fail
  go_loop [3, 12] (fun x i => ∃ (j : Nat) (z : Int), j ≤ n ∧ i = .int .i64 j ∧ x = .int .i64 z) (fun _ i => n - (intOf i).toNat)
  case atStart => exact ⟨0, 0, by omega, rfl, rfl⟩
  case round =>
    obtain ⟨j, z, hj, rfl, rfl⟩ := hrel
    by_cases hlt : j < n
    · obtain ⟨b, o, rfl, hcell⟩ := hc j hlt
      have hb := World.block_lt_of_cell? u _ hcell
      have hcell1 : w1.cell? ⟨b, o + j, none⟩ = some (.string (ss.getD j ByteArray.empty)) := (hb1.cell (p := ⟨b, o + j, none⟩) hb).trans hcell
      generalize ss.getD j ByteArray.empty = p at *
      go_wp2_with fail
      exact ⟨⟨j + 1, _, by omega, by go_num, rfl⟩, by simp [intOf]; omega⟩
    · have hd : decide ((j : Int) < (n : Int)) = false := by simp; omega
      go_wp2_with fail
      go_ret
      exact ⟨rfl, hb1⟩
theorem mid (ao : Option Addr) (n cap : Nat) (ss : List ByteArray) (hl : ss.length = n) (u : World) (hc : Lies u ao n ss) (hn : n ≤ 40) (hB : ∀ s ∈ ss, s.size ≤ 140737488355328) (hbig : 1024 < szs ss) (hT : Tabs u) :
    Calls Tryd.prog 5 #[.slice ao n cap] u fun e w' => e = .returned (.bool true) ∧ Below u.heap.size u w' := by
  have hbd : szs ss ≤ 40 * 140737488355328 := Nat.le_trans (szs_bound ss _ hB) (Nat.mul_le_mul_right _ (by omega))
  go_enter Tryd.func5, Tryd.ntmps5
  go_wp2_with fail
  refine (awake_any _ hT).mono ?_; rintro e w1 ⟨rfl, hb1⟩
  go_wp2_with fail
  go_loop [3, 12] (fun x i => ∃ (j : Nat), j ≤ n ∧ i = .int .i64 j ∧ x = .int .i64 (szs (ss.take j))) (fun _ i => n - (intOf i).toNat)
  case atStart => exact ⟨0, by omega, rfl, rfl⟩
  case round =>
    obtain ⟨j, hj, rfl, rfl⟩ := hrel
    by_cases hlt : j < n
    · obtain ⟨b, o, rfl, hcell⟩ := hc j hlt
      have hb := World.block_lt_of_cell? u _ hcell
      have hcell1 : w1.cell? ⟨b, o + j, none⟩ = some (.string (ss.getD j ByteArray.empty)) := (hb1.cell (p := ⟨b, o + j, none⟩) hb).trans hcell
      have hz := szs_take_le ss (j + 1)
      rw [take_next ss j (by omega), szs_snoc] at hz
      have HN : Hid (szs (ss.take (j + 1)) = szs (ss.take j) + (ss.getD j ByteArray.empty).size) := by show _ = _; rw [take_next ss j (by omega), szs_snoc]
      generalize ss.getD j ByteArray.empty = p at *
      generalize szs (ss.take j) = z at *
      go_wp2_with fail
      refine ⟨⟨j + 1, by omega, by go_num, ?_⟩, by simp [intOf]; omega⟩
      rw [HN.out]
      go_num
    · obtain rfl : j = n := by omega
      rw [List.take_of_length_le (by omega)]
      generalize szs ss = z at *
      go_wp2_with fail
      go_ret
      exact ⟨rfl, hb1⟩
set_option maxRecDepth 100000 in
set_option maxHeartbeats 4000000 in
theorem small (ao : Option Addr) (n cap : Nat) (ss : List ByteArray) (hl : ss.length = n) (u : World) (hc : Lies u ao n ss) (hn : n ≤ 40) (hbd : szs ss ≤ 1024) (hT : Tabs u) :
    Calls Tryd.prog 5 #[.slice ao n cap] u fun e w' => e = .returned (.bool true) ∧ Below u.heap.size u w' := by
  have hts := hT.size
  subst hl
  go_enter Tryd.func5, Tryd.ntmps5
  go_wp2_with fail
  refine (awake_any _ hT).mono ?_; rintro e w1 ⟨rfl, hb1⟩
  go_wp2_with fail
  go_loop [3, 12] (fun x i => ∃ (j : Nat), j ≤ ss.length ∧ i = .int .i64 j ∧ x = .int .i64 (szs (ss.take j))) (fun _ i => ss.length - (intOf i).toNat)
  case atStart => exact ⟨0, by omega, rfl, rfl⟩
  case round =>
    obtain ⟨j, hj, rfl, rfl⟩ := hrel
    by_cases hlt : j < ss.length
    · obtain ⟨b, o, rfl, hcell⟩ := hc j hlt
      have hb := World.block_lt_of_cell? u _ hcell
      have hcell1 : w1.cell? ⟨b, o + j, none⟩ = some (.string (ss.getD j ByteArray.empty)) := (hb1.cell (p := ⟨b, o + j, none⟩) hb).trans hcell
      have hz := szs_take_le ss (j + 1)
      rw [take_next ss j (by omega), szs_snoc] at hz
      have HN : Hid (szs (ss.take (j + 1)) = szs (ss.take j) + (ss.getD j ByteArray.empty).size) := by show _ = _; rw [take_next ss j (by omega), szs_snoc]
      generalize ss.getD j ByteArray.empty = p at *
      generalize szs (ss.take j) = z at *
      go_wp2_with fail
      refine ⟨⟨j + 1, by omega, by go_num, ?_⟩, by simp [intOf]; omega⟩
      rw [HN.out]
      go_num
    · obtain rfl : j = ss.length := by omega
      rw [List.take_of_length_le (by omega)]
      have HB : Hid (szs ss ≤ 1024) := hbd
      generalize szs ss = z at hbd
      go_wp2_with fail
      have n1 := hb1.size
      have hT1 := hT.below hb1 hts
      refine (new_any w1).mono ?_; rintro e w2 ⟨rfl, hb2⟩
      have hB2 := hb1.trans (hb2.mono n1)
      have n2 := hb2.size
      go_wp2_with (first
        | ((with_reducible refine at_alloc 35 ?_); refine L_alloc 35 _ zero35 ?_; intro w3 h3 c3)
        | ((with_reducible refine at_store 35 ?_); refine L_store_all 35 _ _ w2.heap.size (stc zeroSt) _ 35 rfl rfl c3 (zs35 zeroSt zeroSt_ok) rfl (stc_one _) ?_; intro w4 h4 c4))
      have hB4 : Below u.heap.size u w4 := h4.below (h3.below hB2 (by omega)) (by omega)
      clear h3 h4 c3 hb2
      go_loopw [6, 33] (fun all i wr => ∃ (j : Nat) (s : St) (A : ByteArray), j ≤ ss.length ∧ i = .int .i64 j ∧ all = .string A ∧ A.data.toList = cat (ss.take j) ∧ Rep A.data.toList s ∧ Blk wr w2.heap.size (stc s) 35 ∧ Below u.heap.size u wr) (fun _ i _ => ss.length - (intOf i).toNat)
      case atStart => exact ⟨0, zeroSt, ⟨#[]⟩, by omega, rfl, rfl, rfl, rep_zero, c4, hB4⟩
      case round =>
        clear c4 hB4
        obtain ⟨j, s, A, hj2, rfl, rfl, hA, hrep, c5, hbw⟩ := hrel
        have so := hrep.ok
        have sn : s.n = A.size := by rw [hrep.n, Lib.size_eq]
        have n5 := c5.lt
        have hTx : ∀ w', Below wr.heap.size wr w' → Tabs w' := fun w' hb => (hT.below hbw hts).below hb (by have := hbw.size; omega)
        have hAz : A.size = szs (ss.take j) := by rw [Lib.size_eq, hA, cat_length]
        by_cases hlt : j < ss.length
        · obtain ⟨b, o, rfl, hcell⟩ := hc j hlt
          have hb := World.block_lt_of_cell? u _ hcell
          have hcell1 : wr.cell? ⟨b, o + j, none⟩ = some (.string (ss.getD j ByteArray.empty)) := (hbw.cell (p := ⟨b, o + j, none⟩) hb).trans hcell
          have hbu : b < u.heap.size := hb
          have hz := szs_take_le ss (j + 1)
          rw [take_next ss j (by omega), szs_snoc] at hz
          have HCt : Hid (cat (ss.take (j + 1)) = A.data.toList ++ (ss.getD j ByteArray.empty).data.toList) := by show _ = _; rw [take_next ss j (by omega), cat_snoc, hA]
          generalize ss.getD j ByteArray.empty = p at *
          have hAp : A.size + p.size ≤ 1024 := by have := HB.out; omega
          obtain ⟨s1, hs1⟩ : ∃ s1, more s p.data.toList = s1 := ⟨_, rfl⟩
          have r1 : Rep (A ++ p).data.toList s1 := by rw [← hs1, append_list]; exact rep_more _ _ _ hrep
          have o1 := r1.ok
          have m1 : s1.n = A.size + p.size := by rw [r1.n, ← Lib.size_eq, ByteArray.size_append]
          have H1 : Hid (more s p.data.toList = s1) := hs1
          have HR : Hid (Rep (A ++ p).data.toList s1) := r1
          have hz1 : Hid ((Tryd.prog.info? 35).map (·.size) = some (stc s1).length) := zs35 s1 o1
          have hl1 : Hid ((stc s1).length = (stc s).length) := by show _ = _; rw [stc_length s1 o1, stc_length s so]
          clear hs1 r1 hz hA hAz hrep
          go_wp2_with fail
          refine wp_region_inv (by kernel_rfl) (by kernel_rfl) (fun t v wx => Below w2.heap.size wr wx ∧ wr.heap.size ≤ wx.heap.size ∧ (t 0 = true → v 0 = .agg (stc s).toArray) ∧ (t 1 = true → v 1 = .slice (some ⟨b, o, none⟩) ss.length cap) ∧ (t 2 = true → v 2 = .int .i64 j) ∧ (t 3 = true → v 3 = .pointer (some ⟨b, o + j, none⟩)) ∧ (t 4 = true → v 4 = .string p) ∧ (t 5 = true → v 5 = .agg (stc s1).toArray) ∧ (t 6 = false → Blk wx w2.heap.size (stc s) 35) ∧ (t 6 = true → Blk wx w2.heap.size (stc s1) 35) ∧ (t 6 = true → t 0 = true)) ?_ ?_ ?_
          · exact ⟨(Below.refl _ _).drew, Nat.le_refl _, (fun h => by cases h), (fun h => by cases h), (fun h => by cases h), (fun h => by cases h), (fun h => by cases h), (fun h => by cases h), fun _ => c5, (fun h => by cases h), (fun h => by cases h)⟩
          · simp only [full, Act.put, List.setIfInBounds_toArray, List.set_cons_succ, List.set_cons_zero, Nat.zero_add, Nat.reduceAdd]
            intro i o' ho t v wx hS hti hall
            obtain ⟨hB, hsz, k0, k1, k2, k3, k4, k5, k6, k7, k8⟩ := hS
            have hcx : wx.cell? ⟨b, o + j, none⟩ = some (.string p) := (hB.cell (p := ⟨b, o + j, none⟩) (show b < w2.heap.size by have := hB2.size; omega)).trans hcell1
            have hTw : Tabs wx := (hT.below hbw hts).below hB (by have := hB2.size; omega)
            rcases i with _ | _ | _ | _ | _ | _ | _ | i
            · obtain rfl := Option.some.inj ho
              have h6 : t 6 = false := by
                cases h : t 6 with
                | false => rfl
                | true => have := k8 h; rw [hti] at this; cases this
              refine g_load_all 35 _ w2.heap.size (stc s) 35 _ rfl (k6 h6) Tryd.underlying35 rfl (zs35 s so) ?_
              exact ⟨hB, hsz, newE rfl, keepE (by decide) k1, keepE (by decide) k2, keepE (by decide) k3, keepE (by decide) k4, keepE (by decide) k5, k6, k7, fun h => setB_self _ _⟩
            · obtain rfl := Option.some.inj ho
              refine g_move _ _ rfl ?_
              exact ⟨hB, hsz, keepE (by decide) k0, newE rfl, keepE (by decide) k2, keepE (by decide) k3, keepE (by decide) k4, keepE (by decide) k5, k6, k7, k8⟩
            · obtain rfl := Option.some.inj ho
              refine g_move _ _ rfl ?_
              exact ⟨hB, hsz, keepE (by decide) k0, keepE (by decide) k1, newE rfl, keepE (by decide) k3, keepE (by decide) k4, keepE (by decide) k5, k6, k7, k8⟩
            · obtain rfl := Option.some.inj ho
              have d1 := k1 (hall ⟨1, .data⟩ (by simp) rfl)
              have d2 := k2 (hall ⟨2, .data⟩ (by simp) rfl)
              refine g_val (.pointer (some ⟨b, o + j, none⟩)) wx ?_ ?_
              · rw [d1, d2]
                go_simp
              · exact ⟨hB, hsz, keepE (by decide) k0, keepE (by decide) k1, keepE (by decide) k2, newE rfl, keepE (by decide) k4, keepE (by decide) k5, k6, k7, k8⟩
            · obtain rfl := Option.some.inj ho
              have d3 := k3 (hall ⟨3, .data⟩ (by simp) rfl)
              refine g_val (.string p) wx ?_ ?_
              · rw [d3]
                go_simp
              · exact ⟨hB, hsz, keepE (by decide) k0, keepE (by decide) k1, keepE (by decide) k2, keepE (by decide) k3, newE rfl, keepE (by decide) k5, k6, k7, k8⟩
            · obtain rfl := Option.some.inj ho
              have d0 := k0 (hall ⟨0, .data⟩ (by simp) rfl)
              have d4 := k4 (hall ⟨4, .data⟩ (by simp) rfl)
              refine g_call 18 _ _ [.agg (stc s).toArray, .string p] (cf18 _ _) (by show [v 0, v 4] = _; rw [d0, d4]) ((more_any s p so wx hTw (by omega)).mono ?_)
              rw [H1.out]
              rintro e w' ⟨rfl, hb⟩
              exact ⟨_, rfl, hB.trans (hb.mono (by omega)), Nat.le_trans hsz hb.size, keepE (by decide) k0, keepE (by decide) k1, keepE (by decide) k2, keepE (by decide) k3, keepE (by decide) k4, newE rfl, fun h => (k6 h).below hb (k6 h).lt, fun h => (k7 h).below hb (k7 h).lt, k8⟩
            · obtain rfl := Option.some.inj ho
              have d5 := k5 (hall ⟨5, .data⟩ (by simp) rfl)
              have ht0 := hall ⟨0, .phase⟩ (by simp) rfl
              refine g_store_all 35 _ _ w2.heap.size (stc s1) _ 35 rfl (show v 5 = _ from d5) (k6 hti) hz1.out hl1.out (stc_one _) (fun w' h1 h2 => ?_)
              refine ⟨h1.below hB (Nat.le_refl _), Nat.le_trans hsz h1.size, keepE (by decide) k0, keepE (by decide) k1, keepE (by decide) k2, keepE (by decide) k3, keepE (by decide) k4, keepE (by decide) k5, fun h => ?_, fun _ => h2, fun _ => ht0⟩
              have h8 := setB_self t 6
              rw [h] at h8
              cases h8
            · simp at ho
          · simp only [full, Act.put, List.setIfInBounds_toArray, List.set_cons_succ, List.set_cons_zero, Nat.zero_add, Nat.reduceAdd]
            intro t v wx hS ht
            obtain ⟨hB, hsz, -, -, -, -, -, -, -, k7, -⟩ := hS
            have c6 := k7 (ht 6 (by decide))
            have hcx : wx.cell? ⟨b, o + j, none⟩ = some (.string p) := (hB.cell (p := ⟨b, o + j, none⟩) (show b < w2.heap.size by have := hB2.size; omega)).trans hcell1
            clear k7 ht
            generalize v 0 = x0
            generalize v 1 = x1
            generalize v 2 = x2
            generalize v 3 = x3
            generalize v 4 = x4
            generalize v 5 = x5
            generalize v 6 = x6
            clear hcell1 c5
            go_wp2_with (first
              | ((with_reducible refine at_load 35 ?_); refine L_load_all 35 _ w2.heap.size _ 35 _ rfl c6 Tryd.underlying35 rfl hz1.out ?_))
            refine (size_any s1 o1 wx).mono ?_; rintro e wy ⟨rfl, hby⟩
            have hsz2 : (A ++ p).size = A.size + p.size := ByteArray.size_append
            have c7 := c6.below hby c6.lt
            go_wp2_with fail
            refine ⟨⟨j + 1, s1, A ++ p, by omega, by go_num, rfl, ?_, HR.out, c7, ?_⟩, by simp [intOf]; omega⟩
            · rw [HCt.out, append_list]
            · exact hbw.trans ((hB.trans (hby.mono (by omega))).mono (by have := hB2.size; omega))
        · obtain rfl : j = ss.length := by omega
          have KS : Hid (key s = sum A.data.toList) := by show _ = _; rw [key_rep _ _ hrep, sum_dig]
          have MS : Hid (more s [] = s) := more_nil s
          have hA2 : A.size ≤ 1024 := by have := HB.out; rw [List.take_of_length_le (Nat.le_refl _)] at hAz; omega
          have sn2 : s.n ≤ 1024 := by omega
          clear hA hAz hrep sn
          go_wp2_with fail
          refine wp_region_fixed (by kernel_rfl) (by kernel_rfl) [.agg (stc s).toArray, .agg (bc (sum A.data.toList)).toArray, .string A, .agg (bc (sum A.data.toList)).toArray, .bool true, .bool true, .agg (stc s).toArray, .agg (stc s).toArray, .agg (bc (sum A.data.toList)).toArray, .agg (stc s).toArray, .agg (bc (sum A.data.toList)).toArray, .bool true, .bool true, .bool true] (by rfl) (fun w' => Below wr.heap.size wr w') (Below.refl _ _).drew ?_ ?_
          · simp only [fullL, Act.put, List.setIfInBounds_toArray, List.set_cons_succ, List.set_cons_zero]
            refine ⟨?_, ?_, ?_, ?_, ?_, ?_, ?_, ?_, ?_, ?_, ?_, ?_, ?_, ?_, trivial⟩
            · exact fun w hw => gw rfl (g_load_all 35 _ (w2.heap.size) _ 35 _ rfl (c5.below hw c5.lt) Tryd.underlying35 rfl (zs35 s so) ⟨rfl, hw⟩)
            · exact fun w hw => gw rfl (g_call 20 _ _ [.agg (stc s).toArray] (cf20 _ _) rfl (mono_val hw (by have h := key_any s so w (hTx w hw) (by omega); rw [KS.out] at h; exact h)))
            · exact fun w hw => gw rfl (g_move _ _ rfl ⟨rfl, hw⟩)
            · exact fun w hw => gw rfl (g_call 11 _ _ [.string A] (cf11 _ _) rfl (mono_val hw (sum_any A w (hTx w hw) (by omega))))
            · exact fun w hw => gw rfl (g_eql 24 5 _ _ 32 (sum A.data.toList) (sum A.data.toList) rfl rfl guard24 Tryd.underlying24 Tryd.underlying5 Tryd.sizeOf5 Tryd.isAgg5 (sum_length _) (sum_length _) ⟨by simp, hw⟩)
            · exact fun w hw => gw rfl (g_move _ _ rfl ⟨rfl, hw⟩)
            · exact fun w hw => gw rfl (g_load_all 35 _ (w2.heap.size) _ 35 _ rfl (c5.below hw c5.lt) Tryd.underlying35 rfl (zs35 s so) ⟨rfl, hw⟩)
            · exact fun w hw => gw rfl (g_call 18 _ _ [.agg (stc s).toArray, .string ⟨#[]⟩] (cf18 _ _) rfl (mono_val hw (more_any s ⟨#[]⟩ so w (hTx w hw) (by show s.n + 0 ≤ _; omega))))
            · exact fun w hw => gw rfl (g_call 20 _ _ [.agg (stc s).toArray] (cf20 _ _) rfl (mono_val hw (by have h := key_any s so w (hTx w hw) (by omega); rw [KS.out] at h; exact h)))
            · exact fun w hw => gw rfl (g_load_all 35 _ (w2.heap.size) _ 35 _ rfl (c5.below hw c5.lt) Tryd.underlying35 rfl (zs35 s so) ⟨rfl, hw⟩)
            · exact fun w hw => gw rfl (g_call 20 _ _ [.agg (stc s).toArray] (cf20 _ _) rfl (mono_val hw (by have h := key_any s so w (hTx w hw) (by omega); rw [KS.out] at h; exact h)))
            · exact fun w hw => gw rfl (g_eql 24 5 _ _ 32 (sum A.data.toList) (sum A.data.toList) rfl rfl guard24 Tryd.underlying24 Tryd.underlying5 Tryd.sizeOf5 Tryd.isAgg5 (sum_length _) (sum_length _) ⟨by simp, hw⟩)
            · exact fun w hw => gw rfl (g_pick _ _ _ _ rfl rfl ⟨rfl, hw⟩)
            · exact fun w hw => gw rfl (g_assign _ _ rfl ⟨rfl, hw⟩)
          · simp only [fullL, Act.put, List.setIfInBounds_toArray, List.set_cons_succ, List.set_cons_zero]
            intro w8 hw
            go_wp2_with fail
            go_ret
            exact ⟨rfl, hbw.trans (hw.mono hbw.size)⟩
theorem walk (ao : Option Addr) (n cap : Nat) (ss : List ByteArray) (hl : ss.length = n) (u : World) (hc : Lies u ao n ss) (hn : n ≤ 9223372036854775807) (hB : ∀ s ∈ ss, s.size ≤ 140737488355328) (hT : Tabs u) :
    Calls Tryd.prog 5 #[.slice ao n cap] u fun e w' => e = .returned (.bool true) ∧ Below u.heap.size u w' := by
  by_cases h1 : 40 < n
  · exact big ao n cap ss hl u hc hn h1 hT
  by_cases h2 : 1024 < szs ss
  · exact mid ao n cap ss hl u hc (by omega) hB h2 hT
  · exact small ao n cap ss hl u hc (by omega) (by omega) hT
end Go.Proofs.YthbnlidfgjgncaaDoor.shaPieces
