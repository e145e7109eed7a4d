/- What the reference's numbers answers. -/
import Derived.Test.YtcclcemdodoiiaaGreatDoorQRef1
import Derived.Test.YtcclcemdodoiiaaGreatDoorQLib
namespace Go.Proofs.YtcclcemdodoiiaaGreatDoor
set_option maxRecDepth 10000
open Go.RowKit
set_option linter.unusedVariables false
theorem ad_swap (p q r s : BitVec 32) : ad (ad (ad p r) q) s = ad (ad (ad p q) r) s := by
  simp only [ad]; rw [BitVec.add_assoc p r q, BitVec.add_comm r q, ← BitVec.add_assoc]
theorem next_ref (l : List (BitVec 32)) : ad (ad (ad (l.getD (l.length - 16) 0) (l.getD (l.length - 7) 0)) (sx (l.getD (l.length - 15) 0))) (sy (l.getD (l.length - 2) 0)) = nextW l := by
  rw [nextW, ad_swap]
theorem cf24 (vs : Array Value) (w : World) : (callFunc 86 vs).run Tryz.prog w = .ok (.enter 86 vs) w := by go_simp
theorem g_app {a : Act} {w : World} {K : Value → World → Prop} {dst : Option Tmp} {ty : TypeId} {pos : String} {aft : Array Edge} {gd : Option (Nat × Bool)} (x y : Operand) (B : Nat) (v : Value) (l news : List (BitVec 32))
    (hx : a.eval x = v) (ho : Own w B v l) (b o m c : Nat) (hy : a.eval y = .slice (some ⟨b, o, none⟩) m c) (hm : news.length = m)
    (hn : ∀ j, j < m → w.cell? ⟨b, o + j, none⟩ = some (.int .u32 ((news.getD j 0).toNat : Int))) (hs : l.length + m ≤ 100000) (hB : B ≤ w.heap.size)
    (h : ∀ v' w', Own w' B v' (l ++ news) → Below B w w' → K v' w') :
    gives Tryz.prog ⟨dst, .call { callee := .builtin .append, args := #[x, y], argTypes := #[158, 158] }, ty, pos, aft, gd⟩ a w K := by
  obtain ⟨v', w', hr, h1, h2⟩ := run_app ty B v l news ho b o m c hm hn hs hB
  unfold gives
  simp only [execOp, resolve, invoke, builtin, Sem.run_bind, Sem.run_pure, Result.andThen_ok, List.map_toArray, List.map_cons, List.map_nil, hx, hy, hr]
  exact h v' w' h1 h2
/-- The first operations' values, where they have been done. -/
def Fix (vs : List Value) (t : Nat → Bool) (v : Nat → Value) : Prop := ∀ i, i < vs.length → t i = true → v i = vs.getD i undef
theorem Fix.set {vs : List Value} {t : Nat → Bool} {v : Nat → Value} {i : Nat} {x : Value} (h : Fix vs t v) (hx : x = vs.getD i undef) : Fix vs (setB t i) (setV v i x) := by
  intro j hj ht
  by_cases e : j = i
  · subst e; rw [setV_self]; exact hx
  · rw [setV_other _ _ _ _ e]; rw [setB_other _ _ _ e] at ht; exact h j hj ht
theorem Fix.skip {vs : List Value} {t : Nat → Bool} {v : Nat → Value} {i : Nat} {x : Value} (h : Fix vs t v) (hi : vs.length ≤ i) : Fix vs (setB t i) (setV v i x) := by
  intro j hj ht
  have e : j ≠ i := by omega
  rw [setV_other _ _ _ _ e]; rw [setB_other _ _ _ e] at ht; exact h j hj ht
theorem keepI {t : Nat → Bool} {i a b : Nat} (ha : a ≠ i) (h : t a = true → t b = true) : setB t i a = true → setB t i b = true := by
  intro ht
  rw [setB_other _ _ _ ha] at ht
  by_cases e : b = i
  · subst e; exact setB_self _ _
  · rw [setB_other _ _ _ e]; exact h ht
theorem newI {t : Nat → Bool} {i b : Nat} (hb : b ≠ i) (h : t b = true) : setB t i i = true → setB t i b = true := by
  intro _; rw [setB_other _ _ _ hb]; exact h
set_option maxRecDepth 100000 in
set_option maxHeartbeats 4000000 in
theorem numbers_any (s : ByteArray) (hs : s.size = 64) (w : World) :
    Calls Tryz.prog 85 #[.string s] w fun e w' => ∃ v, e = .returned v ∧ Own w' w.heap.size v (spr s.data.toList) ∧ Below w.heap.size w w' := by
  go_enter Tryz.func85, Tryz.ntmps85
  go_wp2_with (first
    | ((with_reducible refine at_build 0 ?_); refine L_build0 ?_; intro w1 h1 hb1))
  have o1 : Own w1 w.heap.size (.slice (some ⟨w.heap.size, 0, none⟩) 0 0) [] := Own.of (sp := []) (Nat.le_refl _) rfl (by omega) (by simpa using hb1)
  have hB1 : Below w.heap.size w w1 := h1.below (Below.refl _ _) (Nat.le_refl _)
  clear h1 hb1
  go_loopw [3, 4] (fun v i wr => ∃ k : Nat, k ≤ 16 ∧ i = .int .i64 (4 * k : Nat) ∧ Own wr w.heap.size v (w16 s.data.toList k) ∧ Below w.heap.size w wr) (fun _ i _ => 64 - (intOf i).toNat)
  case atStart => exact ⟨0, by omega, rfl, o1, hB1⟩
  case round =>
    clear o1 hB1
    obtain ⟨k, hk, rfl, ho, hbw⟩ := hrel
    by_cases hlt : k < 16
    · obtain ⟨E, hE⟩ : ∃ E, s.extract (4 * k) (4 * k + 4) = E := ⟨_, rfl⟩
      have hEs : E.size = 4 := by rw [← hE, ByteArray.size_extract]; omega
      have HE : Hid (w16 s.data.toList (k + 1) = w16 s.data.toList k ++ [wd E.data.toList]) := by
        show _ = _; rw [← hE, Lib.extract_data, show 4 * k + 4 - 4 * k = 4 by omega, w16]
      have hE2 : Hid (s.extract (4 * k) (4 * k + 4) = E) := hE
      clear hE
      go_wp2_with fail
      rw [hE2.out]
      refine (rtake_any E wr (by omega)).mono ?_; rintro e w' ⟨rfl, hw'⟩; obtain rfl := hw'.symm; clear hw'
      have hw : ((num E.data.toList : Nat) : Int) % 4294967296 = ((wd E.data.toList).toNat : Int) := by
        rw [wd, BitVec.toNat_ofNat]; omega
      have hl16 := w16_length s.data.toList k
      go_wp2_with (first
        | ((with_reducible refine at_build 1 ?_); refine L_build1 _ (wd E.data.toList) rfl ?_; intro w2 h2 hb2)
        | ((with_reducible refine stop_list 28 ?_); intro X hX))
      refine hX.out ?_
      clear hX X
      have ho2 : Own w2 w.heap.size u3 (w16 s.data.toList k) := ho.below (h2.below (Below.refl _ _) (Nat.le_refl _))
      refine L_app _ _ w.heap.size _ (w16 s.data.toList k) [wd E.data.toList] rfl ho2 wr.heap.size 0 1 1 rfl rfl ?_ (by omega) (by have := hbw.size; have := h2.size; omega) ?_
      · intro j hj
        obtain rfl : j = 0 := by omega
        exact hb2.cell 0 _ rfl
      intro v3 w3 o3 hb3
      go_wp2_with fail
      refine ⟨⟨k + 1, by omega, by go_num, ?_, ?_⟩, by simp [intOf]; omega⟩
      · rw [HE.out]; exact o3
      · exact (h2.below hbw hbw.size).trans hb3
    · obtain rfl : k = 16 := by omega
      go_wp2_with fail
      clear hk hlt
      go_loopw [3, 7] (fun v i wr => ∃ m : Nat, 16 ≤ m ∧ m ≤ 64 ∧ i = .int .i64 m ∧ Own wr w.heap.size v (growW (m - 16) (w16 s.data.toList 16)) ∧ Below w.heap.size w wr) (fun _ i _ => 64 - (intOf i).toNat)
      case atStart => exact ⟨16, by omega, by omega, rfl, ho, hbw⟩
      case round =>
        clear ho hbw
        obtain ⟨m, hm1, hm2, rfl, ho, hbw⟩ := hrel
        by_cases hlt : m < 64
        · obtain ⟨l, hl⟩ : ∃ l, growW (m - 16) (w16 s.data.toList 16) = l := ⟨_, rfl⟩
          have hlen' : l.length = m := by rw [← hl, growW_length, w16_length]; omega
          have hnext : Hid (growW (m + 1 - 16) (w16 s.data.toList 16) = l ++ [nextW l]) := by
            show _ = _; rw [show m + 1 - 16 = m - 16 + 1 by omega, growW_snoc, hl]
          rw [hl] at ho
          clear hl
          have hnx := next_ref l
          rw [hlen'] at hnx
          obtain ⟨g, cap, sp, rfl, hgB, hcap1, hcap2, hsp', hblk⟩ := ho.blk (by intro e; rw [e] at hlen'; simp at hlen'; omega)
          have c1 := row_cell hblk (m - 15) (by omega)
          have c2 := row_cell hblk (m - 2) (by omega)
          obtain ⟨p, hp'⟩ : ∃ p, l.getD (m - 16) 0 = p := ⟨_, rfl⟩
          obtain ⟨z, hz'⟩ : ∃ z, l.getD (m - 7) 0 = z := ⟨_, rfl⟩
          obtain ⟨q, hq'⟩ : ∃ q, l.getD (m - 15) 0 = q := ⟨_, rfl⟩
          obtain ⟨r, hr'⟩ : ∃ r, l.getD (m - 2) 0 = r := ⟨_, rfl⟩
          rw [hp', hz', hq', hr'] at hnx
          rw [hq'] at c1
          rw [hr'] at c2
          have HX : Hid (ad (ad (ad p z) (xr (xr (rl q (-7)) (rl q (-18))) (sr q 3))) (xr (xr (rl r (-17)) (rl r (-19))) (sr r 10)) = nextW l) := hnx
          have Hp : Hid (l.getD (m - 16) 0 = p) := hp'
          have Hz : Hid (l.getD (m - 7) 0 = z) := hz'
          have hlen : Hid (l.length = m) := hlen'
          have hsp : Hid (sp.length + l.length = cap) := hsp'
          rw [hlen'] at hcap1 ⊢
          clear hp' hz' hq' hr' hnx hlen' hsp'
          have i1 : (0 : Int) ≤ (m : Int) - 15 := by omega
          have i2 : (m : Int) - 15 < m := by omega
          have i3 : (0 : Int) ≤ (m : Int) - 2 := by omega
          have i4 : (m : Int) - 2 < m := by omega
          have i5 : (0 : Int) ≤ (m : Int) - 16 := by omega
          have i6 : (m : Int) - 16 < m := by omega
          have i7 : (0 : Int) ≤ (m : Int) - 7 := by omega
          have i8 : (m : Int) - 7 < m := by omega
          go_wp2_with fail
          clear c1 c2
          refine wp_region_late 32 (by kernel_rfl) (by kernel_rfl) rfl (fun t v wx => Fix [.slice (some ⟨g, 0, none⟩) m cap, .slice (some ⟨g, 0, none⟩) m cap, .int .i64 ((m : Int)), .int .i64 ((m : Int) - 16), .pointer (some ⟨g, m - 16, none⟩), .int .u32 ((p).toNat : Int), .slice (some ⟨g, 0, none⟩) m cap, .int .i64 ((m : Int)), .int .i64 ((m : Int) - 7), .pointer (some ⟨g, m - 7, none⟩), .int .u32 ((z).toNat : Int), .int .u32 ((ad p z).toNat : Int), .int .u32 ((q).toNat : Int), .int .u32 ((rl q (-7)).toNat : Int), .int .u32 ((q).toNat : Int), .int .u32 ((rl q (-18)).toNat : Int), .int .u32 ((xr (rl q (-7)) (rl q (-18))).toNat : Int), .int .u32 ((q).toNat : Int), .int .u32 ((sr q 3).toNat : Int), .int .u32 ((xr (xr (rl q (-7)) (rl q (-18))) (sr q 3)).toNat : Int), .int .u32 ((ad (ad p z) (xr (xr (rl q (-7)) (rl q (-18))) (sr q 3))).toNat : Int), .int .u32 ((r).toNat : Int), .int .u32 ((rl r (-17)).toNat : Int), .int .u32 ((r).toNat : Int), .int .u32 ((rl r (-19)).toNat : Int), .int .u32 ((xr (rl r (-17)) (rl r (-19))).toNat : Int), .int .u32 ((r).toNat : Int), .int .u32 ((sr r 10).toNat : Int), .int .u32 ((xr (xr (rl r (-17)) (rl r (-19))) (sr r 10)).toNat : Int), .int .u32 ((ad (ad (ad p z) (xr (xr (rl q (-7)) (rl q (-18))) (sr q 3))) (xr (xr (rl r (-17)) (rl r (-19))) (sr r 10))).toNat : Int)] t v ∧ (t 31 = true → t 30 = true) ∧ (t 30 = true → t 29 = true) ∧ (t 29 = true → t 20 = true) ∧ (t 20 = true → t 11 = true) ∧ (t 11 = true → t 5 = true) ∧ (t 11 = true → t 10 = true) ∧ (t 32 = true → t 31 = true) ∧ Below w.heap.size w wx ∧ (t 31 = false → Blk wx g (c32 l ++ sp) 157) ∧ (t 30 = true → t 31 = false → ∃ pb, v 30 = .slice (some ⟨pb, 0, none⟩) 1 1 ∧ Blk wx pb (c32 [ad (ad (ad p z) (xr (xr (rl q (-7)) (rl q (-18))) (sr q 3))) (xr (xr (rl r (-17)) (rl r (-19))) (sr r 10))]) 157) ∧ (t 31 = true → Own wx w.heap.size (v 31) (l ++ [ad (ad (ad p z) (xr (xr (rl q (-7)) (rl q (-18))) (sr q 3))) (xr (xr (rl r (-17)) (rl r (-19))) (sr r 10))])) ∧ (t 32 = true → v 32 = v 31)) ?_ ?_ ?_
          · exact ⟨(fun i _ h => by cases h), (fun h => by cases h), (fun h => by cases h), (fun h => by cases h), (fun h => by cases h), (fun h => by cases h), (fun h => by cases h), (fun h => by cases h), hbw.drew, fun _ => hblk, (fun h => by cases h), (fun h => by cases h), (fun h => by cases h)⟩
          · simp only [List.take_succ_cons, List.take_zero, full, Act.put, List.setIfInBounds_toArray, List.set_cons_succ, List.set_cons_zero, Nat.zero_add, Nat.reduceAdd]
            intro i o ho t v wx hS hti hall
            obtain ⟨hF, k0, k1, k2, k3, k4, k5, k6, W1, W2, W3, W4, W5⟩ := hS
            rcases i with _ | _ | _ | _ | _ | _ | _ | _ | _ | _ | _ | _ | _ | _ | _ | _ | _ | _ | _ | _ | _ | _ | _ | _ | _ | _ | _ | _ | _ | _ | _ | _ | _ | i
            · obtain rfl := Option.some.inj ho
              refine g_move _ _ rfl ?_
              exact ⟨hF.set (by rfl), keepI (by decide) k0, keepI (by decide) k1, keepI (by decide) k2, keepI (by decide) k3, keepI (by decide) k4, keepI (by decide) k5, keepI (by decide) k6, W1, W2, W3, W4, W5⟩
            · obtain rfl := Option.some.inj ho
              refine g_move _ _ rfl ?_
              exact ⟨hF.set (by rfl), keepI (by decide) k0, keepI (by decide) k1, keepI (by decide) k2, keepI (by decide) k3, keepI (by decide) k4, keepI (by decide) k5, keepI (by decide) k6, W1, W2, W3, W4, W5⟩
            · obtain rfl := Option.some.inj ho
              refine g_move _ _ rfl ?_
              exact ⟨hF.set (by rfl), keepI (by decide) k0, keepI (by decide) k1, keepI (by decide) k2, keepI (by decide) k3, keepI (by decide) k4, keepI (by decide) k5, keepI (by decide) k6, W1, W2, W3, W4, W5⟩
            · obtain rfl := Option.some.inj ho
              have e2 := hall ⟨2, .data⟩ (by simp) rfl
              have d2 : v 2 = .int .i64 ((m : Int)) := hF 2 (show 2 < 30 by decide) e2
              refine g_val (.int .i64 ((m : Int) - 16)) wx ?_ ?_
              · rw [d2]
                go_simp
                exact wrap_i64 _ (by omega) (by omega)
              · exact ⟨hF.set (by rfl), keepI (by decide) k0, keepI (by decide) k1, keepI (by decide) k2, keepI (by decide) k3, keepI (by decide) k4, keepI (by decide) k5, keepI (by decide) k6, W1, W2, W3, W4, W5⟩
            · obtain rfl := Option.some.inj ho
              have e1 := hall ⟨1, .data⟩ (by simp) rfl
              have d1 : v 1 = .slice (some ⟨g, 0, none⟩) m cap := hF 1 (show 1 < 30 by decide) e1
              have e3 := hall ⟨3, .data⟩ (by simp) rfl
              have d3 : v 3 = .int .i64 ((m : Int) - 16) := hF 3 (show 3 < 30 by decide) e3
              refine g_val (.pointer (some ⟨g, m - 16, none⟩)) wx ?_ ?_
              · rw [d1, d3]
                go_simp
                rw [if_pos (by omega), show ((m : Int) - 16).toNat = m - 16 by omega]
              · exact ⟨hF.set (by rfl), keepI (by decide) k0, keepI (by decide) k1, keepI (by decide) k2, keepI (by decide) k3, keepI (by decide) k4, keepI (by decide) k5, keepI (by decide) k6, W1, W2, W3, W4, W5⟩
            · obtain rfl := Option.some.inj ho
              have e4 := hall ⟨4, .data⟩ (by simp) rfl
              have d4 : v 4 = .pointer (some ⟨g, m - 16, none⟩) := hF 4 (show 4 < 30 by decide) e4
              have h31 : t 31 = false := by
                cases h : t 31 with
                | false => rfl
                | true => have := k4 (k3 (k2 (k1 (k0 h)))); rw [hti] at this; cases this
              have hc := row_cell (W2 h31) (m - 16) (by rw [hlen.out]; omega)
              rw [Hp.out] at hc
              refine g_val (.int .u32 ((p).toNat : Int)) wx ?_ ?_
              · rw [d4]
                go_simp
              · exact ⟨hF.set (by rfl), keepI (by decide) k0, keepI (by decide) k1, keepI (by decide) k2, keepI (by decide) k3, keepI (by decide) k4, keepI (by decide) k5, keepI (by decide) k6, W1, W2, W3, W4, W5⟩
            · obtain rfl := Option.some.inj ho
              refine g_move _ _ rfl ?_
              exact ⟨hF.set (by rfl), keepI (by decide) k0, keepI (by decide) k1, keepI (by decide) k2, keepI (by decide) k3, keepI (by decide) k4, keepI (by decide) k5, keepI (by decide) k6, W1, W2, W3, W4, W5⟩
            · obtain rfl := Option.some.inj ho
              refine g_move _ _ rfl ?_
              exact ⟨hF.set (by rfl), keepI (by decide) k0, keepI (by decide) k1, keepI (by decide) k2, keepI (by decide) k3, keepI (by decide) k4, keepI (by decide) k5, keepI (by decide) k6, W1, W2, W3, W4, W5⟩
            · obtain rfl := Option.some.inj ho
              have e7 := hall ⟨7, .data⟩ (by simp) rfl
              have d7 : v 7 = .int .i64 ((m : Int)) := hF 7 (show 7 < 30 by decide) e7
              refine g_val (.int .i64 ((m : Int) - 7)) wx ?_ ?_
              · rw [d7]
                go_simp
                exact wrap_i64 _ (by omega) (by omega)
              · exact ⟨hF.set (by rfl), keepI (by decide) k0, keepI (by decide) k1, keepI (by decide) k2, keepI (by decide) k3, keepI (by decide) k4, keepI (by decide) k5, keepI (by decide) k6, W1, W2, W3, W4, W5⟩
            · obtain rfl := Option.some.inj ho
              have e6 := hall ⟨6, .data⟩ (by simp) rfl
              have d6 : v 6 = .slice (some ⟨g, 0, none⟩) m cap := hF 6 (show 6 < 30 by decide) e6
              have e8 := hall ⟨8, .data⟩ (by simp) rfl
              have d8 : v 8 = .int .i64 ((m : Int) - 7) := hF 8 (show 8 < 30 by decide) e8
              refine g_val (.pointer (some ⟨g, m - 7, none⟩)) wx ?_ ?_
              · rw [d6, d8]
                go_simp
                rw [if_pos (by omega), show ((m : Int) - 7).toNat = m - 7 by omega]
              · exact ⟨hF.set (by rfl), keepI (by decide) k0, keepI (by decide) k1, keepI (by decide) k2, keepI (by decide) k3, keepI (by decide) k4, keepI (by decide) k5, keepI (by decide) k6, W1, W2, W3, W4, W5⟩
            · obtain rfl := Option.some.inj ho
              have e9 := hall ⟨9, .data⟩ (by simp) rfl
              have d9 : v 9 = .pointer (some ⟨g, m - 7, none⟩) := hF 9 (show 9 < 30 by decide) e9
              have h31 : t 31 = false := by
                cases h : t 31 with
                | false => rfl
                | true => have := k5 (k3 (k2 (k1 (k0 h)))); rw [hti] at this; cases this
              have hc := row_cell (W2 h31) (m - 7) (by rw [hlen.out]; omega)
              rw [Hz.out] at hc
              refine g_val (.int .u32 ((z).toNat : Int)) wx ?_ ?_
              · rw [d9]
                go_simp
              · exact ⟨hF.set (by rfl), keepI (by decide) k0, keepI (by decide) k1, keepI (by decide) k2, keepI (by decide) k3, keepI (by decide) k4, keepI (by decide) k5, keepI (by decide) k6, W1, W2, W3, W4, W5⟩
            · obtain rfl := Option.some.inj ho
              have e5 := hall ⟨5, .data⟩ (by simp) rfl
              have d5 : v 5 = .int .u32 ((p).toNat : Int) := hF 5 (show 5 < 30 by decide) e5
              have e10 := hall ⟨10, .data⟩ (by simp) rfl
              have d10 : v 10 = .int .u32 ((z).toNat : Int) := hF 10 (show 10 < 30 by decide) e10
              have hfact := add32 p z
              refine g_val (.int .u32 ((ad p z).toNat : Int)) wx ?_ ?_
              · rw [d5, d10]
                go_simp
                rw [IntKind.wrap_u32]
                exact hfact
              · exact ⟨hF.set (by rfl), keepI (by decide) k0, keepI (by decide) k1, keepI (by decide) k2, keepI (by decide) k3, newI (by decide) e5, newI (by decide) e10, keepI (by decide) k6, W1, W2, W3, W4, W5⟩
            · obtain rfl := Option.some.inj ho
              refine g_move _ _ rfl ?_
              exact ⟨hF.set (by rfl), keepI (by decide) k0, keepI (by decide) k1, keepI (by decide) k2, keepI (by decide) k3, keepI (by decide) k4, keepI (by decide) k5, keepI (by decide) k6, W1, W2, W3, W4, W5⟩
            · obtain rfl := Option.some.inj ho
              have e12 := hall ⟨12, .data⟩ (by simp) rfl
              have d12 : v 12 = .int .u32 ((q).toNat : Int) := hF 12 (show 12 < 30 by decide) e12
              refine g_call 86 _ _ [.int .u32 (q.toNat : Int), .int .i64 ((7 : Nat) : Int)] (cf24 _ _) (by show [v 12, _] = _; rw [d12]; rfl) ((right_any q 7 (by decide) (by decide) wx).mono ?_)
              rintro e w' ⟨rfl, nd, rfl⟩
              exact ⟨_, rfl, hF.set (by rfl), keepI (by decide) k0, keepI (by decide) k1, keepI (by decide) k2, keepI (by decide) k3, keepI (by decide) k4, keepI (by decide) k5, keepI (by decide) k6, ⟨W1.os, W1.tape, W1.output, W1.size, W1.block⟩, W2, W3, W4, W5⟩
            · obtain rfl := Option.some.inj ho
              refine g_move _ _ rfl ?_
              exact ⟨hF.set (by rfl), keepI (by decide) k0, keepI (by decide) k1, keepI (by decide) k2, keepI (by decide) k3, keepI (by decide) k4, keepI (by decide) k5, keepI (by decide) k6, W1, W2, W3, W4, W5⟩
            · obtain rfl := Option.some.inj ho
              have e14 := hall ⟨14, .data⟩ (by simp) rfl
              have d14 : v 14 = .int .u32 ((q).toNat : Int) := hF 14 (show 14 < 30 by decide) e14
              refine g_call 86 _ _ [.int .u32 (q.toNat : Int), .int .i64 ((18 : Nat) : Int)] (cf24 _ _) (by show [v 14, _] = _; rw [d14]; rfl) ((right_any q 18 (by decide) (by decide) wx).mono ?_)
              rintro e w' ⟨rfl, nd, rfl⟩
              exact ⟨_, rfl, hF.set (by rfl), keepI (by decide) k0, keepI (by decide) k1, keepI (by decide) k2, keepI (by decide) k3, keepI (by decide) k4, keepI (by decide) k5, keepI (by decide) k6, ⟨W1.os, W1.tape, W1.output, W1.size, W1.block⟩, W2, W3, W4, W5⟩
            · obtain rfl := Option.some.inj ho
              have e13 := hall ⟨13, .data⟩ (by simp) rfl
              have d13 : v 13 = .int .u32 ((rl q (-7)).toNat : Int) := hF 13 (show 13 < 30 by decide) e13
              have e15 := hall ⟨15, .data⟩ (by simp) rfl
              have d15 : v 15 = .int .u32 ((rl q (-18)).toNat : Int) := hF 15 (show 15 < 30 by decide) e15
              have hfact := xor32 (rl q (-7)) (rl q (-18))
              refine g_val (.int .u32 ((xr (rl q (-7)) (rl q (-18))).toNat : Int)) wx ?_ ?_
              · rw [d13, d15]
                go_simp
              · exact ⟨hF.set (by rfl), keepI (by decide) k0, keepI (by decide) k1, keepI (by decide) k2, keepI (by decide) k3, keepI (by decide) k4, keepI (by decide) k5, keepI (by decide) k6, W1, W2, W3, W4, W5⟩
            · obtain rfl := Option.some.inj ho
              refine g_move _ _ rfl ?_
              exact ⟨hF.set (by rfl), keepI (by decide) k0, keepI (by decide) k1, keepI (by decide) k2, keepI (by decide) k3, keepI (by decide) k4, keepI (by decide) k5, keepI (by decide) k6, W1, W2, W3, W4, W5⟩
            · obtain rfl := Option.some.inj ho
              have e17 := hall ⟨17, .data⟩ (by simp) rfl
              have d17 : v 17 = .int .u32 ((q).toNat : Int) := hF 17 (show 17 < 30 by decide) e17
              have hfact := shr3 q
              refine g_val (.int .u32 ((sr q 3).toNat : Int)) wx ?_ ?_
              · rw [d17]
                go_simp
              · exact ⟨hF.set (by rfl), keepI (by decide) k0, keepI (by decide) k1, keepI (by decide) k2, keepI (by decide) k3, keepI (by decide) k4, keepI (by decide) k5, keepI (by decide) k6, W1, W2, W3, W4, W5⟩
            · obtain rfl := Option.some.inj ho
              have e16 := hall ⟨16, .data⟩ (by simp) rfl
              have d16 : v 16 = .int .u32 ((xr (rl q (-7)) (rl q (-18))).toNat : Int) := hF 16 (show 16 < 30 by decide) e16
              have e18 := hall ⟨18, .data⟩ (by simp) rfl
              have d18 : v 18 = .int .u32 ((sr q 3).toNat : Int) := hF 18 (show 18 < 30 by decide) e18
              have hfact := xor32 (xr (rl q (-7)) (rl q (-18))) (sr q 3)
              refine g_val (.int .u32 ((xr (xr (rl q (-7)) (rl q (-18))) (sr q 3)).toNat : Int)) wx ?_ ?_
              · rw [d16, d18]
                go_simp
              · exact ⟨hF.set (by rfl), keepI (by decide) k0, keepI (by decide) k1, keepI (by decide) k2, keepI (by decide) k3, keepI (by decide) k4, keepI (by decide) k5, keepI (by decide) k6, W1, W2, W3, W4, W5⟩
            · obtain rfl := Option.some.inj ho
              have e11 := hall ⟨11, .data⟩ (by simp) rfl
              have d11 : v 11 = .int .u32 ((ad p z).toNat : Int) := hF 11 (show 11 < 30 by decide) e11
              have e19 := hall ⟨19, .data⟩ (by simp) rfl
              have d19 : v 19 = .int .u32 ((xr (xr (rl q (-7)) (rl q (-18))) (sr q 3)).toNat : Int) := hF 19 (show 19 < 30 by decide) e19
              have hfact := add32 (ad p z) (xr (xr (rl q (-7)) (rl q (-18))) (sr q 3))
              refine g_val (.int .u32 ((ad (ad p z) (xr (xr (rl q (-7)) (rl q (-18))) (sr q 3))).toNat : Int)) wx ?_ ?_
              · rw [d11, d19]
                go_simp
                rw [IntKind.wrap_u32]
                exact hfact
              · exact ⟨hF.set (by rfl), keepI (by decide) k0, keepI (by decide) k1, keepI (by decide) k2, newI (by decide) e11, keepI (by decide) k4, keepI (by decide) k5, keepI (by decide) k6, W1, W2, W3, W4, W5⟩
            · obtain rfl := Option.some.inj ho
              refine g_move _ _ rfl ?_
              exact ⟨hF.set (by rfl), keepI (by decide) k0, keepI (by decide) k1, keepI (by decide) k2, keepI (by decide) k3, keepI (by decide) k4, keepI (by decide) k5, keepI (by decide) k6, W1, W2, W3, W4, W5⟩
            · obtain rfl := Option.some.inj ho
              have e21 := hall ⟨21, .data⟩ (by simp) rfl
              have d21 : v 21 = .int .u32 ((r).toNat : Int) := hF 21 (show 21 < 30 by decide) e21
              refine g_call 86 _ _ [.int .u32 (r.toNat : Int), .int .i64 ((17 : Nat) : Int)] (cf24 _ _) (by show [v 21, _] = _; rw [d21]; rfl) ((right_any r 17 (by decide) (by decide) wx).mono ?_)
              rintro e w' ⟨rfl, nd, rfl⟩
              exact ⟨_, rfl, hF.set (by rfl), keepI (by decide) k0, keepI (by decide) k1, keepI (by decide) k2, keepI (by decide) k3, keepI (by decide) k4, keepI (by decide) k5, keepI (by decide) k6, ⟨W1.os, W1.tape, W1.output, W1.size, W1.block⟩, W2, W3, W4, W5⟩
            · obtain rfl := Option.some.inj ho
              refine g_move _ _ rfl ?_
              exact ⟨hF.set (by rfl), keepI (by decide) k0, keepI (by decide) k1, keepI (by decide) k2, keepI (by decide) k3, keepI (by decide) k4, keepI (by decide) k5, keepI (by decide) k6, W1, W2, W3, W4, W5⟩
            · obtain rfl := Option.some.inj ho
              have e23 := hall ⟨23, .data⟩ (by simp) rfl
              have d23 : v 23 = .int .u32 ((r).toNat : Int) := hF 23 (show 23 < 30 by decide) e23
              refine g_call 86 _ _ [.int .u32 (r.toNat : Int), .int .i64 ((19 : Nat) : Int)] (cf24 _ _) (by show [v 23, _] = _; rw [d23]; rfl) ((right_any r 19 (by decide) (by decide) wx).mono ?_)
              rintro e w' ⟨rfl, nd, rfl⟩
              exact ⟨_, rfl, hF.set (by rfl), keepI (by decide) k0, keepI (by decide) k1, keepI (by decide) k2, keepI (by decide) k3, keepI (by decide) k4, keepI (by decide) k5, keepI (by decide) k6, ⟨W1.os, W1.tape, W1.output, W1.size, W1.block⟩, W2, W3, W4, W5⟩
            · obtain rfl := Option.some.inj ho
              have e22 := hall ⟨22, .data⟩ (by simp) rfl
              have d22 : v 22 = .int .u32 ((rl r (-17)).toNat : Int) := hF 22 (show 22 < 30 by decide) e22
              have e24 := hall ⟨24, .data⟩ (by simp) rfl
              have d24 : v 24 = .int .u32 ((rl r (-19)).toNat : Int) := hF 24 (show 24 < 30 by decide) e24
              have hfact := xor32 (rl r (-17)) (rl r (-19))
              refine g_val (.int .u32 ((xr (rl r (-17)) (rl r (-19))).toNat : Int)) wx ?_ ?_
              · rw [d22, d24]
                go_simp
              · exact ⟨hF.set (by rfl), keepI (by decide) k0, keepI (by decide) k1, keepI (by decide) k2, keepI (by decide) k3, keepI (by decide) k4, keepI (by decide) k5, keepI (by decide) k6, W1, W2, W3, W4, W5⟩
            · obtain rfl := Option.some.inj ho
              refine g_move _ _ rfl ?_
              exact ⟨hF.set (by rfl), keepI (by decide) k0, keepI (by decide) k1, keepI (by decide) k2, keepI (by decide) k3, keepI (by decide) k4, keepI (by decide) k5, keepI (by decide) k6, W1, W2, W3, W4, W5⟩
            · obtain rfl := Option.some.inj ho
              have e26 := hall ⟨26, .data⟩ (by simp) rfl
              have d26 : v 26 = .int .u32 ((r).toNat : Int) := hF 26 (show 26 < 30 by decide) e26
              have hfact := shr10 r
              refine g_val (.int .u32 ((sr r 10).toNat : Int)) wx ?_ ?_
              · rw [d26]
                go_simp
              · exact ⟨hF.set (by rfl), keepI (by decide) k0, keepI (by decide) k1, keepI (by decide) k2, keepI (by decide) k3, keepI (by decide) k4, keepI (by decide) k5, keepI (by decide) k6, W1, W2, W3, W4, W5⟩
            · obtain rfl := Option.some.inj ho
              have e25 := hall ⟨25, .data⟩ (by simp) rfl
              have d25 : v 25 = .int .u32 ((xr (rl r (-17)) (rl r (-19))).toNat : Int) := hF 25 (show 25 < 30 by decide) e25
              have e27 := hall ⟨27, .data⟩ (by simp) rfl
              have d27 : v 27 = .int .u32 ((sr r 10).toNat : Int) := hF 27 (show 27 < 30 by decide) e27
              have hfact := xor32 (xr (rl r (-17)) (rl r (-19))) (sr r 10)
              refine g_val (.int .u32 ((xr (xr (rl r (-17)) (rl r (-19))) (sr r 10)).toNat : Int)) wx ?_ ?_
              · rw [d25, d27]
                go_simp
              · exact ⟨hF.set (by rfl), keepI (by decide) k0, keepI (by decide) k1, keepI (by decide) k2, keepI (by decide) k3, keepI (by decide) k4, keepI (by decide) k5, keepI (by decide) k6, W1, W2, W3, W4, W5⟩
            · obtain rfl := Option.some.inj ho
              have e20 := hall ⟨20, .data⟩ (by simp) rfl
              have d20 : v 20 = .int .u32 ((ad (ad p z) (xr (xr (rl q (-7)) (rl q (-18))) (sr q 3))).toNat : Int) := hF 20 (show 20 < 30 by decide) e20
              have e28 := hall ⟨28, .data⟩ (by simp) rfl
              have d28 : v 28 = .int .u32 ((xr (xr (rl r (-17)) (rl r (-19))) (sr r 10)).toNat : Int) := hF 28 (show 28 < 30 by decide) e28
              have hfact := add32 (ad (ad p z) (xr (xr (rl q (-7)) (rl q (-18))) (sr q 3))) (xr (xr (rl r (-17)) (rl r (-19))) (sr r 10))
              refine g_val (.int .u32 ((ad (ad (ad p z) (xr (xr (rl q (-7)) (rl q (-18))) (sr q 3))) (xr (xr (rl r (-17)) (rl r (-19))) (sr r 10))).toNat : Int)) wx ?_ ?_
              · rw [d20, d28]
                go_simp
                rw [IntKind.wrap_u32]
                exact hfact
              · exact ⟨hF.set (by rfl), keepI (by decide) k0, keepI (by decide) k1, newI (by decide) e20, keepI (by decide) k3, keepI (by decide) k4, keepI (by decide) k5, keepI (by decide) k6, W1, W2, W3, W4, W5⟩
            · obtain rfl := Option.some.inj ho
              have e29 := hall ⟨29, .data⟩ (by simp) rfl
              have d29 : v 29 = .int .u32 ((ad (ad (ad p z) (xr (xr (rl q (-7)) (rl q (-18))) (sr q 3))) (xr (xr (rl r (-17)) (rl r (-19))) (sr r 10))).toNat : Int) := hF 29 (show 29 < 30 by decide) e29
              obtain ⟨a1, a2⟩ := turn_alloc wx (c32 [ad (ad (ad p z) (xr (xr (rl q (-7)) (rl q (-18))) (sr q 3))) (xr (xr (rl r (-17)) (rl r (-19))) (sr r 10))]) 157
              refine g_val (.slice (some ⟨wx.heap.size, 0, none⟩) 1 1) (wx.alloc (.cells (c32 [ad (ad (ad p z) (xr (xr (rl q (-7)) (rl q (-18))) (sr q 3))) (xr (xr (rl r (-17)) (rl r (-19))) (sr r 10))]).toArray 157)) ?_ ?_
              · show (execOp _ _).run Tryz.prog wx = _
                unfold execOp
                simp only [List.map_toArray, List.map_cons, List.map_nil]
                show ((Instr.buildSlice 158 1 #[(0, v 29)]) >>= _).run Tryz.prog wx = _
                rw [d29, Sem.run_bind, run_build1]
                rfl
              · have h31 : t 31 = false := by
                  cases h : t 31 with
                  | false => rfl
                  | true => have := k0 h; rw [hti] at this; cases this
                exact ⟨hF.skip (show 30 ≤ 30 by decide), keepI (by decide) k0, newI (by decide) e29, keepI (by decide) k2, keepI (by decide) k3, keepI (by decide) k4, keepI (by decide) k5, keepI (by decide) k6, a1.below W1 W1.size, fun h => a1.blk (W2 h) (by have := (W2 h).lt; omega), fun _ _ => ⟨_, rfl, a2⟩, fun h => (by have h : t 31 = true := h; rw [h31] at h; cases h), fun h => (by have h : t 32 = true := h; have := k6 h; rw [h31] at this; cases this)⟩
            · obtain rfl := Option.some.inj ho
              have e0 := hall ⟨0, .data⟩ (by simp) rfl
              have d0 : v 0 = .slice (some ⟨g, 0, none⟩) m cap := hF 0 (show 0 < 30 by decide) e0
              have e30 := hall ⟨30, .data⟩ (by simp) rfl
              obtain ⟨pb, d30, hp⟩ := W3 e30 hti
              have hO : Own wx w.heap.size (.slice (some ⟨g, 0, none⟩) m cap) l := by
                have := Own.of (cap := cap) hgB hsp.out (by omega) (W2 hti)
                rw [hlen.out] at this
                exact this
              refine g_app _ _ w.heap.size _ l [ad (ad (ad p z) (xr (xr (rl q (-7)) (rl q (-18))) (sr q 3))) (xr (xr (rl r (-17)) (rl r (-19))) (sr r 10))] (show v 0 = _ from d0) hO pb 0 1 1 (show v 30 = _ from d30) rfl (fun j hj => by
                obtain rfl : j = 0 := by omega
                exact hp.cell 0 _ rfl) (by rw [hlen.out]; omega) W1.size (fun v' w' o1 o2 => ?_)
              exact ⟨hF.skip (show 30 ≤ 31 by decide), newI (by decide) e30, keepI (by decide) k1, keepI (by decide) k2, keepI (by decide) k3, keepI (by decide) k4, keepI (by decide) k5, keepI (by decide) k6, W1.trans o2, fun h => (by have h : setB t 31 31 = false := h; rw [setB_self] at h; cases h), fun _ h => (by have h : setB t 31 31 = false := h; rw [setB_self] at h; cases h), fun _ => o1, fun h => (by have h : t 32 = true := h; have := k6 h; rw [hti] at this; cases this)⟩
            · obtain rfl := Option.some.inj ho
              have e31 := hall ⟨31, .data⟩ (by simp) rfl
              refine g_assign _ _ rfl ?_
              exact ⟨hF.skip (show 30 ≤ 32 by decide), keepI (by decide) k0, keepI (by decide) k1, keepI (by decide) k2, keepI (by decide) k3, keepI (by decide) k4, keepI (by decide) k5, newI (by decide) e31, W1, W2, W3, W4, fun _ => rfl⟩
            · simp at ho
          · simp only [full, Act.put, List.setIfInBounds_toArray, List.set_cons_succ, List.set_cons_zero, Nat.zero_add, Nat.reduceAdd]
            intro t v wx hS ht
            obtain ⟨-, -, -, -, -, -, -, -, W1, -, -, W4, W5⟩ := hS
            have o4 := W4 (ht 31 (by decide))
            rw [W5 (ht 32 (by decide))]
            clear W4 W5 ht
            generalize v 31 = x31 at *
            generalize v 0 = x0
            generalize v 1 = x1
            generalize v 2 = x2
            generalize v 3 = x3
            generalize v 4 = x4
            generalize v 5 = x5
            generalize v 6 = x6
            generalize v 7 = x7
            generalize v 8 = x8
            generalize v 9 = x9
            generalize v 10 = x10
            generalize v 11 = x11
            generalize v 12 = x12
            generalize v 13 = x13
            generalize v 14 = x14
            generalize v 15 = x15
            generalize v 16 = x16
            generalize v 17 = x17
            generalize v 18 = x18
            generalize v 19 = x19
            generalize v 20 = x20
            generalize v 21 = x21
            generalize v 22 = x22
            generalize v 23 = x23
            generalize v 24 = x24
            generalize v 25 = x25
            generalize v 26 = x26
            generalize v 27 = x27
            generalize v 28 = x28
            generalize v 29 = x29
            generalize v 30 = x30
            go_wp2_with fail
            refine ⟨⟨m + 1, by omega, by omega, by go_num, ?_, W1⟩, by simp [intOf]; omega⟩
            rw [hnext.out, ← HX.out]
            exact o4
        · obtain rfl : m = 64 := by omega
          have ho2 : Own wr w.heap.size u3 (spr s.data.toList) := ho
          go_wp2_with fail
          go_ret
          exact ⟨_, rfl, ho2, hbw⟩
end Go.Proofs.YtcclcemdodoiiaaGreatDoor
