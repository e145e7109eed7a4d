/- What the reference's sum, greater and off answer. -/
import Derived.Test.YtpenicjlpiechaaDoorQBMath
namespace Go.Proofs.YtpenicjlpiechaaDoor.Wd
set_option maxRecDepth 10000
open Go Go.RowKit
set_option linter.unusedVariables false
/-- A slice of bits: how great they are, and no more of them than k. -/
def RS (w : World) (v : Value) (n k : Nat) : Prop := ∃ l, Rd w v l ∧ val l = n ∧ l.length ≤ k
theorem RS.below {w w' : World} {v : Value} {n k : Nat} (h : RS w v n k) (hb : Below w.heap.size w w') : RS w' v n k := by
  obtain ⟨l, h1, h2, h3⟩ := h
  exact ⟨l, h1.below hb, h2, h3⟩
theorem RS.turn {w w' : World} {v : Value} {n k b : Nat} {cs : List Value} {t : TypeId} (h : RS w v n k) (ht : Turn b w w') (hb : Blk w b cs t) (hn : t ≠ 4) : RS w' v n k := by
  obtain ⟨l, h1, h2, h3⟩ := h
  exact ⟨l, h1.turn ht hb hn, h2, h3⟩
def cmpN (a b : Nat) : Int := if a < b then -1 else if b < a then 1 else 0

set_option maxRecDepth 10000 in
set_option maxHeartbeats 8000000 in
theorem sum_any (va vb : Value) (la lb : List Bool) (w : World) (ra : Rd w va la) (rb : Rd w vb lb) (na : la.length ≤ 2000) (nb : lb.length ≤ 2000) :
    Calls Tryd.prog 56 #[va, vb] w fun e w' => ∃ v, e = .returned v ∧ RS w' v (val la + val lb) (max la.length lb.length + 1) ∧ Below w.heap.size w w' := by
  obtain ⟨m, hm⟩ : ∃ m, max la.length lb.length = m := ⟨_, rfl⟩
  have hm1 : la.length ≤ m := by omega
  have hm2 : lb.length ≤ m := by omega
  have hm3 : m ≤ 2000 := by omega
  obtain ⟨ga, ca, spa, ea, -⟩ := id ra
  obtain ⟨gb, cb, spb, eb, -⟩ := id rb
  subst ea; subst eb
  rw [hm]
  replace hm : Hid _ := hm
  go_enter Tryd.func56, Tryd.ntmps56
  go_wp2_with (first
    | ((with_reducible refine at_build 0 ?_); refine L_b0 ?_; intro w1 t1 b1))
  have ho1 := own0 b1 (Nat.le_refl _)
  have hB1 : Below w.heap.size w w1 := t1.below (Below.refl _ _) (Nat.le_refl _)
  have hs1 := b1.lt
  clear t1 b1
  go_loopw [5, 6, 7] (fun out cv i wr => ∃ (k c : Nat) (l : List Bool), i = .int .i64 k ∧ cv = .int .i64 c ∧ c ≤ 1 ∧ Own wr w.heap.size out l ∧ out ≠ .slice none 0 0 ∧ l.length = k ∧ Below w.heap.size w wr ∧ Hid (val l + 2 ^ k * c = val (la.take k) + val (lb.take k)) ∧ (k ≤ m ∨ (k = m + 1 ∧ c = 0))) (fun _ _ i _ => m + 1 - (intOf i).toNat)
  case atStart => exact ⟨0, 0, [], rfl, rfl, by omega, ho1, by simp, rfl, hB1, by show _ = _; simp [val], .inl (by omega)⟩
  case round =>
    obtain ⟨k, c, l, rfl, rfl, hc, ho, hnn, hlk, hB, hv, hk⟩ := hrel
    clear ho1 hB1 hs1
    have hsz := hB.size
    have ra2 := ra.below hB
    have rb2 := rb.below hB
    by_cases hgo : k < la.length ∨ k < lb.length ∨ c = 1
    · have hkm : k ≤ m := by omega
      have key : ∀ (A Bb : Bool), Hid (atB la k = A) → Hid (atB lb k = Bb) → ∀ (n' c' : Nat) (x : Bool), bit x + 2 * c' = c + bit A + bit Bb → c' ≤ 1 → ∀ v' w', Own w' w.heap.size v' (l ++ [x]) → Below w.heap.size wr w' → v' ≠ .slice none 0 0 →
          (∃ (k2 c2 : Nat) (l2 : List Bool), Value.int .i64 ((k : Int) + 1) = .int .i64 k2 ∧ Value.int .i64 c' = .int .i64 c2 ∧ c2 ≤ 1 ∧ Own w' w.heap.size v' l2 ∧ v' ≠ .slice none 0 0 ∧ l2.length = k2 ∧ Below w.heap.size w w' ∧ Hid (val l2 + 2 ^ k2 * c2 = val (la.take k2) + val (lb.take k2)) ∧ (k2 ≤ m ∨ (k2 = m + 1 ∧ c2 = 0))) := by
        intro A Bb hA hBb n' c' x hx hc' v' w' ho' hb' hn'
        refine ⟨k + 1, c', l ++ [x], by go_num, rfl, hc', ho', hn', by simp [hlk], hB.trans hb', ?_, ?_⟩
        · show _ = _
          rw [val_snoc, val_take_succ, val_take_succ, hA.out, hBb.out, hlk, Nat.pow_succ, Nat.mul_comm (2 ^ k) 2]
          exact sum_step (2 ^ k) c c' A Bb x _ _ _ hv.out hx
        · by_cases hkl : k < m
          · exact .inl (by omega)
          · refine .inr ⟨by omega, ?_⟩
            have e1 := hA.out; have e2 := hBb.out
            rw [atB_ge la k (by omega)] at e1
            rw [atB_ge lb k (by omega)] at e2
            subst e1; subst e2
            rw [bit_false] at hx
            omega
      clear hv hk
      obtain ⟨A, hA⟩ : ∃ A, atB la k = A := ⟨_, rfl⟩
      obtain ⟨Bb, hBb⟩ : ∃ Bb, atB lb k = Bb := ⟨_, rfl⟩
      replace hA : Hid _ := hA
      replace hBb : Hid _ := hBb
      have key := key A Bb hA hBb 0

      have hc01 : c = 0 ∨ c = 1 := by omega
      by_cases g1 : (k : Int) < (la.length : Int)
      · clear hgo
        rcases hc01 with rfl | rfl <;> cases A <;> cases Bb

        · skip
          go_wp2_with fail
          refine (at_any _ la k wr ra2 false hA).mono ?_
          rintro e w2 ⟨rfl, rfl⟩
          go_wp2_with fail
          refine (at_any _ lb k w2 rb2 false hBb).mono ?_
          rintro e w3 ⟨rfl, rfl⟩
          go_wp2_with (first
            | ((with_reducible refine at_build 1 ?_); refine L_b1 _ false rfl ?_; intro w4 t4 b4)
            | ((with_reducible refine at_append ?_); refine L_app _ _ w.heap.size _ _ l [false] rfl rfl (ho.below t4.toBelow) (rd1 b4) (by simp; omega) (Nat.le_trans hsz t4.size) ?_; intro v5 w5 o5 b5 n5))
          exact ⟨key 0 false rfl (by omega) v5 w5 o5 ((t4.toBelow.mono hsz).trans b5) (n5 (.inr (by simp))), by simp [intOf]; omega⟩

        · skip
          go_wp2_with fail
          refine (at_any _ la k wr ra2 false hA).mono ?_
          rintro e w2 ⟨rfl, rfl⟩
          go_wp2_with fail
          refine (at_any _ lb k w2 rb2 true hBb).mono ?_
          rintro e w3 ⟨rfl, rfl⟩
          go_wp2_with (first
            | ((with_reducible refine at_build 1 ?_); refine L_b1 _ true rfl ?_; intro w4 t4 b4)
            | ((with_reducible refine at_append ?_); refine L_app _ _ w.heap.size _ _ l [true] rfl rfl (ho.below t4.toBelow) (rd1 b4) (by simp; omega) (Nat.le_trans hsz t4.size) ?_; intro v5 w5 o5 b5 n5))
          exact ⟨key 0 true rfl (by omega) v5 w5 o5 ((t4.toBelow.mono hsz).trans b5) (n5 (.inr (by simp))), by simp [intOf]; omega⟩

        · skip
          go_wp2_with fail
          refine (at_any _ la k wr ra2 true hA).mono ?_
          rintro e w2 ⟨rfl, rfl⟩
          go_wp2_with fail
          refine (at_any _ lb k w2 rb2 false hBb).mono ?_
          rintro e w3 ⟨rfl, rfl⟩
          go_wp2_with (first
            | ((with_reducible refine at_build 1 ?_); refine L_b1 _ true rfl ?_; intro w4 t4 b4)
            | ((with_reducible refine at_append ?_); refine L_app _ _ w.heap.size _ _ l [true] rfl rfl (ho.below t4.toBelow) (rd1 b4) (by simp; omega) (Nat.le_trans hsz t4.size) ?_; intro v5 w5 o5 b5 n5))
          exact ⟨key 0 true rfl (by omega) v5 w5 o5 ((t4.toBelow.mono hsz).trans b5) (n5 (.inr (by simp))), by simp [intOf]; omega⟩

        · skip
          go_wp2_with fail
          refine (at_any _ la k wr ra2 true hA).mono ?_
          rintro e w2 ⟨rfl, rfl⟩
          go_wp2_with fail
          refine (at_any _ lb k w2 rb2 true hBb).mono ?_
          rintro e w3 ⟨rfl, rfl⟩
          go_wp2_with (first
            | ((with_reducible refine at_build 1 ?_); refine L_b1 _ false rfl ?_; intro w4 t4 b4)
            | ((with_reducible refine at_append ?_); refine L_app _ _ w.heap.size _ _ l [false] rfl rfl (ho.below t4.toBelow) (rd1 b4) (by simp; omega) (Nat.le_trans hsz t4.size) ?_; intro v5 w5 o5 b5 n5))
          exact ⟨key 1 false rfl (by omega) v5 w5 o5 ((t4.toBelow.mono hsz).trans b5) (n5 (.inr (by simp))), by simp [intOf]; omega⟩

        · skip
          go_wp2_with fail
          refine (at_any _ la k wr ra2 false hA).mono ?_
          rintro e w2 ⟨rfl, rfl⟩
          go_wp2_with fail
          refine (at_any _ lb k w2 rb2 false hBb).mono ?_
          rintro e w3 ⟨rfl, rfl⟩
          go_wp2_with (first
            | ((with_reducible refine at_build 1 ?_); refine L_b1 _ true rfl ?_; intro w4 t4 b4)
            | ((with_reducible refine at_append ?_); refine L_app _ _ w.heap.size _ _ l [true] rfl rfl (ho.below t4.toBelow) (rd1 b4) (by simp; omega) (Nat.le_trans hsz t4.size) ?_; intro v5 w5 o5 b5 n5))
          exact ⟨key 0 true rfl (by omega) v5 w5 o5 ((t4.toBelow.mono hsz).trans b5) (n5 (.inr (by simp))), by simp [intOf]; omega⟩

        · skip
          go_wp2_with fail
          refine (at_any _ la k wr ra2 false hA).mono ?_
          rintro e w2 ⟨rfl, rfl⟩
          go_wp2_with fail
          refine (at_any _ lb k w2 rb2 true hBb).mono ?_
          rintro e w3 ⟨rfl, rfl⟩
          go_wp2_with (first
            | ((with_reducible refine at_build 1 ?_); refine L_b1 _ false rfl ?_; intro w4 t4 b4)
            | ((with_reducible refine at_append ?_); refine L_app _ _ w.heap.size _ _ l [false] rfl rfl (ho.below t4.toBelow) (rd1 b4) (by simp; omega) (Nat.le_trans hsz t4.size) ?_; intro v5 w5 o5 b5 n5))
          exact ⟨key 1 false rfl (by omega) v5 w5 o5 ((t4.toBelow.mono hsz).trans b5) (n5 (.inr (by simp))), by simp [intOf]; omega⟩

        · skip
          go_wp2_with fail
          refine (at_any _ la k wr ra2 true hA).mono ?_
          rintro e w2 ⟨rfl, rfl⟩
          go_wp2_with fail
          refine (at_any _ lb k w2 rb2 false hBb).mono ?_
          rintro e w3 ⟨rfl, rfl⟩
          go_wp2_with (first
            | ((with_reducible refine at_build 1 ?_); refine L_b1 _ false rfl ?_; intro w4 t4 b4)
            | ((with_reducible refine at_append ?_); refine L_app _ _ w.heap.size _ _ l [false] rfl rfl (ho.below t4.toBelow) (rd1 b4) (by simp; omega) (Nat.le_trans hsz t4.size) ?_; intro v5 w5 o5 b5 n5))
          exact ⟨key 1 false rfl (by omega) v5 w5 o5 ((t4.toBelow.mono hsz).trans b5) (n5 (.inr (by simp))), by simp [intOf]; omega⟩

        · skip
          go_wp2_with fail
          refine (at_any _ la k wr ra2 true hA).mono ?_
          rintro e w2 ⟨rfl, rfl⟩
          go_wp2_with fail
          refine (at_any _ lb k w2 rb2 true hBb).mono ?_
          rintro e w3 ⟨rfl, rfl⟩
          go_wp2_with (first
            | ((with_reducible refine at_build 1 ?_); refine L_b1 _ true rfl ?_; intro w4 t4 b4)
            | ((with_reducible refine at_append ?_); refine L_app _ _ w.heap.size _ _ l [true] rfl rfl (ho.below t4.toBelow) (rd1 b4) (by simp; omega) (Nat.le_trans hsz t4.size) ?_; intro v5 w5 o5 b5 n5))
          exact ⟨key 1 true rfl (by omega) v5 w5 o5 ((t4.toBelow.mono hsz).trans b5) (n5 (.inr (by simp))), by simp [intOf]; omega⟩

      · by_cases g2 : (k : Int) < (lb.length : Int)
        · clear hgo
          rcases hc01 with rfl | rfl <;> cases A <;> cases Bb

          · skip
            go_wp2_with fail
            refine (at_any _ la k wr ra2 false hA).mono ?_
            rintro e w2 ⟨rfl, rfl⟩
            go_wp2_with fail
            refine (at_any _ lb k w2 rb2 false hBb).mono ?_
            rintro e w3 ⟨rfl, rfl⟩
            go_wp2_with (first
              | ((with_reducible refine at_build 1 ?_); refine L_b1 _ false rfl ?_; intro w4 t4 b4)
              | ((with_reducible refine at_append ?_); refine L_app _ _ w.heap.size _ _ l [false] rfl rfl (ho.below t4.toBelow) (rd1 b4) (by simp; omega) (Nat.le_trans hsz t4.size) ?_; intro v5 w5 o5 b5 n5))
            exact ⟨key 0 false rfl (by omega) v5 w5 o5 ((t4.toBelow.mono hsz).trans b5) (n5 (.inr (by simp))), by simp [intOf]; omega⟩

          · skip
            go_wp2_with fail
            refine (at_any _ la k wr ra2 false hA).mono ?_
            rintro e w2 ⟨rfl, rfl⟩
            go_wp2_with fail
            refine (at_any _ lb k w2 rb2 true hBb).mono ?_
            rintro e w3 ⟨rfl, rfl⟩
            go_wp2_with (first
              | ((with_reducible refine at_build 1 ?_); refine L_b1 _ true rfl ?_; intro w4 t4 b4)
              | ((with_reducible refine at_append ?_); refine L_app _ _ w.heap.size _ _ l [true] rfl rfl (ho.below t4.toBelow) (rd1 b4) (by simp; omega) (Nat.le_trans hsz t4.size) ?_; intro v5 w5 o5 b5 n5))
            exact ⟨key 0 true rfl (by omega) v5 w5 o5 ((t4.toBelow.mono hsz).trans b5) (n5 (.inr (by simp))), by simp [intOf]; omega⟩

          · skip
            go_wp2_with fail
            refine (at_any _ la k wr ra2 true hA).mono ?_
            rintro e w2 ⟨rfl, rfl⟩
            go_wp2_with fail
            refine (at_any _ lb k w2 rb2 false hBb).mono ?_
            rintro e w3 ⟨rfl, rfl⟩
            go_wp2_with (first
              | ((with_reducible refine at_build 1 ?_); refine L_b1 _ true rfl ?_; intro w4 t4 b4)
              | ((with_reducible refine at_append ?_); refine L_app _ _ w.heap.size _ _ l [true] rfl rfl (ho.below t4.toBelow) (rd1 b4) (by simp; omega) (Nat.le_trans hsz t4.size) ?_; intro v5 w5 o5 b5 n5))
            exact ⟨key 0 true rfl (by omega) v5 w5 o5 ((t4.toBelow.mono hsz).trans b5) (n5 (.inr (by simp))), by simp [intOf]; omega⟩

          · skip
            go_wp2_with fail
            refine (at_any _ la k wr ra2 true hA).mono ?_
            rintro e w2 ⟨rfl, rfl⟩
            go_wp2_with fail
            refine (at_any _ lb k w2 rb2 true hBb).mono ?_
            rintro e w3 ⟨rfl, rfl⟩
            go_wp2_with (first
              | ((with_reducible refine at_build 1 ?_); refine L_b1 _ false rfl ?_; intro w4 t4 b4)
              | ((with_reducible refine at_append ?_); refine L_app _ _ w.heap.size _ _ l [false] rfl rfl (ho.below t4.toBelow) (rd1 b4) (by simp; omega) (Nat.le_trans hsz t4.size) ?_; intro v5 w5 o5 b5 n5))
            exact ⟨key 1 false rfl (by omega) v5 w5 o5 ((t4.toBelow.mono hsz).trans b5) (n5 (.inr (by simp))), by simp [intOf]; omega⟩

          · skip
            go_wp2_with fail
            refine (at_any _ la k wr ra2 false hA).mono ?_
            rintro e w2 ⟨rfl, rfl⟩
            go_wp2_with fail
            refine (at_any _ lb k w2 rb2 false hBb).mono ?_
            rintro e w3 ⟨rfl, rfl⟩
            go_wp2_with (first
              | ((with_reducible refine at_build 1 ?_); refine L_b1 _ true rfl ?_; intro w4 t4 b4)
              | ((with_reducible refine at_append ?_); refine L_app _ _ w.heap.size _ _ l [true] rfl rfl (ho.below t4.toBelow) (rd1 b4) (by simp; omega) (Nat.le_trans hsz t4.size) ?_; intro v5 w5 o5 b5 n5))
            exact ⟨key 0 true rfl (by omega) v5 w5 o5 ((t4.toBelow.mono hsz).trans b5) (n5 (.inr (by simp))), by simp [intOf]; omega⟩

          · skip
            go_wp2_with fail
            refine (at_any _ la k wr ra2 false hA).mono ?_
            rintro e w2 ⟨rfl, rfl⟩
            go_wp2_with fail
            refine (at_any _ lb k w2 rb2 true hBb).mono ?_
            rintro e w3 ⟨rfl, rfl⟩
            go_wp2_with (first
              | ((with_reducible refine at_build 1 ?_); refine L_b1 _ false rfl ?_; intro w4 t4 b4)
              | ((with_reducible refine at_append ?_); refine L_app _ _ w.heap.size _ _ l [false] rfl rfl (ho.below t4.toBelow) (rd1 b4) (by simp; omega) (Nat.le_trans hsz t4.size) ?_; intro v5 w5 o5 b5 n5))
            exact ⟨key 1 false rfl (by omega) v5 w5 o5 ((t4.toBelow.mono hsz).trans b5) (n5 (.inr (by simp))), by simp [intOf]; omega⟩

          · skip
            go_wp2_with fail
            refine (at_any _ la k wr ra2 true hA).mono ?_
            rintro e w2 ⟨rfl, rfl⟩
            go_wp2_with fail
            refine (at_any _ lb k w2 rb2 false hBb).mono ?_
            rintro e w3 ⟨rfl, rfl⟩
            go_wp2_with (first
              | ((with_reducible refine at_build 1 ?_); refine L_b1 _ false rfl ?_; intro w4 t4 b4)
              | ((with_reducible refine at_append ?_); refine L_app _ _ w.heap.size _ _ l [false] rfl rfl (ho.below t4.toBelow) (rd1 b4) (by simp; omega) (Nat.le_trans hsz t4.size) ?_; intro v5 w5 o5 b5 n5))
            exact ⟨key 1 false rfl (by omega) v5 w5 o5 ((t4.toBelow.mono hsz).trans b5) (n5 (.inr (by simp))), by simp [intOf]; omega⟩

          · skip
            go_wp2_with fail
            refine (at_any _ la k wr ra2 true hA).mono ?_
            rintro e w2 ⟨rfl, rfl⟩
            go_wp2_with fail
            refine (at_any _ lb k w2 rb2 true hBb).mono ?_
            rintro e w3 ⟨rfl, rfl⟩
            go_wp2_with (first
              | ((with_reducible refine at_build 1 ?_); refine L_b1 _ true rfl ?_; intro w4 t4 b4)
              | ((with_reducible refine at_append ?_); refine L_app _ _ w.heap.size _ _ l [true] rfl rfl (ho.below t4.toBelow) (rd1 b4) (by simp; omega) (Nat.le_trans hsz t4.size) ?_; intro v5 w5 o5 b5 n5))
            exact ⟨key 1 true rfl (by omega) v5 w5 o5 ((t4.toBelow.mono hsz).trans b5) (n5 (.inr (by simp))), by simp [intOf]; omega⟩

        · obtain rfl : c = 1 := by omega
          clear hgo hc01
          cases A <;> cases Bb

          · skip
            go_wp2_with fail
            refine (at_any _ la k wr ra2 false hA).mono ?_
            rintro e w2 ⟨rfl, rfl⟩
            go_wp2_with fail
            refine (at_any _ lb k w2 rb2 false hBb).mono ?_
            rintro e w3 ⟨rfl, rfl⟩
            go_wp2_with (first
              | ((with_reducible refine at_build 1 ?_); refine L_b1 _ true rfl ?_; intro w4 t4 b4)
              | ((with_reducible refine at_append ?_); refine L_app _ _ w.heap.size _ _ l [true] rfl rfl (ho.below t4.toBelow) (rd1 b4) (by simp; omega) (Nat.le_trans hsz t4.size) ?_; intro v5 w5 o5 b5 n5))
            exact ⟨key 0 true rfl (by omega) v5 w5 o5 ((t4.toBelow.mono hsz).trans b5) (n5 (.inr (by simp))), by simp [intOf]; omega⟩

          · skip
            go_wp2_with fail
            refine (at_any _ la k wr ra2 false hA).mono ?_
            rintro e w2 ⟨rfl, rfl⟩
            go_wp2_with fail
            refine (at_any _ lb k w2 rb2 true hBb).mono ?_
            rintro e w3 ⟨rfl, rfl⟩
            go_wp2_with (first
              | ((with_reducible refine at_build 1 ?_); refine L_b1 _ false rfl ?_; intro w4 t4 b4)
              | ((with_reducible refine at_append ?_); refine L_app _ _ w.heap.size _ _ l [false] rfl rfl (ho.below t4.toBelow) (rd1 b4) (by simp; omega) (Nat.le_trans hsz t4.size) ?_; intro v5 w5 o5 b5 n5))
            exact ⟨key 1 false rfl (by omega) v5 w5 o5 ((t4.toBelow.mono hsz).trans b5) (n5 (.inr (by simp))), by simp [intOf]; omega⟩

          · skip
            go_wp2_with fail
            refine (at_any _ la k wr ra2 true hA).mono ?_
            rintro e w2 ⟨rfl, rfl⟩
            go_wp2_with fail
            refine (at_any _ lb k w2 rb2 false hBb).mono ?_
            rintro e w3 ⟨rfl, rfl⟩
            go_wp2_with (first
              | ((with_reducible refine at_build 1 ?_); refine L_b1 _ false rfl ?_; intro w4 t4 b4)
              | ((with_reducible refine at_append ?_); refine L_app _ _ w.heap.size _ _ l [false] rfl rfl (ho.below t4.toBelow) (rd1 b4) (by simp; omega) (Nat.le_trans hsz t4.size) ?_; intro v5 w5 o5 b5 n5))
            exact ⟨key 1 false rfl (by omega) v5 w5 o5 ((t4.toBelow.mono hsz).trans b5) (n5 (.inr (by simp))), by simp [intOf]; omega⟩

          · skip
            go_wp2_with fail
            refine (at_any _ la k wr ra2 true hA).mono ?_
            rintro e w2 ⟨rfl, rfl⟩
            go_wp2_with fail
            refine (at_any _ lb k w2 rb2 true hBb).mono ?_
            rintro e w3 ⟨rfl, rfl⟩
            go_wp2_with (first
              | ((with_reducible refine at_build 1 ?_); refine L_b1 _ true rfl ?_; intro w4 t4 b4)
              | ((with_reducible refine at_append ?_); refine L_app _ _ w.heap.size _ _ l [true] rfl rfl (ho.below t4.toBelow) (rd1 b4) (by simp; omega) (Nat.le_trans hsz t4.size) ?_; intro v5 w5 o5 b5 n5))
            exact ⟨key 1 true rfl (by omega) v5 w5 o5 ((t4.toBelow.mono hsz).trans b5) (n5 (.inr (by simp))), by simp [intOf]; omega⟩

    · obtain rfl : c = 0 := by omega
      have g1 : ¬ (k : Int) < (la.length : Int) := by omega
      have g2 : ¬ (k : Int) < (lb.length : Int) := by omega
      have hvv : Hid (val l = val la + val lb) := by
        have h := hv.out
        rw [List.take_of_length_le (by omega), List.take_of_length_le (by omega)] at h
        show _ = _
        omega
      have hrd := ho.rd hnn
      have hk2 : Hid (l.length ≤ m + 1) := by show _ ≤ _; omega
      clear hv hk hgo
      go_wp2_with fail
      go_ret
      exact ⟨_, rfl, ⟨l, hrd, hvv.out, hk2.out⟩, hB⟩

set_option maxRecDepth 10000 in
set_option maxHeartbeats 8000000 in
theorem greater_1 (va vb : Value) (la lb : List Bool) (w : World) (ra : Rd w va la) (rb : Rd w vb lb) (na : la.length ≤ 2000) (nb : lb.length ≤ 2000) (hlt : la.length < lb.length) (R : Int) (hR : Hid (cmpN (val la) (val lb) = R)) :
    Calls Tryd.prog 57 #[va, vb] w fun e w' => e = .returned (.int .i64 R) ∧ w' = w := by
  obtain ⟨ga, ca, spa, ea, -⟩ := id ra
  obtain ⟨gb, cb, spb, eb, -⟩ := id rb
  subst ea; subst eb
  go_enter Tryd.func57, Tryd.ntmps57
  go_wp2_with fail
  go_loop [5] (fun i => ∃ k : Nat, k ≤ lb.length ∧ i = .int .i64 ((k : Int) - 1) ∧ Hid (val (la.drop k) = val (lb.drop k))) (fun i => (intOf i + 1).toNat)
  case atStart =>
    refine ⟨lb.length, by omega, ?_, ?_⟩
    · rfl
    · show _ = _
      rw [List.drop_eq_nil_of_le (by omega), List.drop_eq_nil_of_le (by omega)]
  case round =>
    obtain ⟨k, hk, rfl, hv⟩ := hrel
    rcases k with _ | k
    · have hr : Hid (R = 0) := by
        show _ = _
        have e := hv.out
        rw [List.drop_zero, List.drop_zero] at e
        rw [← hR.out, cmpN, e]
        simp
      clear hv
      go_wp2_with fail
      go_ret
      exact ⟨by rw [hr.out]; rfl, rfl⟩
    · obtain ⟨A, hA⟩ : ∃ A, atB la k = A := ⟨_, rfl⟩
      obtain ⟨Bb, hBb⟩ : ∃ Bb, atB lb k = Bb := ⟨_, rfl⟩
      have hge : 0 ≤ ((k + 1 : Nat) : Int) - 1 := by omega
      have hke : ((k + 1 : Nat) : Int) - 1 = (k : Int) := by omega
      have hsame : A = Bb → Hid (val (la.drop k) = val (lb.drop k)) := by
        intro h
        show _ = _
        rw [val_drop la k, val_drop lb k, hA, hBb, h, hv.out]
      have hdiff : A = !Bb → Hid (R = if A then 1 else -1) := by
        intro h
        have e1 := val_split' la k; have e2 := val_split' lb k
        rw [val_drop, hA] at e1
        rw [val_drop, hBb, ← hv.out] at e2
        have l1 := val_take_lt la k; have l2 := val_take_lt lb k
        show _ = _
        rw [← hR.out, cmpN]
        generalize val (la.drop (k + 1)) = D at e1 e2
        generalize val (la.take k) = x at e1 l1
        generalize val (lb.take k) = y at e2 l2
        generalize 2 ^ k = P at e1 e2 l1 l2
        cases Bb <;> subst h <;> simp only [Bool.not_false, Bool.not_true, bit_true, bit_false, Nat.mul_add, Nat.mul_one, Nat.zero_add] at e1 e2 ⊢
        · rw [if_neg (by omega), if_pos (by omega)]; rfl
        · rw [if_pos (by omega)]; rfl
      replace hA : Hid _ := hA
      replace hBb : Hid _ := hBb
      rw [hke]
      clear hv hke hge
      cases A <;> cases Bb
      · have h := hsame rfl
        clear hsame hdiff
        go_wp2_with fail
        refine (at_any _ la k w ra false hA).mono ?_
        rintro e w2 ⟨rfl, rfl⟩
        go_wp2_with fail
        refine (at_any _ lb k w2 rb false hBb).mono ?_
        rintro e w3 ⟨rfl, rfl⟩
        go_wp2_with fail
        exact ⟨⟨k, by omega, by go_num, h⟩, by simp [intOf]⟩
      · have h := hdiff rfl
        clear hsame hdiff
        go_wp2_with fail
        refine (at_any _ la k w ra false hA).mono ?_
        rintro e w2 ⟨rfl, rfl⟩
        go_wp2_with fail
        refine (at_any _ lb k w2 rb true hBb).mono ?_
        rintro e w3 ⟨rfl, rfl⟩
        go_wp2_with fail
        refine (at_any _ la k w3 ra false hA).mono ?_
        rintro e w4 ⟨rfl, rfl⟩
        go_wp2_with fail
        go_ret
        exact ⟨by rw [h.out]; rfl, rfl⟩
      · have h := hdiff rfl
        clear hsame hdiff
        go_wp2_with fail
        refine (at_any _ la k w ra true hA).mono ?_
        rintro e w2 ⟨rfl, rfl⟩
        go_wp2_with fail
        refine (at_any _ lb k w2 rb false hBb).mono ?_
        rintro e w3 ⟨rfl, rfl⟩
        go_wp2_with fail
        refine (at_any _ la k w3 ra true hA).mono ?_
        rintro e w4 ⟨rfl, rfl⟩
        go_wp2_with fail
        go_ret
        exact ⟨by rw [h.out]; rfl, rfl⟩
      · have h := hsame rfl
        clear hsame hdiff
        go_wp2_with fail
        refine (at_any _ la k w ra true hA).mono ?_
        rintro e w2 ⟨rfl, rfl⟩
        go_wp2_with fail
        refine (at_any _ lb k w2 rb true hBb).mono ?_
        rintro e w3 ⟨rfl, rfl⟩
        go_wp2_with fail
        exact ⟨⟨k, by omega, by go_num, h⟩, by simp [intOf]⟩
set_option maxRecDepth 10000 in
set_option maxHeartbeats 8000000 in
theorem greater_2 (va vb : Value) (la lb : List Bool) (w : World) (ra : Rd w va la) (rb : Rd w vb lb) (na : la.length ≤ 2000) (nb : lb.length ≤ 2000) (hlt : ¬ la.length < lb.length) (R : Int) (hR : Hid (cmpN (val la) (val lb) = R)) :
    Calls Tryd.prog 57 #[va, vb] w fun e w' => e = .returned (.int .i64 R) ∧ w' = w := by
  obtain ⟨ga, ca, spa, ea, -⟩ := id ra
  obtain ⟨gb, cb, spb, eb, -⟩ := id rb
  subst ea; subst eb
  go_enter Tryd.func57, Tryd.ntmps57
  go_wp2_with fail
  go_loop [5] (fun i => ∃ k : Nat, k ≤ la.length ∧ i = .int .i64 ((k : Int) - 1) ∧ Hid (val (la.drop k) = val (lb.drop k))) (fun i => (intOf i + 1).toNat)
  case atStart =>
    refine ⟨la.length, by omega, ?_, ?_⟩
    · rfl
    · show _ = _
      rw [List.drop_eq_nil_of_le (by omega), List.drop_eq_nil_of_le (by omega)]
  case round =>
    obtain ⟨k, hk, rfl, hv⟩ := hrel
    rcases k with _ | k
    · have hr : Hid (R = 0) := by
        show _ = _
        have e := hv.out
        rw [List.drop_zero, List.drop_zero] at e
        rw [← hR.out, cmpN, e]
        simp
      clear hv
      go_wp2_with fail
      go_ret
      exact ⟨by rw [hr.out]; rfl, rfl⟩
    · obtain ⟨A, hA⟩ : ∃ A, atB la k = A := ⟨_, rfl⟩
      obtain ⟨Bb, hBb⟩ : ∃ Bb, atB lb k = Bb := ⟨_, rfl⟩
      have hge : 0 ≤ ((k + 1 : Nat) : Int) - 1 := by omega
      have hke : ((k + 1 : Nat) : Int) - 1 = (k : Int) := by omega
      have hsame : A = Bb → Hid (val (la.drop k) = val (lb.drop k)) := by
        intro h
        show _ = _
        rw [val_drop la k, val_drop lb k, hA, hBb, h, hv.out]
      have hdiff : A = !Bb → Hid (R = if A then 1 else -1) := by
        intro h
        have e1 := val_split' la k; have e2 := val_split' lb k
        rw [val_drop, hA] at e1
        rw [val_drop, hBb, ← hv.out] at e2
        have l1 := val_take_lt la k; have l2 := val_take_lt lb k
        show _ = _
        rw [← hR.out, cmpN]
        generalize val (la.drop (k + 1)) = D at e1 e2
        generalize val (la.take k) = x at e1 l1
        generalize val (lb.take k) = y at e2 l2
        generalize 2 ^ k = P at e1 e2 l1 l2
        cases Bb <;> subst h <;> simp only [Bool.not_false, Bool.not_true, bit_true, bit_false, Nat.mul_add, Nat.mul_one, Nat.zero_add] at e1 e2 ⊢
        · rw [if_neg (by omega), if_pos (by omega)]; rfl
        · rw [if_pos (by omega)]; rfl
      replace hA : Hid _ := hA
      replace hBb : Hid _ := hBb
      rw [hke]
      clear hv hke hge
      cases A <;> cases Bb
      · have h := hsame rfl
        clear hsame hdiff
        go_wp2_with fail
        refine (at_any _ la k w ra false hA).mono ?_
        rintro e w2 ⟨rfl, rfl⟩
        go_wp2_with fail
        refine (at_any _ lb k w2 rb false hBb).mono ?_
        rintro e w3 ⟨rfl, rfl⟩
        go_wp2_with fail
        exact ⟨⟨k, by omega, by go_num, h⟩, by simp [intOf]⟩
      · have h := hdiff rfl
        clear hsame hdiff
        go_wp2_with fail
        refine (at_any _ la k w ra false hA).mono ?_
        rintro e w2 ⟨rfl, rfl⟩
        go_wp2_with fail
        refine (at_any _ lb k w2 rb true hBb).mono ?_
        rintro e w3 ⟨rfl, rfl⟩
        go_wp2_with fail
        refine (at_any _ la k w3 ra false hA).mono ?_
        rintro e w4 ⟨rfl, rfl⟩
        go_wp2_with fail
        go_ret
        exact ⟨by rw [h.out]; rfl, rfl⟩
      · have h := hdiff rfl
        clear hsame hdiff
        go_wp2_with fail
        refine (at_any _ la k w ra true hA).mono ?_
        rintro e w2 ⟨rfl, rfl⟩
        go_wp2_with fail
        refine (at_any _ lb k w2 rb false hBb).mono ?_
        rintro e w3 ⟨rfl, rfl⟩
        go_wp2_with fail
        refine (at_any _ la k w3 ra true hA).mono ?_
        rintro e w4 ⟨rfl, rfl⟩
        go_wp2_with fail
        go_ret
        exact ⟨by rw [h.out]; rfl, rfl⟩
      · have h := hsame rfl
        clear hsame hdiff
        go_wp2_with fail
        refine (at_any _ la k w ra true hA).mono ?_
        rintro e w2 ⟨rfl, rfl⟩
        go_wp2_with fail
        refine (at_any _ lb k w2 rb true hBb).mono ?_
        rintro e w3 ⟨rfl, rfl⟩
        go_wp2_with fail
        exact ⟨⟨k, by omega, by go_num, h⟩, by simp [intOf]⟩
theorem greater_any (va vb : Value) (la lb : List Bool) (w : World) (ra : Rd w va la) (rb : Rd w vb lb) (na : la.length ≤ 2000) (nb : lb.length ≤ 2000) (R : Int) (hR : Hid (cmpN (val la) (val lb) = R)) :
    Calls Tryd.prog 57 #[va, vb] w fun e w' => e = .returned (.int .i64 R) ∧ w' = w := by
  by_cases h : la.length < lb.length
  · exact greater_1 va vb la lb w ra rb na nb h R hR
  · exact greater_2 va vb la lb w ra rb na nb h R hR
set_option maxRecDepth 10000 in
set_option maxHeartbeats 8000000 in
theorem off_any (va vb : Value) (la lb : List Bool) (w : World) (ra : Rd w va la) (rb : Rd w vb lb) (na : la.length ≤ 2000) (nb : lb.length ≤ 2000) (hle : val lb ≤ val la) :
    Calls Tryd.prog 58 #[va, vb] w fun e w' => ∃ v, e = .returned v ∧ RS w' v (val la - val lb) la.length ∧ Below w.heap.size w w' := by
  obtain ⟨ga, ca, spa, ea, -⟩ := id ra
  obtain ⟨gb, cb, spb, eb, -⟩ := id rb
  subst ea; subst eb
  replace hle : Hid _ := hle
  go_enter Tryd.func58, Tryd.ntmps58
  go_wp2_with (first
    | ((with_reducible refine at_build 0 ?_); refine L_b0 ?_; intro w1 t1 b1))
  have ho1 := own0 b1 (Nat.le_refl _)
  have hB1 : Below w.heap.size w w1 := t1.below (Below.refl _ _) (Nat.le_refl _)
  clear t1 b1
  go_loopw [5, 6, 7] (fun out cv i wr => ∃ (k c : Nat) (l : List Bool), k ≤ la.length ∧ i = .int .i64 k ∧ cv = .int .i64 c ∧ c ≤ 1 ∧ Own wr w.heap.size out l ∧ out ≠ .slice none 0 0 ∧ l.length = k ∧ Below w.heap.size w wr ∧ Hid (val l + val (lb.take k) = val (la.take k) + 2 ^ k * c)) (fun _ _ i _ => la.length - (intOf i).toNat)
  case atStart => exact ⟨0, 0, [], by omega, rfl, rfl, by omega, ho1, by simp, rfl, hB1, by show _ = _; simp [val]⟩
  case round =>
    obtain ⟨k, c, l, hk, rfl, rfl, hc, ho, hnn, hlk, hB, hv⟩ := hrel
    clear ho1 hB1
    have hsz := hB.size
    have ra2 := ra.below hB
    have rb2 := rb.below hB
    by_cases hgo : k < la.length
    · obtain ⟨A, hA⟩ : ∃ A, atB la k = A := ⟨_, rfl⟩
      obtain ⟨Bb, hBb⟩ : ∃ Bb, atB lb k = Bb := ⟨_, rfl⟩
      have key : ∀ (c' : Nat) (x : Bool), bit x + c + bit Bb = bit A + 2 * c' → c' ≤ 1 → ∀ v' w', Own w' w.heap.size v' (l ++ [x]) → Below w.heap.size wr w' → v' ≠ .slice none 0 0 →
          (∃ (k2 c2 : Nat) (l2 : List Bool), k2 ≤ la.length ∧ Value.int .i64 ((k : Int) + 1) = .int .i64 k2 ∧ Value.int .i64 c' = .int .i64 c2 ∧ c2 ≤ 1 ∧ Own w' w.heap.size v' l2 ∧ v' ≠ .slice none 0 0 ∧ l2.length = k2 ∧ Below w.heap.size w w' ∧ Hid (val l2 + val (lb.take k2) = val (la.take k2) + 2 ^ k2 * c2)) := by
        intro c' x hx hc' v' w' ho' hb' hn'
        refine ⟨k + 1, c', l ++ [x], by omega, by go_num, rfl, hc', ho', hn', by simp [hlk], hB.trans hb', ?_⟩
        show _ = _
        rw [val_snoc, val_take_succ, val_take_succ, hA, hBb, hlk, Nat.pow_succ, Nat.mul_comm (2 ^ k) 2]
        exact off_step (2 ^ k) c c' A Bb x _ _ _ hv.out hx
      replace hA : Hid _ := hA
      replace hBb : Hid _ := hBb
      clear hv
      have hgi : (k : Int) < (la.length : Int) := by omega
      have hc01 : c = 0 ∨ c = 1 := by omega
      rcases hc01 with rfl | rfl <;> cases A <;> cases Bb
      · skip
        go_wp2_with fail
        refine (at_any _ la k wr ra2 false hA).mono ?_
        rintro e w2 ⟨rfl, rfl⟩
        go_wp2_with fail
        refine (at_any _ lb k w2 rb2 false hBb).mono ?_
        rintro e w3 ⟨rfl, rfl⟩
        go_wp2_with (first
          | ((with_reducible refine at_build 1 ?_); refine L_b1 _ false rfl ?_; intro w4 t4 b4)
          | ((with_reducible refine at_append ?_); refine L_app _ _ w.heap.size _ _ l [false] rfl rfl (ho.below t4.toBelow) (rd1 b4) (by simp; omega) (Nat.le_trans hsz t4.size) ?_; intro v5 w5 o5 b5 n5))
        exact ⟨key 0 false rfl (by omega) v5 w5 o5 ((t4.toBelow.mono hsz).trans b5) (n5 (.inr (by simp))), by simp [intOf]; omega⟩
      · skip
        go_wp2_with fail
        refine (at_any _ la k wr ra2 false hA).mono ?_
        rintro e w2 ⟨rfl, rfl⟩
        go_wp2_with fail
        refine (at_any _ lb k w2 rb2 true hBb).mono ?_
        rintro e w3 ⟨rfl, rfl⟩
        go_wp2_with (first
          | ((with_reducible refine at_build 1 ?_); refine L_b1 _ true rfl ?_; intro w4 t4 b4)
          | ((with_reducible refine at_append ?_); refine L_app _ _ w.heap.size _ _ l [true] rfl rfl (ho.below t4.toBelow) (rd1 b4) (by simp; omega) (Nat.le_trans hsz t4.size) ?_; intro v5 w5 o5 b5 n5))
        exact ⟨key 1 true rfl (by omega) v5 w5 o5 ((t4.toBelow.mono hsz).trans b5) (n5 (.inr (by simp))), by simp [intOf]; omega⟩
      · skip
        go_wp2_with fail
        refine (at_any _ la k wr ra2 true hA).mono ?_
        rintro e w2 ⟨rfl, rfl⟩
        go_wp2_with fail
        refine (at_any _ lb k w2 rb2 false hBb).mono ?_
        rintro e w3 ⟨rfl, rfl⟩
        go_wp2_with (first
          | ((with_reducible refine at_build 1 ?_); refine L_b1 _ true rfl ?_; intro w4 t4 b4)
          | ((with_reducible refine at_append ?_); refine L_app _ _ w.heap.size _ _ l [true] rfl rfl (ho.below t4.toBelow) (rd1 b4) (by simp; omega) (Nat.le_trans hsz t4.size) ?_; intro v5 w5 o5 b5 n5))
        exact ⟨key 0 true rfl (by omega) v5 w5 o5 ((t4.toBelow.mono hsz).trans b5) (n5 (.inr (by simp))), by simp [intOf]; omega⟩
      · skip
        go_wp2_with fail
        refine (at_any _ la k wr ra2 true hA).mono ?_
        rintro e w2 ⟨rfl, rfl⟩
        go_wp2_with fail
        refine (at_any _ lb k w2 rb2 true hBb).mono ?_
        rintro e w3 ⟨rfl, rfl⟩
        go_wp2_with (first
          | ((with_reducible refine at_build 1 ?_); refine L_b1 _ false rfl ?_; intro w4 t4 b4)
          | ((with_reducible refine at_append ?_); refine L_app _ _ w.heap.size _ _ l [false] rfl rfl (ho.below t4.toBelow) (rd1 b4) (by simp; omega) (Nat.le_trans hsz t4.size) ?_; intro v5 w5 o5 b5 n5))
        exact ⟨key 0 false rfl (by omega) v5 w5 o5 ((t4.toBelow.mono hsz).trans b5) (n5 (.inr (by simp))), by simp [intOf]; omega⟩
      · skip
        go_wp2_with fail
        refine (at_any _ la k wr ra2 false hA).mono ?_
        rintro e w2 ⟨rfl, rfl⟩
        go_wp2_with fail
        refine (at_any _ lb k w2 rb2 false hBb).mono ?_
        rintro e w3 ⟨rfl, rfl⟩
        go_wp2_with (first
          | ((with_reducible refine at_build 1 ?_); refine L_b1 _ true rfl ?_; intro w4 t4 b4)
          | ((with_reducible refine at_append ?_); refine L_app _ _ w.heap.size _ _ l [true] rfl rfl (ho.below t4.toBelow) (rd1 b4) (by simp; omega) (Nat.le_trans hsz t4.size) ?_; intro v5 w5 o5 b5 n5))
        exact ⟨key 1 true rfl (by omega) v5 w5 o5 ((t4.toBelow.mono hsz).trans b5) (n5 (.inr (by simp))), by simp [intOf]; omega⟩
      · skip
        go_wp2_with fail
        refine (at_any _ la k wr ra2 false hA).mono ?_
        rintro e w2 ⟨rfl, rfl⟩
        go_wp2_with fail
        refine (at_any _ lb k w2 rb2 true hBb).mono ?_
        rintro e w3 ⟨rfl, rfl⟩
        go_wp2_with (first
          | ((with_reducible refine at_build 1 ?_); refine L_b1 _ false rfl ?_; intro w4 t4 b4)
          | ((with_reducible refine at_append ?_); refine L_app _ _ w.heap.size _ _ l [false] rfl rfl (ho.below t4.toBelow) (rd1 b4) (by simp; omega) (Nat.le_trans hsz t4.size) ?_; intro v5 w5 o5 b5 n5))
        exact ⟨key 1 false rfl (by omega) v5 w5 o5 ((t4.toBelow.mono hsz).trans b5) (n5 (.inr (by simp))), by simp [intOf]; omega⟩
      · skip
        go_wp2_with fail
        refine (at_any _ la k wr ra2 true hA).mono ?_
        rintro e w2 ⟨rfl, rfl⟩
        go_wp2_with fail
        refine (at_any _ lb k w2 rb2 false hBb).mono ?_
        rintro e w3 ⟨rfl, rfl⟩
        go_wp2_with (first
          | ((with_reducible refine at_build 1 ?_); refine L_b1 _ false rfl ?_; intro w4 t4 b4)
          | ((with_reducible refine at_append ?_); refine L_app _ _ w.heap.size _ _ l [false] rfl rfl (ho.below t4.toBelow) (rd1 b4) (by simp; omega) (Nat.le_trans hsz t4.size) ?_; intro v5 w5 o5 b5 n5))
        exact ⟨key 0 false rfl (by omega) v5 w5 o5 ((t4.toBelow.mono hsz).trans b5) (n5 (.inr (by simp))), by simp [intOf]; omega⟩
      · skip
        go_wp2_with fail
        refine (at_any _ la k wr ra2 true hA).mono ?_
        rintro e w2 ⟨rfl, rfl⟩
        go_wp2_with fail
        refine (at_any _ lb k w2 rb2 true hBb).mono ?_
        rintro e w3 ⟨rfl, rfl⟩
        go_wp2_with (first
          | ((with_reducible refine at_build 1 ?_); refine L_b1 _ true rfl ?_; intro w4 t4 b4)
          | ((with_reducible refine at_append ?_); refine L_app _ _ w.heap.size _ _ l [true] rfl rfl (ho.below t4.toBelow) (rd1 b4) (by simp; omega) (Nat.le_trans hsz t4.size) ?_; intro v5 w5 o5 b5 n5))
        exact ⟨key 1 true rfl (by omega) v5 w5 o5 ((t4.toBelow.mono hsz).trans b5) (n5 (.inr (by simp))), by simp [intOf]; omega⟩
    · obtain rfl : k = la.length := by omega
      have hrd := ho.rd hnn
      have hres : Hid (val l = val la - val lb) := by
        have h := hv.out
        have h1 := hle.out
        have h2 := val_lt l
        have h3 := val_lt la
        have h4 := val_split' lb la.length
        rw [List.take_length] at h
        rw [hlk] at h2
        show _ = _
        have hd : val (lb.drop la.length) = 0 := by
          apply Nat.eq_zero_of_not_pos
          intro hp
          have := Nat.mul_le_mul_left (2 ^ la.length) hp
          omega
        rw [hd, Nat.mul_zero] at h4
        have hc01 : c = 0 ∨ c = 1 := by omega
        rcases hc01 with rfl | rfl
        · omega
        · omega
      clear hv
      go_wp2_with fail
      go_ret
      exact ⟨_, rfl, ⟨l, hrd, hres.out, by omega⟩, hB⟩
end Go.Proofs.YtpenicjlpiechaaDoor.Wd
