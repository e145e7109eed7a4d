/- What the reference's off answers: a slice of its own. -/
import Derived.Test.YtpenicjlpiechaaDoorQSum
namespace Go.Proofs.YtpenicjlpiechaaDoor.Wd
set_option maxRecDepth 10000
open Go Go.RowKit
set_option linter.unusedVariables false
def RO (w : World) (B : Nat) (v : Value) (n k : Nat) : Prop := ∃ l, Own w B v l ∧ v ≠ .slice none 0 0 ∧ val l = n ∧ l.length ≤ k
set_option maxRecDepth 10000 in
set_option maxHeartbeats 8000000 in
theorem off_own (va vb : Value) (la lb : List Bool) (w : World) (ra : Rd w va la) (rb : Rd w vb lb) (na : la.length ≤ 2000) (nb : lb.length ≤ 2000) (hle : val lb ≤ val la) :
    Calls Tryd.prog 58 #[va, vb] w fun e w' => ∃ v, e = .returned v ∧ RO w' w.heap.size v (val la - val lb) la.length ∧ Below w.heap.size w w' := by
  obtain ⟨ga, ca, spa, ea, -⟩ := id ra
  obtain ⟨gb, cb, spb, eb, -⟩ := id rb
  subst ea; subst eb
  replace hle : Hid _ := hle
  go_enter Tryd.func58, Tryd.ntmps58
  go_wp2_with (first
    | ((with_reducible refine at_build 0 ?_); refine L_b0 ?_; intro w1 t1 b1))
  have ho1 := own0 b1 (Nat.le_refl _)
  have hB1 : Below w.heap.size w w1 := t1.below (Below.refl _ _) (Nat.le_refl _)
  clear t1 b1
  go_loopw [5, 6, 7] (fun out cv i wr => ∃ (k c : Nat) (l : List Bool), k ≤ la.length ∧ i = .int .i64 k ∧ cv = .int .i64 c ∧ c ≤ 1 ∧ Own wr w.heap.size out l ∧ out ≠ .slice none 0 0 ∧ l.length = k ∧ Below w.heap.size w wr ∧ Hid (val l + val (lb.take k) = val (la.take k) + 2 ^ k * c)) (fun _ _ i _ => la.length - (intOf i).toNat)
  case atStart => exact ⟨0, 0, [], by omega, rfl, rfl, by omega, ho1, by simp, rfl, hB1, by show _ = _; simp [val]⟩
  case round =>
    obtain ⟨k, c, l, hk, rfl, rfl, hc, ho, hnn, hlk, hB, hv⟩ := hrel
    clear ho1 hB1
    have hsz := hB.size
    have ra2 := ra.below hB
    have rb2 := rb.below hB
    by_cases hgo : k < la.length
    · obtain ⟨A, hA⟩ : ∃ A, atB la k = A := ⟨_, rfl⟩
      obtain ⟨Bb, hBb⟩ : ∃ Bb, atB lb k = Bb := ⟨_, rfl⟩
      have key : ∀ (c' : Nat) (x : Bool), bit x + c + bit Bb = bit A + 2 * c' → c' ≤ 1 → ∀ v' w', Own w' w.heap.size v' (l ++ [x]) → Below w.heap.size wr w' → v' ≠ .slice none 0 0 →
          (∃ (k2 c2 : Nat) (l2 : List Bool), k2 ≤ la.length ∧ Value.int .i64 ((k : Int) + 1) = .int .i64 k2 ∧ Value.int .i64 c' = .int .i64 c2 ∧ c2 ≤ 1 ∧ Own w' w.heap.size v' l2 ∧ v' ≠ .slice none 0 0 ∧ l2.length = k2 ∧ Below w.heap.size w w' ∧ Hid (val l2 + val (lb.take k2) = val (la.take k2) + 2 ^ k2 * c2)) := by
        intro c' x hx hc' v' w' ho' hb' hn'
        refine ⟨k + 1, c', l ++ [x], by omega, by go_num, rfl, hc', ho', hn', by simp [hlk], hB.trans hb', ?_⟩
        show _ = _
        rw [val_snoc, val_take_succ, val_take_succ, hA, hBb, hlk, Nat.pow_succ, Nat.mul_comm (2 ^ k) 2]
        exact off_step (2 ^ k) c c' A Bb x _ _ _ hv.out hx
      replace hA : Hid _ := hA
      replace hBb : Hid _ := hBb
      clear hv
      have hgi : (k : Int) < (la.length : Int) := by omega
      have hc01 : c = 0 ∨ c = 1 := by omega
      rcases hc01 with rfl | rfl <;> cases A <;> cases Bb
      · skip
        go_wp2_with fail
        refine (at_any _ la k wr ra2 false hA).mono ?_
        rintro e w2 ⟨rfl, rfl⟩
        go_wp2_with fail
        refine (at_any _ lb k w2 rb2 false hBb).mono ?_
        rintro e w3 ⟨rfl, rfl⟩
        go_wp2_with (first
          | ((with_reducible refine at_build 1 ?_); refine L_b1 _ false rfl ?_; intro w4 t4 b4)
          | ((with_reducible refine at_append ?_); refine L_app _ _ w.heap.size _ _ l [false] rfl rfl (ho.below t4.toBelow) (rd1 b4) (by simp; omega) (Nat.le_trans hsz t4.size) ?_; intro v5 w5 o5 b5 n5))
        exact ⟨key 0 false rfl (by omega) v5 w5 o5 ((t4.toBelow.mono hsz).trans b5) (n5 (.inr (by simp))), by simp [intOf]; omega⟩
      · skip
        go_wp2_with fail
        refine (at_any _ la k wr ra2 false hA).mono ?_
        rintro e w2 ⟨rfl, rfl⟩
        go_wp2_with fail
        refine (at_any _ lb k w2 rb2 true hBb).mono ?_
        rintro e w3 ⟨rfl, rfl⟩
        go_wp2_with (first
          | ((with_reducible refine at_build 1 ?_); refine L_b1 _ true rfl ?_; intro w4 t4 b4)
          | ((with_reducible refine at_append ?_); refine L_app _ _ w.heap.size _ _ l [true] rfl rfl (ho.below t4.toBelow) (rd1 b4) (by simp; omega) (Nat.le_trans hsz t4.size) ?_; intro v5 w5 o5 b5 n5))
        exact ⟨key 1 true rfl (by omega) v5 w5 o5 ((t4.toBelow.mono hsz).trans b5) (n5 (.inr (by simp))), by simp [intOf]; omega⟩
      · skip
        go_wp2_with fail
        refine (at_any _ la k wr ra2 true hA).mono ?_
        rintro e w2 ⟨rfl, rfl⟩
        go_wp2_with fail
        refine (at_any _ lb k w2 rb2 false hBb).mono ?_
        rintro e w3 ⟨rfl, rfl⟩
        go_wp2_with (first
          | ((with_reducible refine at_build 1 ?_); refine L_b1 _ true rfl ?_; intro w4 t4 b4)
          | ((with_reducible refine at_append ?_); refine L_app _ _ w.heap.size _ _ l [true] rfl rfl (ho.below t4.toBelow) (rd1 b4) (by simp; omega) (Nat.le_trans hsz t4.size) ?_; intro v5 w5 o5 b5 n5))
        exact ⟨key 0 true rfl (by omega) v5 w5 o5 ((t4.toBelow.mono hsz).trans b5) (n5 (.inr (by simp))), by simp [intOf]; omega⟩
      · skip
        go_wp2_with fail
        refine (at_any _ la k wr ra2 true hA).mono ?_
        rintro e w2 ⟨rfl, rfl⟩
        go_wp2_with fail
        refine (at_any _ lb k w2 rb2 true hBb).mono ?_
        rintro e w3 ⟨rfl, rfl⟩
        go_wp2_with (first
          | ((with_reducible refine at_build 1 ?_); refine L_b1 _ false rfl ?_; intro w4 t4 b4)
          | ((with_reducible refine at_append ?_); refine L_app _ _ w.heap.size _ _ l [false] rfl rfl (ho.below t4.toBelow) (rd1 b4) (by simp; omega) (Nat.le_trans hsz t4.size) ?_; intro v5 w5 o5 b5 n5))
        exact ⟨key 0 false rfl (by omega) v5 w5 o5 ((t4.toBelow.mono hsz).trans b5) (n5 (.inr (by simp))), by simp [intOf]; omega⟩
      · skip
        go_wp2_with fail
        refine (at_any _ la k wr ra2 false hA).mono ?_
        rintro e w2 ⟨rfl, rfl⟩
        go_wp2_with fail
        refine (at_any _ lb k w2 rb2 false hBb).mono ?_
        rintro e w3 ⟨rfl, rfl⟩
        go_wp2_with (first
          | ((with_reducible refine at_build 1 ?_); refine L_b1 _ true rfl ?_; intro w4 t4 b4)
          | ((with_reducible refine at_append ?_); refine L_app _ _ w.heap.size _ _ l [true] rfl rfl (ho.below t4.toBelow) (rd1 b4) (by simp; omega) (Nat.le_trans hsz t4.size) ?_; intro v5 w5 o5 b5 n5))
        exact ⟨key 1 true rfl (by omega) v5 w5 o5 ((t4.toBelow.mono hsz).trans b5) (n5 (.inr (by simp))), by simp [intOf]; omega⟩
      · skip
        go_wp2_with fail
        refine (at_any _ la k wr ra2 false hA).mono ?_
        rintro e w2 ⟨rfl, rfl⟩
        go_wp2_with fail
        refine (at_any _ lb k w2 rb2 true hBb).mono ?_
        rintro e w3 ⟨rfl, rfl⟩
        go_wp2_with (first
          | ((with_reducible refine at_build 1 ?_); refine L_b1 _ false rfl ?_; intro w4 t4 b4)
          | ((with_reducible refine at_append ?_); refine L_app _ _ w.heap.size _ _ l [false] rfl rfl (ho.below t4.toBelow) (rd1 b4) (by simp; omega) (Nat.le_trans hsz t4.size) ?_; intro v5 w5 o5 b5 n5))
        exact ⟨key 1 false rfl (by omega) v5 w5 o5 ((t4.toBelow.mono hsz).trans b5) (n5 (.inr (by simp))), by simp [intOf]; omega⟩
      · skip
        go_wp2_with fail
        refine (at_any _ la k wr ra2 true hA).mono ?_
        rintro e w2 ⟨rfl, rfl⟩
        go_wp2_with fail
        refine (at_any _ lb k w2 rb2 false hBb).mono ?_
        rintro e w3 ⟨rfl, rfl⟩
        go_wp2_with (first
          | ((with_reducible refine at_build 1 ?_); refine L_b1 _ false rfl ?_; intro w4 t4 b4)
          | ((with_reducible refine at_append ?_); refine L_app _ _ w.heap.size _ _ l [false] rfl rfl (ho.below t4.toBelow) (rd1 b4) (by simp; omega) (Nat.le_trans hsz t4.size) ?_; intro v5 w5 o5 b5 n5))
        exact ⟨key 0 false rfl (by omega) v5 w5 o5 ((t4.toBelow.mono hsz).trans b5) (n5 (.inr (by simp))), by simp [intOf]; omega⟩
      · skip
        go_wp2_with fail
        refine (at_any _ la k wr ra2 true hA).mono ?_
        rintro e w2 ⟨rfl, rfl⟩
        go_wp2_with fail
        refine (at_any _ lb k w2 rb2 true hBb).mono ?_
        rintro e w3 ⟨rfl, rfl⟩
        go_wp2_with (first
          | ((with_reducible refine at_build 1 ?_); refine L_b1 _ true rfl ?_; intro w4 t4 b4)
          | ((with_reducible refine at_append ?_); refine L_app _ _ w.heap.size _ _ l [true] rfl rfl (ho.below t4.toBelow) (rd1 b4) (by simp; omega) (Nat.le_trans hsz t4.size) ?_; intro v5 w5 o5 b5 n5))
        exact ⟨key 1 true rfl (by omega) v5 w5 o5 ((t4.toBelow.mono hsz).trans b5) (n5 (.inr (by simp))), by simp [intOf]; omega⟩
    · obtain rfl : k = la.length := by omega
      have hres : Hid (val l = val la - val lb) := by
        have h := hv.out
        have h1 := hle.out
        have h2 := val_lt l
        have h3 := val_lt la
        have h4 := val_split' lb la.length
        rw [List.take_length] at h
        rw [hlk] at h2
        show _ = _
        have hd : val (lb.drop la.length) = 0 := by
          apply Nat.eq_zero_of_not_pos
          intro hp
          have := Nat.mul_le_mul_left (2 ^ la.length) hp
          omega
        rw [hd, Nat.mul_zero] at h4
        have hc01 : c = 0 ∨ c = 1 := by omega
        rcases hc01 with rfl | rfl
        · omega
        · omega
      clear hv
      go_wp2_with fail
      go_ret
      exact ⟨_, rfl, ⟨l, ho, hnn, hres.out, by omega⟩, hB⟩
end Go.Proofs.YtpenicjlpiechaaDoor.Wd
