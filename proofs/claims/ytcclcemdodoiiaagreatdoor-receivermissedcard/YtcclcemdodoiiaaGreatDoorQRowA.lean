/- A row behind a row, and rows of things. -/
import Derived.Test.YtcclcemdodoiiaaGreatDoorQRunG
import Derived.Test.YtcclcemdodoiiaaGreatDoorQIvs
namespace Go.Proofs.YtcclcemdodoiiaaGreatDoor
set_option maxRecDepth 10000
open Go Go.RowKit
set_option linter.unusedVariables false
set_option linter.unusedSimpArgs false

section
variable {P : Program} {w0 w : World} {R : List HP} {e : TypeId} {size : Nat} {v : Value} {n : Nat} {xs : List Value}
theorem run_app_rows (t ty : TypeId) (i : TypeInfo) (z : Value) (bytes : Nat) (ht : P.underlying t = some (.slice e)) (hi : P.info? e = some i) (hz : i.zero = some z) (hsize : i.size = size) (hby : i.bytes = bytes) (hzs : z.cells.size = size)
    (h : Ms w0 w (row e size v n xs :: R)) (b c : Nat) (news : List Value) (m : Nat) (hm0 : 0 < m) (hl : news.length = m * size) (hnews : ∀ j u, news[j]? = some u → w.cell? ((⟨b, 0, none⟩ : Addr).add j) = some u) (h1 : ∀ u ∈ news, u.oneCell' = true)
    (hbytes : (n + m) * bytes ≤ 140737488355328) (hmx : n + m ≤ 100000) :
    ∃ v' w', (Builtin.append_ #[t, t] ty #[v, .slice (some ⟨b, 0, none⟩) m c]).run P w = .ok v' w' ∧ Ms w0 w' (row e size v' (n + m) (xs ++ news) :: R) := by
  subst hsize
  subst hby
  have hmm : (n + m) * i.size = n * i.size + m * i.size := Nat.add_mul _ _ _
  have hl1 : news.length = m * i.size := hl
  have hzc : ∀ k, (Builtin.zeroCells z.cells k).toList.length = k * i.size := fun k => by rw [Array.length_toList, size_zeroCells, hzs]
  have hcm : ∀ old, grownCap w (n + m) old e ≤ maxLen := fun old => grownCap_le_maxLen w (n + m) old e (by unfold maxLen; omega)
  obtain ⟨x, h⟩ := h.opn
  cases x with
  | none =>
    obtain ⟨⟨rfl, rfl, rfl⟩, h8⟩ := h.unpu
    replace h8 : Ms w0 w R := h8
    simp only [Nat.zero_add, List.nil_append] at hbytes hcm ⊢
    have hr := run_append_nil (P := P) w t ty e i z ht hi hz ⟨b, 0, none⟩ m c news hl1 hnews (by omega) (by omega) (by omega)
    obtain ⟨h2, h3⟩ := turn_alloc w.drew (news ++ (Builtin.zeroCells z.cells (grownCap w m 0 e - m)).toList) e
    have e1 : (news ++ (Builtin.zeroCells z.cells (grownCap w m 0 e - m)).toList).toArray = news.toArray ++ Builtin.zeroCells z.cells (grownCap w m 0 e - m) := by simp
    rw [e1] at h2 h3
    have hge := grownCap_ge w m 0 e
    have hcl : (news ++ (Builtin.zeroCells z.cells (grownCap w m 0 e - m)).toList).length = grownCap w m 0 e * i.size := by
      rw [List.length_append, hzc, hl1, ← Nat.add_mul]; congr 1; omega
    have hcm0 := hcm 0
    refine ⟨_, _, hr, row_mk (h8.drew.new h2 h3) hl1 (by omega) hcm0 (by rw [hcl]; exact Nat.le_refl _) ?_⟩
    rw [List.take_left' hl1]
  | some x =>
    obtain ⟨g, cap, cs⟩ := x
    obtain ⟨⟨rfl, hx, h2, h3, h4, h5⟩, h8⟩ := h.unpu
    replace h8 : Ms w0 w (blk g cs e :: R) := h8
    have hg := h8.get 0 rfl
    by_cases hroom : n + m ≤ cap
    · have hfit : n * i.size + news.length ≤ cs.toArray.size := by
        have : (n + m) * i.size ≤ cap * i.size := Nat.mul_le_mul_right _ hroom
        rw [List.size_toArray]; omega
      have hr := run_append_room (P := P) w t ty e i ht hi g n cap cs.toArray hg ⟨b, 0, none⟩ m c news hl1 hnews h1 hroom hfit
      have hlt := hg.lt
      have hT : Turn g w (w.setRow g (cs.take (n * i.size) ++ news ++ cs.drop (n * i.size + news.length)).toArray) := ⟨rfl, rfl, rfl, by simp, fun k hk => setRow_other w g k _ hk⟩
      have hB : Blk (w.setRow g (cs.take (n * i.size) ++ news ++ cs.drop (n * i.size + news.length)).toArray) g (cs.take (n * i.size) ++ news ++ cs.drop (n * i.size + news.length)) e := setRow_heap w g cs.toArray _ e _ hg
      refine ⟨_, _, hr, row_mk (h8.turn hT hB) ?_ hroom h3 ?_ ?_⟩
      · rw [List.length_append, hx, hl, hmm]
      · rw [List.size_toArray] at hfit
        simp only [List.length_append, List.length_take, List.length_drop]
        omega
      · rw [h5, hmm, List.take_left']
        rw [List.length_append, hx, hl]
    · have holds : ∀ j u, xs[j]? = some u → w.cell? ((⟨g, 0, none⟩ : Addr).add j) = some u := fun j u hu => by
        rw [Addr.add_mid, Nat.zero_add]
        refine hg.cell j u ?_
        rw [← h5, List.getElem?_take] at hu
        split at hu
        · exact hu
        · cases hu
      have hr := run_append_grow (P := P) w t ty e i z ht hi hz ⟨g, 0, none⟩ n cap xs hx holds ⟨b, 0, none⟩ m c news hl1 hnews (by omega) (by omega) (growslice_fits (by omega) hbytes)
      obtain ⟨h6, h7⟩ := turn_alloc w.drew (xs ++ news ++ (Builtin.zeroCells z.cells (grownCap w (n + m) cap e - (n + m))).toList) e
      have e1 : (xs ++ news ++ (Builtin.zeroCells z.cells (grownCap w (n + m) cap e - (n + m))).toList).toArray = xs.toArray ++ news.toArray ++ Builtin.zeroCells z.cells (grownCap w (n + m) cap e - (n + m)) := by simp
      rw [e1] at h6 h7
      have hge := grownCap_ge w (n + m) cap e
      have hcl : (xs ++ news ++ (Builtin.zeroCells z.cells (grownCap w (n + m) cap e - (n + m))).toList).length = grownCap w (n + m) cap e * i.size := by
        rw [List.length_append, List.length_append, hzc, hl, hx, ← hmm, ← Nat.add_mul]; congr 1; omega
      refine ⟨_, _, hr, row_mk (h8.tail.drew.new h6 h7) (by rw [List.length_append, hx, hl, hmm]) hge (hcm cap) (by rw [hcl]; exact Nat.le_refl _) ?_⟩
      rw [List.take_left']
      rw [List.length_append, hx, hl, hmm]
theorem run_app_zero {w : World} (t ty e : TypeId) (i : TypeInfo) (ht : P.underlying t = some (.slice e)) (hi : P.info? e = some i) (g : Nat) (ao : Option Addr) (n cap c : Nat) (h : n ≤ cap) :
    (Builtin.append_ #[t, t] ty #[.slice (some ⟨g, 0, none⟩) n cap, .slice ao 0 c]).run P w = .ok (.slice (some ⟨g, 0, none⟩) n cap) w := by
  cases ao <;> simp [Builtin.append_, run_underlying ht, sizeOf, typeInfo, hi, Builtin.lenOf, Builtin.firstCells, storeCells, loadCells, loadCellsFrom, h]
theorem run_app_zero0 {w : World} (t ty e : TypeId) (i : TypeInfo) (ht : P.underlying t = some (.slice e)) (hi : P.info? e = some i) (ao : Option Addr) (c : Nat) :
    (Builtin.append_ #[t, t] ty #[.slice none 0 0, .slice ao 0 c]).run P w = .ok (.slice none 0 0) w := by
  cases ao <;> simp [Builtin.append_, run_underlying ht, sizeOf, typeInfo, hi, Builtin.lenOf, Builtin.firstCells, storeCells, loadCells, loadCellsFrom]
theorem g_arR {a : Act} {dst : Option Tmp} {ty : TypeId} {pos : String} {aft : Array Edge} {gd : Option (Nat × Bool)} {K : Value → World → Prop} (x y : Operand) (t e : TypeId) (size : Nat) (i : TypeInfo) (z : Value) (bytes : Nat) (ht : P.underlying t = some (.slice e)) (hi : P.info? e = some i) (hz : i.zero = some z) (hsize : i.size = size) (hby : i.bytes = bytes) (hzs : z.cells.size = size)
    (v : Value) (n : Nat) (xs : List Value) (u : Value) (m : Nat) (ys : List Value) (hx : a.eval x = v) (hy : a.eval y = u) (h : Ms w0 w (row e size v n xs :: row e size u m ys :: R)) (h1 : ∀ z ∈ ys, z.oneCell' = true)
    (hbytes : (n + m) * bytes ≤ 140737488355328) (hmx : n + m ≤ 100000) (hk : ∀ v' w', Ms w0 w' (row e size v' (n + m) (xs ++ ys) :: row e size u m ys :: R) → K v' w') :
    gives P ⟨dst, .call { callee := .builtin .append, args := #[x, y], argTypes := #[t, t] }, ty, pos, aft, gd⟩ a w K := by
  by_cases hm : m = 0
  · subst hm
    obtain ⟨ao, c, rfl, _, hl⟩ := row_slice (h.up 1 rfl)
    obtain rfl : ys = [] := List.eq_nil_of_length_eq_zero (by simpa using hl)
    obtain ⟨bo, cap, rfl, hnc, hl2⟩ := row_slice h
    have hr : (Builtin.append_ #[t, t] ty #[.slice bo n cap, .slice ao 0 c]).run P w = .ok (.slice bo n cap) w := by
      by_cases hn : n = 0
      · subst hn
        obtain ⟨x', h'⟩ := h.opn
        cases x' with
        | none =>
          obtain ⟨⟨e1, _, _⟩, _⟩ := h'.unpu
          cases e1
          exact run_app_zero0 t ty e i ht hi ao c
        | some x' =>
          obtain ⟨⟨e1, _⟩, _⟩ := h'.unpu
          cases e1
          exact run_app_zero t ty e i ht hi _ ao _ _ c (Nat.zero_le _)
      · obtain ⟨g, cap', cs, e1, _⟩ := row_at h (by omega)
        cases e1
        exact run_app_zero t ty e i ht hi g ao n cap c hnc
    refine g_val (.slice bo n cap) w (by simp only [execOp, resolve, invoke, builtin, Sem.run_bind, Sem.run_pure, Result.andThen_ok, List.map_toArray, List.map_cons, List.map_nil, hx, hy, hr]) (hk _ _ ?_)
    simpa using h
  · obtain ⟨g, c, rfl, hs⟩ := row_sl (h.up 1 rfl) (by omega)
    obtain ⟨_, _, _, _, hl⟩ := row_slice (h.up 1 rfl)
    obtain ⟨v', w', hr, h2⟩ := run_app_rows (P := P) t ty i z bytes ht hi hz hsize hby hzs h g c ys m (by omega) hl (fun j u hu => by rw [Addr.add_mid, Nat.zero_add]; exact sl_cell hs j u hu) h1 hbytes hmx
    exact g_val v' w' (by simp only [execOp, resolve, invoke, builtin, Sem.run_bind, Sem.run_pure, Result.andThen_ok, List.map_toArray, List.map_cons, List.map_nil, hx, hy, hr]) (hk _ _ h2)
end
theorem one_tcs (L : List Thg) : ∀ z ∈ tcs L, z.oneCell' = true := by
  intro z hz
  obtain ⟨t, _, h⟩ := List.mem_flatMap.1 hz
  simp only [tc, List.mem_cons, List.not_mem_nil, or_false] at h
  rcases h with rfl | rfl <;> rfl
section
variable {a : Act} {w0 w : World} {R : List HP} {dst : Option Tmp} {ty : TypeId} {pos : String} {aft : Array Edge} {gd : Option (Nat × Bool)} {K : Value → World → Prop}
/-- append(v, u...): things behind things. -/
theorem g_arH (x y : Operand) (v : Value) (n : Nat) (L : List Thg) (u : Value) (m : Nat) (M : List Thg) (hx : a.eval x = v) (hy : a.eval y = u) (h : Ms w0 w (row 73 2 v n (tcs L) :: row 73 2 u m (tcs M) :: R)) (hmx : n + m ≤ 100000) (hk : ∀ v' w', Ms w0 w' (row 73 2 v' (n + m) (tcs (L ++ M)) :: row 73 2 u m (tcs M) :: R) → K v' w') :
    gives Tryz.prog ⟨dst, .call { callee := .builtin .append, args := #[x, y], argTypes := #[43, 43] }, ty, pos, aft, gd⟩ a w K := by
  obtain ⟨i, z, h2, h3, h4, h5, h6⟩ := inf73
  exact g_arR x y 43 73 2 i z _ Tryz.underlying43 h2 h3 h4 h5 h6 v n (tcs L) u m (tcs M) hx hy h (one_tcs M) (by omega) hmx (fun v' w' h7 => hk v' w' (by rw [show tcs (L ++ M) = tcs L ++ tcs M from List.flatMap_append]; exact h7))
/-- append(v, t): a thing behind things. -/
theorem g_apT1 (x y : Operand) (v : Value) (n : Nat) (L : List Thg) (b c : Nat) (t : Thg) (hx : a.eval x = v) (hy : a.eval y = .slice (some ⟨b, 0, none⟩) 1 c) (h : Ms w0 w (row 73 2 v n (tcs L) :: blk b (tc t) 73 :: R))
    (hmx : n + 1 ≤ 100000) (hk : ∀ v' w', Ms w0 w' (row 73 2 v' (n + 1) (tcs (L ++ [t])) :: blk b (tc t) 73 :: R) → K v' w') :
    gives Tryz.prog ⟨dst, .call { callee := .builtin .append, args := #[x, y], argTypes := #[43, 43] }, ty, pos, aft, gd⟩ a w K :=
  g_apH x y v n (tcs L) b c (tc t) 73 hx hy h rfl (by simp [tc, Value.oneCell']) hmx (fun v' w' h7 => hk v' w' (by rw [show tcs (L ++ [t]) = tcs L ++ tc t by unfold tcs; rw [List.flatMap_append]; simp]; exact h7))
end
end Go.Proofs.YtcclcemdodoiiaaGreatDoor
