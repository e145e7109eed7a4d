/- Slices with room of their own, in memory as a list of parts, and appending to one of them. Over any program. -/
import Derived.Test.YtpkjocibgmjhdaaSep
import Derived.Test.YtpkjocibgmjhdaaGives
import Derived.Laws.AppendOwn
namespace Go.Proofs.Ytpkjocibgmjhdaa
open Go Go.RowKit
set_option linter.unusedVariables false
/-- The slice v of n elements, of so many cells each, holds the cells xs. -/
def row (e : TypeId) (size : Nat) (v : Value) (n : Nat) (xs : List Value) : HP :=
  ex fun x : Option (Nat × Nat × List Value) => match x with
    | none => [pu (v = .slice none 0 0 ∧ n = 0 ∧ xs = [])]
    | some (g, cap, cs) => [pu (v = .slice (some ⟨g, 0, none⟩) n cap ∧ xs.length = n * size ∧ n ≤ cap ∧ cap ≤ maxLen ∧ cap * size ≤ cs.length ∧ cs.take (n * size) = xs), blk g cs e]
section
variable {P : Program} {w0 w : World} {R : List HP} {e : TypeId} {size : Nat} {v : Value} {n : Nat} {xs : List Value}
theorem row_nil (h : Ms w0 w R) : Ms w0 w (row e size (.slice none 0 0) 0 [] :: R) :=
  Ms.shut (none : Option (Nat × Nat × List Value)) (Ms.mkpu ⟨rfl, rfl, rfl⟩ h)
theorem row_mk {g cap : Nat} {cs : List Value} (h : Ms w0 w (blk g cs e :: R)) (hl : xs.length = n * size) (h1 : n ≤ cap) (h2 : cap ≤ maxLen) (h3 : cap * size ≤ cs.length) (h4 : cs.take (n * size) = xs) :
    Ms w0 w (row e size (.slice (some ⟨g, 0, none⟩) n cap) n xs :: R) :=
  Ms.shut (some (g, cap, cs)) (Ms.mkpu ⟨rfl, hl, h1, h2, h3, h4⟩ h)
theorem row_slice (h : Ms w0 w (row e size v n xs :: R)) : ∃ ao cap, v = .slice ao n cap ∧ n ≤ cap ∧ xs.length = n * size := by
  obtain ⟨x, h⟩ := h.opn
  cases x with
  | none =>
    obtain ⟨⟨rfl, rfl, rfl⟩, _⟩ := h.unpu
    exact ⟨none, 0, rfl, Nat.le_refl _, by simp⟩
  | some x =>
    obtain ⟨⟨rfl, hl, h1, _⟩, _⟩ := h.unpu
    exact ⟨_, _, rfl, h1, hl⟩
theorem row_one (h : Ms w0 w (row e size v n xs :: R)) : v.cells = #[v] ∧ v.oneCell' = true := by
  obtain ⟨ao, cap, rfl, _⟩ := row_slice h
  exact ⟨rfl, rfl⟩
theorem row_at (h : Ms w0 w (row e size v n xs :: R)) (hn : 0 < n) : ∃ g cap cs, v = .slice (some ⟨g, 0, none⟩) n cap ∧ Ms w0 w (blk g cs e :: R) ∧ xs.length = n * size ∧ n ≤ cap ∧ cap ≤ maxLen ∧ cap * size ≤ cs.length ∧ cs.take (n * size) = xs := by
  obtain ⟨x, h⟩ := h.opn
  cases x with
  | none =>
    obtain ⟨⟨rfl, rfl, rfl⟩, _⟩ := h.unpu
    omega
  | some x =>
    obtain ⟨⟨rfl, hl, h1, h2, h3, h4⟩, h5⟩ := h.unpu
    exact ⟨_, _, _, rfl, h5, hl, h1, h2, h3, h4⟩
/-- An element's cells. -/
theorem row_cells {cs : List Value} (h4 : cs.take (n * size) = xs) (j : Nat) (hj : j < n) : (cs.drop (j * size)).take size = (xs.drop (j * size)).take size := by
  have h1 : (j + 1) * size ≤ n * size := Nat.mul_le_mul_right _ hj
  rw [Nat.add_mul, Nat.one_mul] at h1
  rw [← h4, List.drop_take, List.take_take, Nat.min_eq_left (by omega)]
theorem run_app_row (t ty : TypeId) (i : TypeInfo) (z : Value) (bytes : Nat) (ht : P.underlying t = some (.slice e)) (hi : P.info? e = some i) (hz : i.zero = some z) (hsize : i.size = size) (hby : i.bytes = bytes) (hzs : z.cells.size = size)
    (h : Ms w0 w (row e size v n xs :: R)) (b c : Nat) (news : List Value) (hl : news.length = size) (hnews : ∀ j u, news[j]? = some u → w.cell? ((⟨b, 0, none⟩ : Addr).add j) = some u) (h1 : ∀ u ∈ news, u.oneCell' = true)
    (hbytes : (n + 1) * bytes ≤ 140737488355328) (hmx : n + 1 ≤ 100000) :
    ∃ v' w', (Builtin.append_ #[t, t] ty #[v, .slice (some ⟨b, 0, none⟩) 1 c]).run P w = .ok v' w' ∧ Ms w0 w' (row e size v' (n + 1) (xs ++ news) :: R) := by
  subst hsize
  subst hby
  have hmm : (n + 1) * i.size = n * i.size + i.size := by rw [Nat.add_mul, Nat.one_mul]
  have hl1 : news.length = 1 * i.size := by omega
  have hzc : ∀ k, (Builtin.zeroCells z.cells k).toList.length = k * i.size := fun k => by rw [Array.length_toList, size_zeroCells, hzs]
  have hcm : ∀ old, grownCap w (n + 1) old e ≤ maxLen := fun old => grownCap_le_maxLen w (n + 1) old e (by unfold maxLen; omega)
  obtain ⟨x, h⟩ := h.opn
  cases x with
  | none =>
    obtain ⟨⟨rfl, rfl, rfl⟩, h8⟩ := h.unpu
    replace h8 : Ms w0 w R := h8
    have hr := run_append_nil (P := P) w t ty e i z ht hi hz ⟨b, 0, none⟩ 1 c news hl1 hnews (by omega) (by omega) (by omega)
    obtain ⟨h2, h3⟩ := turn_alloc w.drew (news ++ (Builtin.zeroCells z.cells (grownCap w 1 0 e - 1)).toList) e
    have e1 : (news ++ (Builtin.zeroCells z.cells (grownCap w 1 0 e - 1)).toList).toArray = news.toArray ++ Builtin.zeroCells z.cells (grownCap w 1 0 e - 1) := by simp
    rw [e1] at h2 h3
    have hge := grownCap_ge w 1 0 e
    have hcl : (news ++ (Builtin.zeroCells z.cells (grownCap w 1 0 e - 1)).toList).length = grownCap w 1 0 e * i.size := by
      rw [List.length_append, hzc, hl1, ← Nat.add_mul]; congr 1; omega
    have hcm0 := hcm 0
    rw [Nat.zero_add] at hcm0
    refine ⟨_, _, hr, row_mk (h8.drew.new h2 h3) (by simpa using hl1) (by omega) hcm0 (by rw [hcl]; exact Nat.le_refl _) ?_⟩
    rw [List.nil_append, List.take_left' hl1]
  | some x =>
    obtain ⟨g, cap, cs⟩ := x
    obtain ⟨⟨rfl, hx, h2, h3, h4, h5⟩, h8⟩ := h.unpu
    replace h8 : Ms w0 w (blk g cs e :: R) := h8
    have hg := h8.get 0 rfl
    by_cases hroom : n + 1 ≤ cap
    · have hfit : n * i.size + news.length ≤ cs.toArray.size := by
        have : (n + 1) * i.size ≤ cap * i.size := Nat.mul_le_mul_right _ hroom
        rw [List.size_toArray]; omega
      have hr := run_append_room (P := P) w t ty e i ht hi g n cap cs.toArray hg ⟨b, 0, none⟩ 1 c news hl1 hnews h1 hroom hfit
      have hlt := hg.lt
      have hT : Turn g w (w.setRow g (cs.take (n * i.size) ++ news ++ cs.drop (n * i.size + news.length)).toArray) := ⟨rfl, rfl, rfl, by simp, fun k hk => setRow_other w g k _ hk⟩
      have hB : Blk (w.setRow g (cs.take (n * i.size) ++ news ++ cs.drop (n * i.size + news.length)).toArray) g (cs.take (n * i.size) ++ news ++ cs.drop (n * i.size + news.length)) e := setRow_heap w g cs.toArray _ e _ hg
      refine ⟨_, _, hr, row_mk (h8.turn hT hB) ?_ hroom h3 ?_ ?_⟩
      · rw [List.length_append, hx, hl, hmm]
      · rw [List.size_toArray] at hfit
        simp only [List.length_append, List.length_take, List.length_drop]
        omega
      · rw [h5, hmm, List.take_left']
        rw [List.length_append, hx, hl]
    · have hcn : cap = n := by omega
      have holds : ∀ j u, xs[j]? = some u → w.cell? ((⟨g, 0, none⟩ : Addr).add j) = some u := fun j u hu => by
        rw [Addr.add_mid, Nat.zero_add]
        refine hg.cell j u ?_
        rw [← h5, List.getElem?_take] at hu
        split at hu
        · exact hu
        · cases hu
      have hr := run_append_grow (P := P) w t ty e i z ht hi hz ⟨g, 0, none⟩ n cap xs hx holds ⟨b, 0, none⟩ 1 c news hl1 hnews (by omega) (by omega) (growslice_fits (by omega) hbytes)
      obtain ⟨h6, h7⟩ := turn_alloc w.drew (xs ++ news ++ (Builtin.zeroCells z.cells (grownCap w (n + 1) cap e - (n + 1))).toList) e
      have e1 : (xs ++ news ++ (Builtin.zeroCells z.cells (grownCap w (n + 1) cap e - (n + 1))).toList).toArray = xs.toArray ++ news.toArray ++ Builtin.zeroCells z.cells (grownCap w (n + 1) cap e - (n + 1)) := by simp
      rw [e1] at h6 h7
      have hge := grownCap_ge w (n + 1) cap e
      have hcl : (xs ++ news ++ (Builtin.zeroCells z.cells (grownCap w (n + 1) cap e - (n + 1))).toList).length = grownCap w (n + 1) cap e * i.size := by
        rw [List.length_append, List.length_append, hzc, hl, hx, ← hmm, ← Nat.add_mul]; congr 1; omega
      refine ⟨_, _, hr, row_mk (h8.tail.drew.new h6 h7) (by rw [List.length_append, hx, hl, hmm]) hge (hcm cap) (by rw [hcl]; exact Nat.le_refl _) ?_⟩
      rw [List.take_left']
      rw [List.length_append, hx, hl, hmm]
/-- 's[:c:c]' of a slice. -/
theorem row_cut {ao : Option Addr} {cap : Nat} (h : Ms w0 w (row e size (.slice ao n cap) n xs :: R)) (c : Nat) (hc : c ≤ n) : Ms w0 w (row e size (.slice ao c c) c (xs.take (c * size)) :: R) := by
  obtain ⟨x, h⟩ := h.opn
  cases x with
  | none =>
    obtain ⟨⟨hv, hn, hx⟩, h8⟩ := h.unpu
    replace h8 : Ms w0 w R := h8
    cases hv
    obtain rfl : c = 0 := by omega
    subst hx
    rw [List.take_nil]; exact row_nil h8
  | some x =>
    obtain ⟨g, cap', cs⟩ := x
    obtain ⟨⟨hv, hl, h1, h2, h3, h4⟩, h8⟩ := h.unpu
    replace h8 : Ms w0 w (blk g cs e :: R) := h8
    cases hv
    have hcn : c * size ≤ n * size := Nat.mul_le_mul_right _ hc
    have hnc : n * size ≤ cap * size := Nat.mul_le_mul_right _ h1
    refine row_mk h8 (by rw [List.length_take, hl]; omega) (Nat.le_refl _) (by omega) (by omega) ?_
    rw [← h4, List.take_take, Nat.min_eq_left hcn]
end
section
variable {P : Program} {w0 w : World} {R : List HP} {a : Act} {K : Value → World → Prop} {dst : Option Tmp} {ty : TypeId} {pos : String} {aft : Array Edge} {gd : Option (Nat × Bool)}
theorem g_apR (x y : Operand) (t e : TypeId) (size : Nat) (i : TypeInfo) (z : Value) (bytes : Nat) (ht : P.underlying t = some (.slice e)) (hi : P.info? e = some i) (hz : i.zero = some z) (hsize : i.size = size) (hby : i.bytes = bytes) (hzs : z.cells.size = size)
    (v : Value) (n : Nat) (xs : List Value) (b c : Nat) (news : List Value) (bt : TypeId) (hx : a.eval x = v) (hy : a.eval y = .slice (some ⟨b, 0, none⟩) 1 c) (h : Ms w0 w (row e size v n xs :: blk b news bt :: R)) (hl : news.length = size) (h1 : ∀ u ∈ news, u.oneCell' = true)
    (hbytes : (n + 1) * bytes ≤ 140737488355328) (hmx : n + 1 ≤ 100000) (hk : ∀ v' w', Ms w0 w' (row e size v' (n + 1) (xs ++ news) :: blk b news bt :: R) → K v' w') :
    gives P ⟨dst, .call { callee := .builtin .append, args := #[x, y], argTypes := #[t, t] }, ty, pos, aft, gd⟩ a w K := by
  have hb : Blk w b news bt := h.get 1 rfl
  obtain ⟨v', w', hr, h2⟩ := run_app_row (P := P) t ty i z bytes ht hi hz hsize hby hzs h b c news hl (fun j u hu => by rw [Addr.add_mid, Nat.zero_add]; exact hb.cell j u hu) h1 hbytes hmx
  exact g_val v' w' (by simp only [execOp, resolve, invoke, builtin, Sem.run_bind, Sem.run_pure, Result.andThen_ok, List.map_toArray, List.map_cons, List.map_nil, hx, hy, hr]) (hk _ _ h2)
end
end Go.Proofs.Ytpkjocibgmjhdaa
