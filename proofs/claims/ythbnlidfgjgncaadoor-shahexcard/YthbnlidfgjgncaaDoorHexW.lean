/- ShaHex's walk: the law returns true; nothing that was there has turned. -/
import Derived.Test.YthbnlidfgjgncaaDoorAwake
import Derived.Test.YthbnlidfgjgncaaDoorBytesArg
import Derived.Laws.IdiomStrings
import Derived.OpenShut
namespace Go.Proofs.YthbnlidfgjgncaaDoor
open Go.RowKit
set_option linter.unusedVariables false
theorem conv_bytes (w : World) (s : ByteArray) : ∃ (W : World) (cap : Nat), (convert 9 43 (.string s)).run Tryd.prog w = .ok (.slice (some ⟨w.heap.size, 0, none⟩) s.size cap) W ∧
    (∀ j (h : j < s.size), W.cell? ⟨w.heap.size, j, none⟩ = some (.int .u8 (s[j].toNat : Int))) ∧ (∀ j, j < s.size → W.frozen? ⟨w.heap.size, j, none⟩ = false) ∧ Below w.heap.size w W ∧ w.heap.size < W.heap.size := by
  have hg : (w.drew.alloc (.cells (bytesRow s (grownCap w s.size 0 5)) 5 ((bytesRow s (grownCap w s.size 0 5)).size, (bytesRow s (grownCap w s.size 0 5)).size + 1))).heap[w.heap.size]? = some (.cells (bytesRow s (grownCap w s.size 0 5)) 5 ((bytesRow s (grownCap w s.size 0 5)).size, (bytesRow s (grownCap w s.size 0 5)).size + 1)) := heap_alloc_new w.drew _
  refine ⟨_, _, run_bytes_of_string w 9 43 5 s Tryd.underlying9 Tryd.underlying43 Tryd.underlying5, ?_, ?_, ((Below.refl _ _).drew).alloc (Nat.le_refl _) _, ?_⟩
  · intro j h
    rw [cell_of_row _ _ _ _ _ _ hg]
    unfold bytesRow
    have h' : j < s.data.size := h
    rw [Array.getElem?_append_left (by simpa using h')]
    rw [Array.getElem?_map, Array.getElem?_eq_getElem h']
    rfl
  · intro j h
    have : s.size ≤ (bytesRow s (grownCap w s.size 0 5)).size := by
      unfold bytesRow; simp
    simp only [World.frozen?, hg]
    simp; omega
  · show w.heap.size < (w.heap.push _).size
    simp
end Go.Proofs.YthbnlidfgjgncaaDoor
namespace Go.Proofs.YthbnlidfgjgncaaDoor.shaHex
open Go.RowKit
set_option linter.unusedVariables false
/-- A digit: 0 to 9, or a to f. -/
def Dig (v : Nat) (d : UInt8) : Prop := (v < 10 ∧ d.toNat = 48 + v) ∨ (10 ≤ v ∧ v < 16 ∧ d.toNat = 87 + v)
theorem dig_of (v : Nat) (h : v < 16) : Dig v (dgs.getD v 0) := by
  have : ∀ m, m < 16 → (m < 10 ∧ (dgs.getD m 0).toNat = 48 + m) ∨ (10 ≤ m ∧ m < 16 ∧ (dgs.getD m 0).toNat = 87 + m) := by decide
  exact this v h
theorem hexL_at (k : List UInt8) (j : Nat) (hj : j < k.length) : ((hexL k).drop (2 * j)).take 2 = hx2 (k.getD j 0) := by
  have h1 : hexL k = hexL (k.take j) ++ (hx2 (k.getD j 0) ++ hexL (k.drop (j + 1))) := by
    have e : k = k.take j ++ (k[j] :: k.drop (j + 1)) := by rw [← List.drop_eq_getElem_cons hj, List.take_append_drop]
    have e2 : k.getD j 0 = k[j] := by simp [hj]
    rw [e2, show hexL k = hexL (k.take j ++ (k[j] :: k.drop (j + 1))) from congrArg hexL e]
    simp only [hexL, List.flatMap_append, List.flatMap_cons]
  have hl : (hexL (k.take j)).length = 2 * j := by rw [hexL_length, List.length_take]; omega
  rw [h1, List.drop_append_of_le_length (by omega), List.drop_eq_nil_of_le (by omega), List.nil_append, List.take_append_of_le_length (by simp [hx2])]
  rfl
set_option maxRecDepth 100000 in
set_option maxHeartbeats 4000000 in
theorem walk (a0 : List UInt8) (w0 : a0.length = 32) (w : World) (hT : Tabs w) :
    Calls Tryd.prog 8 #[.agg (bc a0).toArray] w fun e w' => e = .returned (.bool true) ∧ Below w.heap.size w w' := by
  have hts := hT.size
  obtain ⟨H, hH⟩ : ∃ H : ByteArray, (⟨(hexL a0).toArray⟩ : ByteArray) = H := ⟨_, rfl⟩
  have hHl : H.data.toList = hexL a0 := by rw [← hH]
  have hHs : H.size = 64 := by rw [Lib.size_eq, hHl, hexL_length, w0]
  have HH : Hid ((⟨(hexL a0).toArray⟩ : ByteArray) = H) := hH
  have HHL : Hid (H.data.toList = hexL a0) := hHl
  clear hH hHl
  go_enter Tryd.func8, Tryd.ntmps8
  go_wp2_with (first
    | ((with_reducible refine at_box 24 ?_); refine L_box 24 _ (bc a0) rfl ?_; intro w1 h1 hb1))
  have hB1 : Below w.heap.size w w1 := h1.below (Below.refl _ _) (Nat.le_refl _)
  have n1 := hb1.lt
  refine (awake_any _ (hT.below hB1 hts)).mono ?_; rintro e w2 ⟨rfl, hb2⟩
  have hB2 : Below w.heap.size w w2 := hB1.trans (hb2.mono (by omega))
  have c2 := hb1.below hb2 n1
  have n2 := c2.lt
  go_wp2_with (first
    | ((with_reducible refine at_load 24 ?_); refine L_load_all 24 _ w.heap.size _ 24 _ rfl c2 Tryd.underlying24 rfl (zk24 a0 w0) ?_))
  refine (hex_any a0 w0 w2).mono ?_
  rw [HH.out]
  rintro e w3 ⟨rfl, hb3⟩
  have hB3 : Below w.heap.size w w3 := hB2.trans (hb3.mono (by omega))
  have c3 := c2.below hb3 n2
  clear hb1 hb2 hb3 c2 hB1 hB2 h1
  go_wp2_with fail
  go_loopw [15] (fun i wr => ∃ j : Nat, j ≤ 32 ∧ i = .int .i64 j ∧ Blk wr w.heap.size (bc a0) 24 ∧ Below w.heap.size w wr) (fun i _ => 32 - (intOf i).toNat)
  case atStart => exact ⟨0, by omega, rfl, c3, hB3⟩
  case round =>
    clear c3 hB3
    obtain ⟨j, hj, rfl, c3, hbw⟩ := hrel
    by_cases hlt : j < 32
    · obtain ⟨b, hb⟩ : ∃ b, a0.getD j 0 = b := ⟨_, rfl⟩
      have hcb := c3.cell j _ (bc_at a0 j (by omega))
      rw [hb] at hcb
      have hbt := b.toNat_lt
      obtain ⟨hi, hhi⟩ : ∃ hi, b.toNat / 16 = hi := ⟨_, rfl⟩
      obtain ⟨lo, hlo⟩ : ∃ lo, b.toNat % 16 = lo := ⟨_, rfl⟩
      have hbn : b.toNat = 16 * hi + lo := by omega
      have g1 := dig_of hi (by omega)
      have g2 := dig_of lo (by omega)
      obtain ⟨E, hE⟩ : ∃ E, H.extract (2 * j) (2 * j + 2) = E := ⟨_, rfl⟩
      have hEl : E.data.toList = [dgs.getD hi 0, dgs.getD lo 0] := by
        rw [← hE, Lib.extract_data, HHL.out, show 2 * j + 2 - 2 * j = 2 by omega, hexL_at a0 j (by omega), hb, hx2, hhi, hlo]
      generalize dgs.getD hi 0 = d1 at *
      generalize dgs.getD lo 0 = d2 at *
      have hEs : E.size = 2 := by rw [Lib.size_eq, hEl]; rfl
      obtain ⟨W, cap, hcv, hcells, _, hbel, hWlt⟩ := conv_bytes wr E
      have q0 : W.cell? ⟨wr.heap.size, 0, none⟩ = some (.int .u8 (d1.toNat : Int)) := by
        rw [hcells 0 (by omega)]
        have : E.data.toList[0]? = some d1 := by rw [hEl]; rfl
        rw [show E[0]'(by omega) = d1 from by
          have h2 : E.data.toList[0]? = some (E[0]'(by omega)) := List.getElem?_eq_getElem (by rw [← Lib.size_eq]; omega)
          rw [h2] at this; exact Option.some.inj this]
      have q1 : W.cell? ⟨wr.heap.size, 1, none⟩ = some (.int .u8 (d2.toNat : Int)) := by
        rw [hcells 1 (by omega)]
        have : E.data.toList[1]? = some d2 := by rw [hEl]; rfl
        rw [show E[1]'(by omega) = d2 from by
          have h2 : E.data.toList[1]? = some (E[1]'(by omega)) := List.getElem?_eq_getElem (by rw [← Lib.size_eq]; omega)
          rw [h2] at this; exact Option.some.inj this]
      rw [hEs] at hcv
      have hcb2 : W.cell? ⟨w.heap.size, j, none⟩ = some (.int .u8 (b.toNat : Int)) := (hbel.cell (p := ⟨w.heap.size, j, none⟩) c3.lt).trans hcb
      have c4 := c3.below hbel c3.lt
      have hB4 : Below w.heap.size w W := hbw.trans (hbel.mono (by have := c3.lt; omega))
      have HE : Hid (H.extract (2 * j) (2 * j + 2) = E) := hE
      have G1 : Hid (Dig hi d1) := g1
      have G2 : Hid (Dig lo d2) := g2
      have HBN : Hid (b.toNat = 16 * hi + lo) := hbn
      have hhi2 : hi < 16 := by omega
      have hlo2 : lo < 16 := by omega
      clear hb hhi hlo g1 g2 hEl hcells hcb hbel hEs hbn
      go_wp2_with fail
      go_loop [5, 27] (fun n i => ∃ q m : Nat, i = .int .i64 q ∧ n = .int .i64 m ∧ ((q = 0 ∧ m = 0) ∨ (q = 1 ∧ m = hi) ∨ (q = 2 ∧ m = 16 * hi + lo))) (fun _ i => 2 - (intOf i).toNat)
      case atStart => exact ⟨0, 0, rfl, rfl, .inl ⟨rfl, rfl⟩⟩
      case round =>
        obtain ⟨q, m, rfl, rfl, hq⟩ := hrel
        rcases hq with ⟨rfl, rfl⟩ | ⟨rfl, hm⟩ | ⟨rfl, rfl⟩
        · rcases G1.out with ⟨h10, hd1⟩ | ⟨h10, h16, hd1⟩
          · have hd1' : (d1.toNat : Int) = 48 + (hi : Int) := by omega
            clear hd1
            go_wp2_with fail
            refine ⟨⟨_, _, _, _, ⟨1, rfl, hi, ?_, .inr (.inl ⟨rfl, rfl⟩)⟩, rfl, rfl, rfl, rfl⟩, by simp [intOf]⟩
            exact congrArg _ (by omega)
          · have hd1' : (d1.toNat : Int) = 87 + (hi : Int) := by omega
            clear hd1
            go_wp2_with fail
            refine ⟨⟨_, _, _, _, ⟨1, rfl, hi, ?_, .inr (.inl ⟨rfl, rfl⟩)⟩, rfl, rfl, rfl, rfl⟩, by simp [intOf]⟩
            exact congrArg _ (by omega)
        · have hm2 := hm.symm
          subst hm2
          rcases G2.out with ⟨h10, hd1⟩ | ⟨h10, h16, hd1⟩
          · have hd1' : (d2.toNat : Int) = 48 + (lo : Int) := by omega
            clear hd1
            go_wp2_with fail
            refine ⟨⟨_, _, _, _, ⟨2, rfl, 16 * hi + lo, ?_, .inr (.inr ⟨rfl, rfl⟩)⟩, rfl, rfl, rfl, rfl⟩, by simp [intOf]⟩
            exact congrArg _ (by omega)
          · have hd1' : (d2.toNat : Int) = 87 + (lo : Int) := by omega
            clear hd1
            go_wp2_with fail
            refine ⟨⟨_, _, _, _, ⟨2, rfl, 16 * hi + lo, ?_, .inr (.inr ⟨rfl, rfl⟩)⟩, rfl, rfl, rfl, rfl⟩, by simp [intOf]⟩
            exact congrArg _ (by omega)
        · have hbi : (b.toNat : Int) = 16 * (hi : Int) + (lo : Int) := by have := HBN.out; omega
          go_wp2_with fail
          exact ⟨⟨j + 1, by omega, by go_num, c4, hB4⟩, by simp [intOf]; omega⟩
    · have hd : decide ((j : Int) < 32) = false := by simp; omega
      go_wp2_with fail
      go_ret
      exact ⟨rfl, hbw⟩
end Go.Proofs.YthbnlidfgjgncaaDoor.shaHex
