/- What the program's sha.spread answers. What the program's sha.through answers. What the program's sha.New and More answer. -/
import Derived.Test.YtpenicjlpiechaaDoorQShaMath
import Derived.Laws.IdiomStrings
import Derived.Laws.BitsAllLaws
import Derived.Deep.WholeRow
import Derived.Lib.Strings
namespace Go.Proofs.YtpenicjlpiechaaDoor
set_option maxRecDepth 10000
open Go.RowKit
set_option linter.unusedVariables false
theorem size132 : (Tryd.prog.info? 132).map (·.size) = some 64 := by kernel_rfl
theorem size144 : (Tryd.prog.info? 144).map (·.size) = some 64 := by kernel_rfl
theorem zero144 (w : World) : (zeroValue 144).run Tryd.prog w = .ok (.agg (c32 (List.replicate 64 0)).toArray) w := Tryd.zeroValue144 w
theorem xor32 (a b : BitVec 32) : bits .xor .u32 (a.toNat : Int) (b.toNat : Int) = ((xr a b).toNat : Int) := by
  rw [u32_xor_nat _ _ a.isLt b.isLt, xr, BitVec.toNat_xor]
theorem left_rl (N : BitVec 32) (k : Int) (w : World) :
    Calls Tryd.prog 94 #[.int .u32 N.toNat, .int .i64 k] w fun e w' => e = .returned (.int .u32 (rl N k).toNat) ∧ w' = w := left_any N k w
theorem shr3 (a : BitVec 32) : (a.toNat : Int) / 8 = ((sr a 3).toNat : Int) := by
  rw [sr, BitVec.toNat_ushiftRight, Nat.shiftRight_eq_div_pow]; omega
theorem shr10 (a : BitVec 32) : (a.toNat : Int) / 1024 = ((sr a 10).toNat : Int) := by
  rw [sr, BitVec.toNat_ushiftRight, Nat.shiftRight_eq_div_pow]; omega
/-- The bytes of a slice that lies in a block of bytes, as a text. -/
theorem blk_string {w : World} {b o n cap : Nat} {cs : List Value} {t : TypeId} (h : Blk w b cs t) (l : List UInt8) (hl : l.length = n) (hc : (cs.drop o).take n = bc l) :
    (convert 48 9 (.slice (some ⟨b, o, none⟩) n cap)).run Tryd.prog w = .ok (.string ⟨l.toArray⟩) w := by
  subst hl
  refine run_convert_bytes_back w 48 9 5 _ cap l Tryd.underlying48 Tryd.underlying5 Tryd.underlying9 (fun j hj => ?_)
  rw [Addr.add_mid, h.at]
  have e := congrArg (fun l => l[j]?) hc
  simp only [List.getElem?_take, hj, if_true, List.getElem?_drop] at e
  rw [e]; simp [bc, hj]
theorem bc_part (l : List UInt8) (o n : Nat) : ((bc l).drop o).take n = bc ((l.drop o).take n) := by simp [bc, List.map_drop, List.map_take]
/-- What spread has laid after k rounds of its first loop, and after k rounds of both. -/
def lay1 (b : List UInt8) (k : Nat) : List (BitVec 32) := w16 b k ++ List.replicate (64 - k) 0
def lay2 (b : List UInt8) (k : Nat) : List (BitVec 32) := growW k (w16 b 16) ++ List.replicate (48 - k) 0
theorem lay1_step (b : List UInt8) (k : Nat) (hk : k < 64) (x : BitVec 32) (hx : x = wd ((b.drop (4 * k)).take 4)) : (lay1 b k).set k x = lay1 b (k + 1) := by
  rw [lay1, lay1, List.set_append_right _ _ (by rw [w16_length]; omega), w16_length, Nat.sub_self, show 64 - k = (64 - (k + 1)) + 1 by omega, List.replicate_succ, List.set_cons_zero, w16, hx]
  simp
theorem lay1_end (b : List UInt8) : lay1 b 16 = lay2 b 0 := rfl
theorem lay2_length (b : List UInt8) (k : Nat) (hk : k ≤ 48) : (lay2 b k).length = 64 := by
  rw [lay2, List.length_append, growW_length, w16_length, List.length_replicate]; omega
theorem lay2_at (b : List UInt8) (k i : Nat) (hi : i < 16 + k) : (lay2 b k).getD i 0 = (growW k (w16 b 16)).getD i 0 := by
  simp only [lay2, List.getD_eq_getElem?_getD]
  rw [List.getElem?_append_left (by rw [growW_length, w16_length]; omega)]
theorem lay2_step (b : List UInt8) (k : Nat) (hk : k < 48) (x : BitVec 32) (hx : x = nextW (growW k (w16 b 16))) : (lay2 b k).set (16 + k) x = lay2 b (k + 1) := by
  have hl : (growW k (w16 b 16)).length = 16 + k := by rw [growW_length, w16_length]
  rw [lay2, lay2, List.set_append_right _ _ (by omega), hl, Nat.sub_self, show 48 - k = (48 - (k + 1)) + 1 by omega, List.replicate_succ, List.set_cons_zero, growW_snoc, hx]
  simp
theorem lay2_end (b : List UInt8) : lay2 b 48 = spr b := by simp [lay2, spr]
theorem next_is (b : List UInt8) (k : Nat) (p q r s : BitVec 32) (hp : p = (lay2 b k).getD k 0) (hq : q = (lay2 b k).getD (1 + k) 0) (hr : r = (lay2 b k).getD (9 + k) 0) (hs : s = (lay2 b k).getD (14 + k) 0) :
    ad (ad (ad p (sx q)) r) (sy s) = nextW (growW k (w16 b 16)) := by
  have hl : (growW k (w16 b 16)).length = 16 + k := by rw [growW_length, w16_length]
  rw [lay2_at _ _ _ (by omega)] at hp hq hr hs
  rw [nextW, hl, hp, hq, hr, hs, show 16 + k - 16 = k by omega, show 16 + k - 15 = 1 + k by omega, show 16 + k - 7 = 9 + k by omega, show 16 + k - 2 = 14 + k by omega]
set_option maxRecDepth 100000 in
set_option maxHeartbeats 400000 in
theorem spread_any (b : List UInt8) (hb : b.length = 64) (w : World) :
    Calls Tryd.prog 93 #[.agg (bc b).toArray] w fun e w' => e = .returned (.agg (c32 (spr b)).toArray) ∧ Below w.heap.size w w' := by
  go_enter Tryd.func93, Tryd.ntmps93
  go_wp2_with (first
    | ((with_reducible refine at_box 132 ?_); refine L_box 132 _ (bc b) rfl ?_; intro w1 h1 hb1)
    | ((with_reducible refine at_alloc 144 ?_); refine L_alloc 144 _ zero144 ?_; first | (have _ := h2; intro w3 h3 hb3) | intro w2 h2 hb2))
  have hB2 : Below w.heap.size w w2 := h2.below (h1.below (Below.refl _ _) (Nat.le_refl _)) h1.size
  have hB : Below w.heap.size w w3 := h3.below hB2 hB2.size
  have n1 : w.heap.size < w1.heap.size := hb1.lt
  have n2 : w1.heap.size < w2.heap.size := hb2.lt
  have b1 := h3.blk (h2.blk hb1 (by omega)) (by omega)
  have b2 := h3.blk hb2 (by omega)
  clear h1 h2 h3 hb1 hb2 hB2
  go_loopw [12] (fun i wr => ∃ k : Nat, k ≤ 16 ∧ i = .int .i64 k ∧ Blk wr w.heap.size (bc b) 132 ∧ Blk wr w1.heap.size (c32 (List.replicate 64 0)) 144 ∧ Blk wr w2.heap.size (c32 (lay1 b k)) 144 ∧ Below w.heap.size w wr) (fun i _ => 16 - (intOf i).toNat)
  case atStart => exact ⟨0, by omega, rfl, b1, b2, hb3, hB⟩
  case round =>
    clear b1 b2 hb3 hB
    obtain ⟨k, hk, rfl, b1, b2, b3, hbw⟩ := hrel
    by_cases hlt : k < 16
    · have hlp : ((b.drop (4 * k)).take 4).length = 4 := by simp; omega
      obtain ⟨p, hp⟩ : ∃ p, (b.drop (4 * k)).take 4 = p := ⟨_, rfl⟩
      have hsl : (Instr.sliceAt 132 (.pointer (some ⟨w.heap.size, 0, none⟩)) (some (.int .i64 (4 * (k : Int)))) (some (.int .i64 (4 * (k : Int) + 4))) none).run Tryd.prog wr = .ok (.slice (some ⟨w.heap.size, 4 * k, none⟩) 4 (64 - 4 * k)) wr := by
        have h := run_slice_lh wr w.heap.size 0 64 (4 * k) (4 * k + 4) (4 * (k : Int)) (4 * (k : Int) + 4) 132 5 Tryd.underlying132 Tryd.sizeOf5 (by omega) (by omega) (by omega) (by omega) (by omega)
        rwa [Nat.zero_add, show 4 * k + 4 - 4 * k = 4 by omega] at h
      have hcv := blk_string (o := 4 * k) (n := 4) (cap := 64 - 4 * k) b1 p (by rw [← hp]; exact hlp) (by rw [bc_part, hp])
      have hw : ((num p : Nat) : Int) % 4294967296 = ((wd p).toNat : Int) := by
        rw [wd, BitVec.toNat_ofNat]; omega
      have hst : Hid ((lay1 b k).set k (wd p) = lay1 b (k + 1)) := lay1_step b k (by omega) _ (by rw [hp])
      have hps : Hid ((⟨p.toArray⟩ : ByteArray).size ≤ 8) := by show p.toArray.size ≤ 8; rw [List.size_toArray, ← hp, hlp]; decide
      have hf := b3.frozen k
      obtain ⟨v, hv⟩ : ∃ v, wr.cell? ⟨w2.heap.size, k, none⟩ = some v := by
        rw [b3.at]; exact ⟨_, List.getElem?_eq_getElem (by rw [c32_length, lay1, List.length_append, w16_length, List.length_replicate]; omega)⟩
      clear hp hlp
      go_wp2_with fail
      refine (take_any ⟨p.toArray⟩ _ hps.out).mono ?_; rintro e w' ⟨rfl, hw'⟩; obtain rfl := hw'.symm; clear hw'
      go_wp2_with fail
      go_roundw
      case rel =>
        obtain ⟨t1, t2⟩ := turn_setCell wr w2.heap.size k (.int .u32 ((wd p).toNat : Int)) _ 144 b3
        refine ⟨k + 1, by omega, by go_num, t1.blk b1 (by omega), t1.blk b2 (by omega), ?_, t1.below hbw (by omega)⟩
        rw [c32_set, hst.out] at t2
        exact t2
      case measure => simp [intOf]; omega
    · have b3 : Blk wr w2.heap.size (c32 (lay2 b 0)) 144 := by
        rw [← lay1_end, show 16 = k by omega]; exact b3
      have hxor := xor32
      have hadd := add32
      have hs3 := shr3
      have hs10 := shr10
      have hd : decide ((k : Int) < 16) = false := by simp; omega
      go_wp2_with fail
      clear hk hlt hd
      go_loopw [7] (fun i wr => ∃ m : Nat, 16 ≤ m ∧ m ≤ 64 ∧ i = .int .i64 m ∧ Blk wr w1.heap.size (c32 (List.replicate 64 0)) 144 ∧ Blk wr w2.heap.size (c32 (lay2 b (m - 16))) 144 ∧ Below w.heap.size w wr) (fun i _ => 64 - (intOf i).toNat)
      case atStart => exact ⟨16, by omega, by omega, rfl, b2, b3, hbw⟩
      case round =>
        clear b1 b2 b3 hbw
        obtain ⟨m, hm1, hm2, rfl, b2, b3, hbw⟩ := hrel
        by_cases hlt : m < 64
        · have hl := lay2_length b (m - 16) (by omega)
          have c1 := b3.cell (m - 15) _ (c32_at _ (m - 15) (by omega))
          have c2 := b3.cell (m - 2) _ (c32_at _ (m - 2) (by omega))
          have c3 := b3.cell (m - 16) _ (c32_at _ (m - 16) (by omega))
          have c4 := b3.cell (m - 7) _ (c32_at _ (m - 7) (by omega))
          have c5 := b3.cell m _ (c32_at _ m (by omega))
          have hf := b3.frozen m
          have hnx : Hid (ad (ad (ad ((lay2 b (m - 16)).getD (m - 16) 0) (sx ((lay2 b (m - 16)).getD (m - 15) 0))) ((lay2 b (m - 16)).getD (m - 7) 0)) (sy ((lay2 b (m - 16)).getD (m - 2) 0)) = nextW (growW (m - 16) (w16 b 16))) :=
            next_is b (m - 16) _ _ _ _ rfl (by rw [show 1 + (m - 16) = m - 15 by omega]) (by rw [show 9 + (m - 16) = m - 7 by omega]) (by rw [show 14 + (m - 16) = m - 2 by omega])
          generalize (lay2 b (m - 16)).getD (m - 15) 0 = q at *
          generalize (lay2 b (m - 16)).getD (m - 2) 0 = r at *
          generalize (lay2 b (m - 16)).getD (m - 16) 0 = p at *
          generalize (lay2 b (m - 16)).getD (m - 7) 0 = z at *
          have hst : Hid ((lay2 b (m - 16)).set m (ad (ad (ad p (sx q)) z) (sy r)) = lay2 b (m + 1 - 16)) := by
            have h := lay2_step b (m - 16) (by omega) _ hnx.out
            rw [show 16 + (m - 16) = m by omega, show m - 16 + 1 = m + 1 - 16 by omega] at h
            exact h
          clear hnx hl
          have i1 : (0 : Int) ≤ (m : Int) - 15 := by omega
          have i2 : (m : Int) - 15 < 64 := by omega
          have i3 : (0 : Int) ≤ (m : Int) - 2 := by omega
          have i4 : (m : Int) - 2 < 64 := by omega
          have i5 : (0 : Int) ≤ (m : Int) - 16 := by omega
          have i6 : (m : Int) - 16 < 64 := by omega
          have i7 : (0 : Int) ≤ (m : Int) - 7 := by omega
          have i8 : (m : Int) - 7 < 64 := by omega
          have i9 : (m : Int) < 64 := by omega
          go_wp2_with fail
          go_region
          go_wp2_with (go_at_call 94; refine (left_rl _ _ _).mono ?_; rintro e w' ⟨rfl, rfl⟩)
          go_region
          go_wp2_with fail
          go_roundw
          case rel =>
            obtain ⟨t1, t2⟩ := turn_setCell wr.drew.drew w2.heap.size m (.int .u32 ((ad (ad (ad p (sx q)) z) (sy r)).toNat : Int)) _ 144 b3.drew.drew
            refine ⟨m + 1, by omega, by omega, by go_num, t1.blk b2.drew.drew (by omega), ?_, t1.below hbw.drew.drew (by omega)⟩
            rw [c32_set, hst.out] at t2
            exact t2
          case measure => simp [intOf]; omega
        · obtain rfl : m = 64 := by omega
          rw [lay2_end] at b3
          have hl8 : (c32 (spr b)).length = 64 := by rw [c32_length, spr_length]
          have hz : Hid ((Tryd.prog.info? 144).map (·.size) = some (c32 (spr b)).length) := by rw [hl8]; exact size144
          have HL : Hid ((c32 (spr b)).length = (c32 (List.replicate 64 0)).length) := by rw [hl8]; rfl
          clear hl8
          go_wp2_with (first
            | ((with_reducible refine at_load 144 ?_); refine L_load_all 144 _ w2.heap.size _ 144 _ rfl b3 Tryd.underlying144 rfl hz.out ?_)
            | ((with_reducible refine at_store 144 ?_); refine L_store_all 144 _ _ w1.heap.size (c32 (spr b)) _ 144 rfl rfl b2 hz.out HL.out (c32_one _) ?_; intro w4 h4 hb4))
          (try simp only [Exit.inBlock, Exit.then])
          refine bodyPost_ret (results_blk rfl w1.heap.size (c32 (spr b)) _ rfl hb4 Tryd.underlying144 rfl hz.out) rfl ⟨rfl, h4.below hbw (by omega)⟩
end Go.Proofs.YtpenicjlpiechaaDoor
namespace Go.Proofs.YtpenicjlpiechaaDoor
set_option maxRecDepth 10000
open Go.RowKit
set_option linter.unusedVariables false
theorem and32 (a b : BitVec 32) : bits .and .u32 (a.toNat : Int) (b.toNat : Int) = ((an a b).toNat : Int) := by
  rw [u32_and_nat _ _ a.isLt b.isLt, an, BitVec.toNat_and]
theorem not32 (a : BitVec 32) : bits .xor .u32 (if IntKind.u32.signed = true then -1 else IntKind.u32.max) (a.toNat : Int) = ((nt a).toNat : Int) := by
  have e : nt a = BitVec.allOnes 32 ^^^ a := by
    apply BitVec.eq_of_getLsbD_eq
    intro i hi
    simp only [nt, BitVec.getLsbD_not, BitVec.getLsbD_xor, BitVec.getLsbD_allOnes, hi, decide_true, Bool.true_and, Bool.true_xor]
  have e2 : (if IntKind.u32.signed = true then (-1 : Int) else IntKind.u32.max) = ((4294967295 : Nat) : Int) := by decide
  rw [e2, u32_xor_nat _ _ (by decide) a.isLt, e, BitVec.toNat_xor]
  rfl
/-- What through has laid after k rounds of its second loop. -/
def prw (g l : List (BitVec 32)) (k : Nat) : List (BitVec 32) := (List.zipWith ad g l).take k ++ g.drop k
theorem prw_length (g l : List (BitVec 32)) (k : Nat) (hg : g.length = 8) (hl : l.length = 8) (hk : k ≤ 8) : (prw g l k).length = 8 := by
  simp [prw, hg, hl]; omega
theorem prw_at (g l : List (BitVec 32)) (k : Nat) (hg : g.length = 8) (hl : l.length = 8) (hk : k < 8) : (prw g l k).getD k 0 = g.getD k 0 := by
  simp only [prw, List.getD_eq_getElem?_getD]
  rw [List.getElem?_append_right (by simp; omega)]
  simp [show k - min k 8 = 0 by omega, hg, hl]
theorem prw_step (g l : List (BitVec 32)) (k : Nat) (hg : g.length = 8) (hl : l.length = 8) (hk : k < 8) : (prw g l k).set k (ad (g.getD k 0) (l.getD k 0)) = prw g l (k + 1) := by
  have h1 : (List.zipWith ad g l).length = 8 := by simp [hg, hl]
  have e : ad (g.getD k 0) (l.getD k 0) = (List.zipWith ad g l)[k] := by simp [hg, hl, hk]
  rw [e, prw, prw, List.set_append_right _ _ (by simp; omega), List.take_succ_eq_append_getElem (l := List.zipWith ad g l) (by omega)]
  simp only [List.length_take, h1, show k - min k 8 = 0 by omega]
  rw [List.drop_eq_getElem_cons (by omega), List.set_cons_zero, List.append_assoc, List.singleton_append]
theorem prw_end (g l : List (BitVec 32)) (hg : g.length = 8) (hl : l.length = 8) : prw g l 8 = List.zipWith ad g l := by
  rw [prw, List.take_of_length_le (by simp [hg, hl]), List.drop_eq_nil_of_le (by omega), List.append_nil]
set_option maxRecDepth 100000 in
set_option maxHeartbeats 1000000 in
theorem through_any (g : List (BitVec 32)) (b : List UInt8) (hg : g.length = 8) (hb : b.length = 64) (w : World) (hT : Tabs w) :
    Calls Tryd.prog 90 #[.agg (c32 g).toArray, .agg (bc b).toArray] w fun e w' => e = .returned (.agg (c32 (thr g b)).toArray) ∧ Below w.heap.size w w' := by
  have hts := hT.size
  have hzg : Hid ((Tryd.prog.info? 134).map (·.size) = some (c32 g).length) := by show _ = _; rw [c32_length, hg]; exact size134
  have hzr : Hid ((Tryd.prog.info? 134).map (·.size) = some (c32 (reach g)).length) := by show _ = _; rw [c32_length, reach_length g hg]; exact size134
  have hzr' : Hid ((c32 (reach g)).length = (c32 (List.replicate 8 0)).length) := by show _ = _; rw [c32_length, reach_length g hg]; rfl
  have hzb : Hid ((Tryd.prog.info? 132).map (·.size) = some (bc b).length) := by show _ = _; rw [bc_length, hb]; exact size132
  go_enter Tryd.func90, Tryd.ntmps90
  go_wp2_with (first
    | ((with_reducible refine at_box 134 ?_); refine L_box 134 _ (c32 g) rfl ?_; intro w1 h1 hb1)
    | ((with_reducible refine at_box 132 ?_); refine L_box 132 _ (bc b) rfl ?_; intro w2 h2 hb2)
    | ((with_reducible refine at_alloc 134 ?_); refine L_alloc 134 _ zero134 ?_; intro w3 h3 hb3)
    | ((with_reducible refine at_load 134 ?_); refine L_load_all 134 _ w.heap.size _ 134 _ rfl (h3.blk (h2.blk hb1 (by have := hb1.lt; omega)) (by have := hb1.lt; have := h2.size; omega)) Tryd.underlying134 rfl hzg.out ?_))
  have n1 : w.heap.size < w1.heap.size := hb1.lt
  have n2 : w1.heap.size < w2.heap.size := hb2.lt
  have n3 : w2.heap.size < w3.heap.size := hb3.lt
  have b1 := h3.blk (h2.blk hb1 (by omega)) (by omega)
  have b2 := h3.blk hb2 (by omega)
  have hB2 : Below w.heap.size w w2 := h2.below (h1.below (Below.refl _ _) (Nat.le_refl _)) h1.size
  have hB3 : Below w.heap.size w w3 := h3.below hB2 hB2.size
  clear h1 h2 h3 hb1 hb2 hB2
  refine (reached_any g hg w3 (hT.below hB3 hts)).mono ?_; rintro e w4 ⟨rfl, hb4⟩
  have c1 := b1.below hb4 (by omega)
  have c2 := b2.below hb4 (by omega)
  have c3 := hb3.below hb4 (by omega)
  have n4 : w3.heap.size ≤ w4.heap.size := hb4.size
  have hB4 : Below w.heap.size w w4 := hB3.trans (hb4.mono (by omega))
  clear b1 b2 hb3 hB3 hb4
  go_wp2_with (first
    | ((with_reducible refine at_alloc 134 ?_); refine L_alloc 134 _ zero134 ?_; intro w5 h5 hb5)
    | ((with_reducible refine at_store 134 ?_); refine L_store_all 134 _ _ w4.heap.size (c32 (reach g)) _ 134 rfl rfl hb5 hzr.out hzr'.out (c32_one _) ?_; intro w6 h6 hb6))
  have hB5 : Below w.heap.size w w5 := h5.below hB4 (by omega)
  have hB6 : Below w.heap.size w w6 := h6.below hB5 (by omega)
  have d1 := h6.blk (h5.blk c1 (by omega)) (by omega)
  have d2 := h6.blk (h5.blk c2 (by omega)) (by omega)
  have d3 := h6.blk (h5.blk c3 (by omega)) (by omega)
  have n6 : w4.heap.size < w6.heap.size := hb6.lt
  have hrl := reach_length g hg
  have r0 := hb6.cell 0 _ (c32_at _ 0 (by omega))
  have r1 := hb6.cell 1 _ (c32_at _ 1 (by omega))
  have r2 := hb6.cell 2 _ (c32_at _ 2 (by omega))
  have r3 := hb6.cell 3 _ (c32_at _ 3 (by omega))
  have r4 := hb6.cell 4 _ (c32_at _ 4 (by omega))
  have r5 := hb6.cell 5 _ (c32_at _ 5 (by omega))
  have r6 := hb6.cell 6 _ (c32_at _ 6 (by omega))
  have r7 := hb6.cell 7 _ (c32_at _ 7 (by omega))
  clear c1 c2 c3 h5 h6 hb5 hb6 hB4 hB5 hrl
  obtain ⟨s0, hs0⟩ : ∃ s0, R8.of (reach g) = s0 := ⟨_, rfl⟩
  have e0 : (reach g).getD 0 0 = s0.a := by rw [← hs0]; rfl
  have e1 : (reach g).getD 1 0 = s0.b := by rw [← hs0]; rfl
  have e2 : (reach g).getD 2 0 = s0.c := by rw [← hs0]; rfl
  have e3 : (reach g).getD 3 0 = s0.d := by rw [← hs0]; rfl
  have e4 : (reach g).getD 4 0 = s0.e := by rw [← hs0]; rfl
  have e5 : (reach g).getD 5 0 = s0.f := by rw [← hs0]; rfl
  have e6 : (reach g).getD 6 0 = s0.g := by rw [← hs0]; rfl
  have e7 : (reach g).getD 7 0 = s0.h := by rw [← hs0]; rfl
  rw [e0] at r0; rw [e1] at r1; rw [e2] at r2; rw [e3] at r3; rw [e4] at r4; rw [e5] at r5; rw [e6] at r6; rw [e7] at r7
  have HS : Hid (R8.of (reach g) = s0) := hs0
  clear e0 e1 e2 e3 e4 e5 e6 e7 hs0
  go_quiet (fail)
  clear r0 r1 r2 r3 r4 r5 r6 r7
  go_wp2_with (first
    | ((with_reducible refine at_load 132 ?_); refine L_load_all 132 _ w1.heap.size _ 132 _ rfl (show Blk (w6.drewN nq) w1.heap.size (bc b) 132 from d2) Tryd.underlying132 rfl hzb.out ?_))
  refine (spread_any b hb _).mono ?_; rintro e w7 ⟨rfl, hb7⟩
  have hb7 : Below w6.heap.size w6 w7 := ⟨hb7.os, hb7.tape, hb7.output, hb7.size, hb7.block⟩
  have c1 := d1.below hb7 (by omega)
  have c3 := d3.below hb7 (by omega)
  have hB7 : Below w.heap.size w w7 := hB6.trans (hb7.mono (by omega))
  clear d1 d2 d3 hb7 hB6
  have hxor := xor32
  have hadd := add32
  have hand := and32
  have hnot := not32
  obtain ⟨W, hW⟩ : ∃ W, spr b = W := ⟨_, rfl⟩
  have hWl : Hid (W.length = 64) := by show _ = _; rw [← hW]; exact spr_length b
  rw [hW]
  have HW : Hid (spr b = W) := hW
  clear hW
  go_wp2_with fail
  go_loopw [6, 7, 8, 9, 10, 11, 12, 13, 40] (fun v6 v7 v8 v9 v10 v11 v12 v13 i wr => ∃ (k : Nat) (s : R8), k ≤ 64 ∧ i = .int .i64 k ∧ v6 = .int .u32 s.a.toNat ∧ v7 = .int .u32 s.b.toNat ∧ v8 = .int .u32 s.c.toNat ∧ v9 = .int .u32 s.d.toNat ∧ v10 = .int .u32 s.e.toNat ∧ v11 = .int .u32 s.f.toNat ∧ v12 = .int .u32 s.g.toNat ∧ v13 = .int .u32 s.h.toNat ∧ Hid (s = rnd W s0 k) ∧ Blk wr w.heap.size (c32 g) 134 ∧ Blk wr w2.heap.size (c32 (List.replicate 8 0)) 134 ∧ Below w.heap.size w wr) (fun _ _ _ _ _ _ _ _ i _ => 64 - (intOf i).toNat)
  case atStart => exact ⟨0, s0, by omega, rfl, rfl, rfl, rfl, rfl, rfl, rfl, rfl, rfl, rfl, c1, c3, hB7⟩
  case round =>
    clear c1 c3 hB7
    obtain ⟨k, s, hk, rfl, rfl, rfl, rfl, rfl, rfl, rfl, rfl, rfl, hs, c1, c3, hbw⟩ := hrel
    by_cases hlt : k < 64
    · have hx := c32_at W k (by have := hWl.out; omega)
      have hkk := (hT.below hbw hts).k k hlt
      have hs' : Hid (stp s (kon.getD k 0) (W.getD k 0) = rnd W s0 (k + 1)) := by show _ = _; rw [rnd, ← hs.out]
      generalize kon.getD k 0 = kk at *
      generalize W.getD k 0 = ww at *
      have i9 : (k : Int) < 64 := by omega
      have hix := run_index_arr wr 144 56 64 k k _ _ Tryd.underlying144 Tryd.isAgg56 Tryd.sizeOf56 rfl hlt hx
      clear hx
      go_wp2_with fail
      go_quiet ((go_at_call 94; exact Calls.quiet_of_same (left_rl _ _ _)))
      go_wp2_with (go_at_call 94; refine (left_rl _ _ _).mono ?_; rintro e w' ⟨rfl, rfl⟩)
      exact ⟨⟨k + 1, stp s kk ww, by omega, by go_num, congrArg _ (add32 _ _), rfl, rfl, rfl, congrArg _ (add32 _ _), rfl, rfl, rfl, hs', c1, c3, ⟨hbw.os, hbw.tape, hbw.output, hbw.size, hbw.block⟩⟩, by simp [intOf]; omega⟩
    · have hd : decide ((k : Int) < 64) = false := by simp; omega
      have hs2 : Hid (s = rnd W s0 64) := by show _ = _; rw [hs.out, show k = 64 by omega]
      clear hs
      have hfin : Hid (thr g b = List.zipWith ad g s.list) := by show _ = _; rw [thr, HW.out, HS.out, hs2.out]
      have hll : Hid (s.list.length = 8) := rfl
      have c1 : Blk wr w.heap.size (c32 (prw g s.list 0)) 134 := by simpa [prw] using c1
      go_wp2_with fail
      clear hk hlt hd hs2 hand hnot hxor
      go_loopw [111] (fun i wr => ∃ k : Nat, k ≤ 8 ∧ i = .int .i64 k ∧ Blk wr w.heap.size (c32 (prw g s.list k)) 134 ∧ Blk wr w2.heap.size (c32 (List.replicate 8 0)) 134 ∧ Below w.heap.size w wr) (fun i _ => 8 - (intOf i).toNat)
      case atStart => exact ⟨0, by omega, rfl, c1, c3, hbw⟩
      case round =>
        clear c1 c3 hbw
        obtain ⟨k, hk, rfl, c1, c3, hbw⟩ := hrel
        by_cases hlt : k < 8
        · have r1 := c1.cell k _ (c32_at _ k (by rw [prw_length g _ k hg hll.out hk]; exact hlt))
          rw [prw_at g _ k hg hll.out hlt] at r1
          have hf := c1.frozen k
          have hix : (Instr.index 134 (.agg #[.int .u32 s.a.toNat, .int .u32 s.b.toNat, .int .u32 s.c.toNat, .int .u32 s.d.toNat, .int .u32 s.e.toNat, .int .u32 s.f.toNat, .int .u32 s.g.toNat, .int .u32 s.h.toNat]) (.int .i64 k)).run Tryd.prog wr = .ok (.int .u32 (s.list.getD k 0).toNat) wr :=
            run_index_arr wr 134 56 8 k k (c32 s.list) _ Tryd.underlying134 Tryd.isAgg56 Tryd.sizeOf56 rfl hlt (c32_at _ k hlt)
          have hst : Hid ((prw g s.list k).set k (ad (g.getD k 0) (s.list.getD k 0)) = prw g s.list (k + 1)) := prw_step g _ k hg hll.out hlt
          generalize s.list.getD k 0 = y at *
          generalize g.getD k 0 = x at *
          have i9 : (k : Int) < 8 := by omega
          go_wp2_with fail
          go_roundw
          case rel =>
            obtain ⟨t1, t2⟩ := turn_setCell wr w.heap.size k (.int .u32 ((ad x y).toNat : Int)) _ 134 c1
            refine ⟨k + 1, by omega, by go_num, ?_, t1.blk c3 (by omega), t1.below hbw (by omega)⟩
            rw [c32_set, hst.out] at t2
            exact t2
          case measure => simp [intOf]; omega
        · obtain rfl : k = 8 := by omega
          rw [prw_end g _ hg hll.out, ← hfin.out] at c1
          have hl8 : (c32 (thr g b)).length = 8 := by rw [c32_length, thr_length g b hg]
          have hz : Hid ((Tryd.prog.info? 134).map (·.size) = some (c32 (thr g b)).length) := by rw [hl8]; exact size134
          have HL : Hid ((c32 (thr g b)).length = (c32 (List.replicate 8 0)).length) := by rw [hl8]; rfl
          clear hl8
          go_wp2_with (first
            | ((with_reducible refine at_load 134 ?_); refine L_load_all 134 _ w.heap.size _ 134 _ rfl c1 Tryd.underlying134 rfl hz.out ?_)
            | ((with_reducible refine at_store 134 ?_); refine L_store_all 134 _ _ w2.heap.size (c32 (thr g b)) _ 134 rfl rfl c3 hz.out HL.out (c32_one _) ?_; intro w8 h8 hb8))
          (try simp only [Exit.inBlock, Exit.then])
          refine bodyPost_ret (results_blk rfl w2.heap.size (c32 (thr g b)) _ rfl hb8 Tryd.underlying134 rfl hz.out) rfl ⟨rfl, h8.below hbw (by omega)⟩
end Go.Proofs.YtpenicjlpiechaaDoor
namespace Go.Proofs.YtpenicjlpiechaaDoor
set_option maxRecDepth 10000
open Go.RowKit
set_option linter.unusedVariables false
/-- A state's cells. -/
def stc (s : St) : List Value := c32 s.g ++ bc s.t ++ [.int .i64 s.n]
theorem stc_length (s : St) (h : s.Ok) : (stc s).length = 73 := by simp [stc, c32_length, bc_length, h.g, h.t]
theorem stc_one (s : St) : ∀ v ∈ stc s, v.oneCell' = true := by
  intro v hv
  simp only [stc, List.mem_append, List.mem_singleton] at hv
  rcases hv with (hv | hv) | rfl
  · exact c32_one _ _ hv
  · obtain ⟨_, _, rfl⟩ := List.mem_map.1 hv; rfl
  · rfl
theorem stc_n (s : St) (h : s.Ok) : (stc s)[72]? = some (.int .i64 s.n) := by
  rw [stc, List.getElem?_append_right (by simp [c32_length, bc_length, h.g, h.t])]
  simp [c32_length, bc_length, h.g, h.t]
theorem stc_g (s : St) (h : s.Ok) : ((stc s).drop 0).take 8 = c32 s.g := by
  rw [List.drop_zero, stc, List.append_assoc, List.take_append_of_le_length (by rw [c32_length, h.g]; exact Nat.le_refl _), List.take_of_length_le (by rw [c32_length, h.g]; exact Nat.le_refl _)]
theorem stc_t (s : St) (h : s.Ok) : ((stc s).drop 8).take 64 = bc s.t := by
  rw [stc, List.append_assoc, List.drop_append_of_le_length (by rw [c32_length, h.g]; exact Nat.le_refl _), List.drop_eq_nil_of_le (by rw [c32_length, h.g]; exact Nat.le_refl _), List.nil_append, List.take_append_of_le_length (by rw [bc_length, h.t]; exact Nat.le_refl _), List.take_of_length_le (by rw [bc_length, h.t]; exact Nat.le_refl _)]
theorem stc_setn (s : St) (h : s.Ok) (n : Nat) : (stc s).set 72 (.int .i64 n) = stc ⟨s.g, s.t, n⟩ := by
  rw [stc, List.set_append_right _ _ (by simp [c32_length, bc_length, h.g, h.t])]
  simp [stc, c32_length, bc_length, h.g, h.t]
theorem stc_setg (s : St) (h : s.Ok) (g : List (BitVec 32)) (hg : g.length = 8) : (stc s).take 0 ++ c32 g ++ (stc s).drop (0 + (c32 g).length) = stc ⟨g, s.t, s.n⟩ := by
  rw [List.take_zero, List.nil_append, Nat.zero_add, c32_length, hg, stc, stc, List.append_assoc, List.append_assoc, List.drop_append_of_le_length (by rw [c32_length, h.g]; exact Nat.le_refl _), List.drop_eq_nil_of_le (by rw [c32_length, h.g]; exact Nat.le_refl _), List.nil_append]
theorem stc_copy (s : St) (h : s.Ok) (o k : Nat) (x : List UInt8) (hx : x.length = k) (ho : o + k ≤ 64) :
    (stc s).take (8 + o) ++ x.map (fun c => Value.int .u8 c.toNat) ++ (stc s).drop (8 + o + k) = stc ⟨s.g, s.t.take o ++ x ++ s.t.drop (o + k), s.n⟩ := by
  have hg : (c32 s.g).length = 8 := by rw [c32_length, h.g]
  have ht : (bc s.t).length = 64 := by rw [bc_length, h.t]
  have e1 : (stc s).take (8 + o) = c32 s.g ++ bc (s.t.take o) := by
    rw [stc, List.append_assoc, List.take_append, hg, List.take_of_length_le (by omega), show 8 + o - 8 = o by omega, List.take_append_of_le_length (by omega)]
    simp [bc, List.map_take]
  have e2 : (stc s).drop (8 + o + k) = bc (s.t.drop (o + k)) ++ [.int .i64 s.n] := by
    rw [stc, List.append_assoc, List.drop_append, hg, List.drop_eq_nil_of_le (by omega), List.nil_append, show 8 + o + k - 8 = o + k by omega, List.drop_append_of_le_length (by omega)]
    simp [bc, List.map_drop]
  rw [e1, e2, stc]
  simp [bc]
theorem info136 : (Tryd.prog.info? 136).map (fun i => (i.zero, i.size)) = some (some (.agg (stc zeroSt).toArray), 73) := by kernel_rfl
theorem zero136 (w : World) : (zeroValue 136).run Tryd.prog w = .ok (.agg (stc zeroSt).toArray) w := (zero_of_info info136).1 w
theorem size136 : (Tryd.prog.info? 136).map (·.size) = some 73 := (zero_of_info info136).2
theorem new_any (w : World) : Calls Tryd.prog 89 #[] w fun e w' => e = .returned (.agg (stc zeroSt).toArray) ∧ Below w.heap.size w w' := by
  have hz : Hid ((Tryd.prog.info? 136).map (·.size) = some (stc zeroSt).length) := size136
  have hz35 := zero136
  go_enter Tryd.func89, Tryd.ntmps89
  go_wp2_with (first
    | ((with_reducible refine at_alloc 136 ?_); refine L_alloc 136 _ zero136 ?_; intro w1 h1 hb1)
    | ((with_reducible refine at_store 136 ?_); refine L_store_all 136 _ _ w.heap.size (stc zeroSt) _ 136 rfl rfl hb1 hz.out rfl (stc_one _) ?_; intro w2 h2 hb2))
  (try simp only [Exit.inBlock, Exit.then])
  exact bodyPost_ret (results_blk rfl w.heap.size (stc zeroSt) _ rfl hb2 Tryd.underlying136 rfl hz.out) rfl ⟨rfl, h2.below (h1.below (Below.refl _ _) (Nat.le_refl _)) (Nat.le_refl _)⟩
/-- How long a text in a slot is. -/
def szOf : Value → Nat | .string S => S.size | _ => 0
theorem str_nil (T : ByteArray) (h : T.size = 0) : T = ByteArray.empty := by
  apply ByteArray.ext; exact Array.size_eq_zero_iff.1 h
theorem one_is (s : St) (T : List UInt8) (h k : Nat) (hh : s.n % 64 = h) (hk : min T.length (64 - h) = k) :
    one s T = ⟨if h + k = 64 then thr s.g (s.t.take h ++ T.take k ++ s.t.drop (h + k)) else s.g, s.t.take h ++ T.take k ++ s.t.drop (h + k), s.n + k⟩ := by
  subst hh; subst hk; rfl
theorem setn_blk (w : World) (b : Nat) (s : St) (n : Nat) (v : Value) (hb : Blk w b (stc s) 136) (hs : s.Ok) (hv : v = .int .i64 n) : Turn b w (w.setCell ⟨b, 72, none⟩ v) ∧ Blk (w.setCell ⟨b, 72, none⟩ v) b (stc ⟨s.g, s.t, n⟩) 136 := by
  subst hv
  obtain ⟨h1, h2⟩ := turn_setCell w b 72 (.int .i64 n) _ 136 hb
  rw [stc_setn s hs] at h2
  exact ⟨h1, h2⟩
set_option maxRecDepth 100000 in
set_option maxHeartbeats 1000000 in
theorem more_any (s0 : St) (T0 : ByteArray) (h0 : s0.Ok) (w : World) (hT : Tabs w) (hn : s0.n + T0.size ≤ 1099511627776) :
    Calls Tryd.prog 86 #[.agg (stc s0).toArray, .string T0] w fun e w' => e = .returned (.agg (stc (more s0 T0.data.toList)).toArray) ∧ Below w.heap.size w w' := by
  have hts := hT.size
  obtain ⟨z, hz⟩ : ∃ z, more s0 T0.data.toList = z := ⟨_, rfl⟩
  rw [hz]
  have hzo : z.Ok := by rw [← hz]; exact more_ok _ _ h0
  have HZ : Hid (more s0 T0.data.toList = z) := hz
  have hsz : Hid ((Tryd.prog.info? 136).map (·.size) = some (stc z).length) := by show _ = _; rw [stc_length z hzo]; exact size136
  have hsl : Hid ((stc z).length = (stc zeroSt).length) := by show _ = _; rw [stc_length z hzo]; rfl
  clear hz
  go_enter Tryd.func86, Tryd.ntmps86
  go_wp2_with (first
    | ((with_reducible refine at_box 136 ?_); refine L_box 136 _ (stc s0) rfl ?_; intro w1 h1 hb1)
    | ((with_reducible refine at_alloc 136 ?_); refine L_alloc 136 _ zero136 ?_; intro w2 h2 hb2))
  have n1 : w.heap.size < w1.heap.size := hb1.lt
  have hB : Below w.heap.size w w2 := h2.below (h1.below (Below.refl _ _) (Nat.le_refl _)) h1.size
  have b1 := h2.blk hb1 (by omega)
  clear h1 h2 hb1
  simp only [Act.put, List.setIfInBounds_toArray, List.set_cons_zero, List.set_cons_succ]
  go_loopw [1] (fun x wr => ∃ (s : St) (T : ByteArray), x = .string T ∧ s.Ok ∧ s.n + T.size ≤ 1099511627776 ∧ Hid (more s T.data.toList = z) ∧ Blk wr w.heap.size (stc s) 136 ∧ Blk wr w1.heap.size (stc zeroSt) 136 ∧ Below w.heap.size w wr) (fun x _ => szOf x)
  case atStart => exact ⟨s0, T0, rfl, h0, hn, HZ, b1, hb2, hB⟩
  case round =>
    clear b1 hb2 hB
    obtain ⟨s, T, rfl, hs, hn', hm, b1, b2, hbw⟩ := hrel
    by_cases hT0 : T.size = 0
    · obtain rfl := str_nil T hT0
      obtain rfl : s = z := hm.out
      go_wp2_with (first
        | ((with_reducible refine at_load 136 ?_); refine L_load_all 136 _ w.heap.size _ 136 _ rfl b1 Tryd.underlying136 rfl hsz.out ?_)
        | ((with_reducible refine at_store 136 ?_); refine L_store_all 136 _ _ w1.heap.size (stc s) _ 136 rfl rfl b2 hsz.out hsl.out (stc_one _) ?_; intro w8 h8 hb8))
      (try simp only [Exit.inBlock, Exit.then])
      exact bodyPost_ret (results_blk rfl w1.heap.size (stc s) _ rfl hb8 Tryd.underlying136 rfl hsz.out) rfl ⟨rfl, h8.below hbw (by omega)⟩
    · have hne : T ≠ ByteArray.empty := by intro e; rw [e] at hT0; exact hT0 rfl
      obtain ⟨h, hh⟩ : ∃ h, s.n % 64 = h := ⟨_, rfl⟩
      have hh64 : h < 64 := by omega
      obtain ⟨k, hk⟩ : ∃ k, min T.size (64 - h) = k := ⟨_, rfl⟩
      have hk1 : 1 ≤ k := by omega
      have hk2 : k ≤ T.size := by omega
      have hk3 : h + k ≤ 64 := by omega
      have hhI : (s.n : Int) % 64 = (h : Int) := by omega
      have c72 := b1.cell 72 _ (stc_n s hs)
      have hslc : (Instr.sliceAt 132 (.pointer (some ⟨w.heap.size, 8, none⟩)) (some (.int .i64 (h : Int))) none none).run Tryd.prog wr = .ok (.slice (some ⟨w.heap.size, 8 + h, none⟩) (64 - h) (64 - h)) wr :=
        run_slice_l wr w.heap.size 8 64 h h 132 5 Tryd.underlying132 Tryd.sizeOf5 rfl hh64
      have HH : Hid (s.n % 64 = h) := hh
      have HK : Hid (min T.size (64 - h) = k) := hk
      clear hh hk
      have hte : T.toList.isEmpty = false := by
        rw [ByteArray.toList_eq]
        cases hl : T.data.toList with
        | nil => exact absurd (by rw [Lib.size_eq, hl]; rfl) hT0
        | cons _ _ => rfl
      obtain ⟨t', ht'⟩ : ∃ t', s.t.take h ++ T.data.toList.take k ++ s.t.drop (h + k) = t' := ⟨_, rfl⟩
      have hTl := Lib.size_eq T
      have htl : (T.data.toList.take k).length = k := by rw [List.length_take]; omega
      have hs1 : (⟨s.g, t', s.n⟩ : St).Ok := ⟨hs.g, by rw [← ht']; have := hs.t; simp; omega⟩
      have hcp := stc_copy s hs h k _ htl hk3
      rw [ht'] at hcp
      have HCP : Hid ((stc s).take (8 + h) ++ (T.data.toList.take k).map (fun c => Value.int .u8 c.toNat) ++ (stc s).drop (8 + h + k) = stc ⟨s.g, t', s.n⟩) := hcp
      have hone : Hid (one s T.data.toList = ⟨if h + k = 64 then thr s.g t' else s.g, t', s.n + k⟩) := by
        show _ = _; rw [← ht']; exact one_is s T.data.toList h k HH.out (by rw [← hTl]; exact HK.out)
      have hTx : (T.extract k T.size).data.toList = T.data.toList.drop k := by
        rw [Lib.extract_data, List.take_of_length_le (by rw [List.length_drop]; omega)]
      have hmore : Hid (more (one s T.data.toList) (T.extract k T.size).data.toList = z) := by
        show _ = _
        rw [hTx, ← hm.out, more_step s T.data.toList (by intro e; rw [e] at hTl; exact hT0 hTl), HH.out, ← hTl, HK.out]
      have hTs : Hid ((T.extract k T.size).size = T.size - k) := by show _ = _; rw [Lib.size_eq, hTx, List.length_drop, hTl]
      have hl73 : Hid (8 + h + (64 - h) ≤ (stc s).length) := by show _ ≤ _; rw [stc_length s hs]; omega
      clear ht' hcp hTl htl hTx
      by_cases hf : h + k = 64
      · have hfI : (((h : Int) + (k : Int)) == 64) = true := by simp; omega
        rw [if_pos hf] at hone
        have hs2 : (⟨s.g, t', s.n + k⟩ : St).Ok := ⟨hs1.g, hs1.t⟩
        have hg' := thr_length s.g t' hs.g
        have hs3 : (⟨thr s.g t', t', s.n + k⟩ : St).Ok := ⟨hg', hs1.t⟩
        have hzg : Hid ((Tryd.prog.info? 134).map (·.size) = some (c32 (thr s.g t')).length) := by show _ = _; rw [c32_length, hg']; exact size134
        have hlg : Hid (0 + (c32 (thr s.g t')).length ≤ (stc ⟨s.g, t', s.n + k⟩).length) := by show _ ≤ _; rw [stc_length _ hs2, c32_length, hg']; decide
        have hl8 : Hid (0 + 8 ≤ (stc ⟨s.g, t', s.n + k⟩).length) := by show _ ≤ _; rw [stc_length _ hs2]; decide
        have hl72 : Hid (8 + 64 ≤ (stc ⟨s.g, t', s.n + k⟩).length) := by show _ ≤ _; rw [stc_length _ hs2]; decide
        clear hg'
        go_wp2_with (first
          | ((with_reducible refine at_copy ?_); refine L_copy _ _ 48 9 5 w.heap.size (8 + h) (64 - h) (64 - h) k T (stc s) 136 rfl rfl Tryd.underlying48 Tryd.sizeOf5 b1 hl73.out HK.out ?_; intro w3 h3 hb3; rw [HCP.out] at hb3; have c73 := hb3.cell 72 _ (stc_n _ hs1); have f73 := hb3.frozen 72)
          | ((with_reducible refine at_load 134 ?_); refine L_load 134 _ w.heap.size 0 8 _ 136 _ rfl (setn_blk w3 w.heap.size _ (s.n + k) (.int .i64 ((s.n : Int) + (k : Int))) hb3 hs1 (by go_num)).2 Tryd.underlying134 rfl size134 hl8.out _ (stc_g _ hs2) ?_)
          | ((with_reducible refine at_load 132 ?_); refine L_load 132 _ w.heap.size 8 64 _ 136 _ rfl (setn_blk w3 w.heap.size _ (s.n + k) (.int .i64 ((s.n : Int) + (k : Int))) hb3 hs1 (by go_num)).2 Tryd.underlying132 rfl size132 hl72.out _ (stc_t _ hs2) ?_))
        obtain ⟨t4, b4⟩ := setn_blk w3 w.heap.size _ (s.n + k) (.int .i64 ((s.n : Int) + (k : Int))) hb3 hs1 (by go_num)
        have b5 := t4.blk (h3.blk b2 (by omega)) (by omega)
        have hB4 := t4.below (h3.below hbw (by omega)) (by omega)
        have n4 := b4.lt
        have n5 := b5.lt
        generalize w3.setCell ⟨w.heap.size, 72, none⟩ (.int .i64 ((s.n : Int) + (k : Int))) = w4 at *
        refine (through_any s.g t' hs.g hs1.t w4 (hT.below hB4 hts)).mono ?_; rintro e w5 ⟨rfl, hb5⟩
        have c4 := b4.below hb5 n4
        have c5 := b5.below hb5 n5
        have hB5 := hB4.trans (hb5.mono (Nat.le_of_lt n4))
        clear b4 b5 hb5 hB4 t4
        go_wp2_with (first
          | ((with_reducible refine at_store 134 ?_); refine L_store 134 _ _ w.heap.size 0 (c32 (thr s.g t')) _ 136 rfl rfl c4 hzg.out hlg.out (c32_one _) _ (stc_setg _ hs2 _ hs3.g) ?_; intro w6 h6 hb6))
        have hmo := hmore.out
        rw [hone.out] at hmo
        rw [Lib.extract_data] at hmo
        refine ⟨⟨⟨thr s.g t', t', s.n + k⟩, hs3, ?_, hmo, hb6, h6.blk c5 (by omega), h6.below hB5 (by omega)⟩, ?_⟩
        · show s.n + k + _ ≤ _; omega
        · have := hTs.out; simp only [szOf]; omega
      · have hfI : (((h : Int) + (k : Int)) == 64) = false := by simp; omega
        rw [if_neg hf] at hone
        go_wp2_with (first
          | ((with_reducible refine at_copy ?_); refine L_copy _ _ 48 9 5 w.heap.size (8 + h) (64 - h) (64 - h) k T (stc s) 136 rfl rfl Tryd.underlying48 Tryd.sizeOf5 b1 hl73.out HK.out ?_; intro w3 h3 hb3; rw [HCP.out] at hb3; have c73 := hb3.cell 72 _ (stc_n _ hs1); have f73 := hb3.frozen 72))
        obtain ⟨t4, b4⟩ := setn_blk w3 w.heap.size _ (s.n + k) (.int .i64 ((s.n : Int) + (k : Int))) hb3 hs1 (by go_num)
        have hmo := hmore.out
        rw [hone.out] at hmo
        refine ⟨⟨⟨s.g, t', s.n + k⟩, _, rfl, ⟨hs1.g, hs1.t⟩, ?_, hmo, b4, t4.blk (h3.blk b2 (by omega)) (by omega), t4.below (h3.below hbw (by omega)) (by omega)⟩, ?_⟩
        · have := hTs.out; show s.n + k + _ ≤ _; omega
        · have := hTs.out; simp only [szOf]; omega
end Go.Proofs.YtpenicjlpiechaaDoor
