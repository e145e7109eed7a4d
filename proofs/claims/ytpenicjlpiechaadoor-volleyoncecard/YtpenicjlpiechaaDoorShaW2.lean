/- What the program's sha.spread answers. -/
import Derived.Test.YtpenicjlpiechaaDoorShaW1
import Derived.Laws.IdiomStrings
import Derived.Laws.BitsAllLaws
namespace Go.Proofs.YtpenicjlpiechaaDoor
set_option maxRecDepth 10000
open Go.RowKit
set_option linter.unusedVariables false
theorem size132 : (Tryd.prog.info? 132).map (·.size) = some 64 := by kernel_rfl
theorem size144 : (Tryd.prog.info? 144).map (·.size) = some 64 := by kernel_rfl
theorem zero144 (w : World) : (zeroValue 144).run Tryd.prog w = .ok (.agg (c32 (List.replicate 64 0)).toArray) w := Tryd.zeroValue144 w
theorem xor32 (a b : BitVec 32) : bits .xor .u32 (a.toNat : Int) (b.toNat : Int) = ((xr a b).toNat : Int) := by
  rw [u32_xor_nat _ _ a.isLt b.isLt, xr, BitVec.toNat_xor]
theorem left_rl (N : BitVec 32) (k : Int) (w : World) :
    Calls Tryd.prog 94 #[.int .u32 N.toNat, .int .i64 k] w fun e w' => e = .returned (.int .u32 (rl N k).toNat) ∧ w' = w := left_any N k w
theorem shr3 (a : BitVec 32) : (a.toNat : Int) / 8 = ((sr a 3).toNat : Int) := by
  rw [sr, BitVec.toNat_ushiftRight, Nat.shiftRight_eq_div_pow]; omega
theorem shr10 (a : BitVec 32) : (a.toNat : Int) / 1024 = ((sr a 10).toNat : Int) := by
  rw [sr, BitVec.toNat_ushiftRight, Nat.shiftRight_eq_div_pow]; omega
/-- The bytes of a slice that lies in a block of bytes, as a text. -/
theorem blk_string {w : World} {b o n cap : Nat} {cs : List Value} {t : TypeId} (h : Blk w b cs t) (l : List UInt8) (hl : l.length = n) (hc : (cs.drop o).take n = bc l) :
    (convert 48 9 (.slice (some ⟨b, o, none⟩) n cap)).run Tryd.prog w = .ok (.string ⟨l.toArray⟩) w := by
  subst hl
  refine run_convert_bytes_back w 48 9 5 _ cap l Tryd.underlying48 Tryd.underlying5 Tryd.underlying9 (fun j hj => ?_)
  rw [Addr.add_mid, h.at]
  have e := congrArg (fun l => l[j]?) hc
  simp only [List.getElem?_take, hj, if_true, List.getElem?_drop] at e
  rw [e]; simp [bc, hj]
theorem bc_part (l : List UInt8) (o n : Nat) : ((bc l).drop o).take n = bc ((l.drop o).take n) := by simp [bc, List.map_drop, List.map_take]
/-- What spread has laid after k rounds of its first loop, and after k rounds of both. -/
def lay1 (b : List UInt8) (k : Nat) : List (BitVec 32) := w16 b k ++ List.replicate (64 - k) 0
def lay2 (b : List UInt8) (k : Nat) : List (BitVec 32) := growW k (w16 b 16) ++ List.replicate (48 - k) 0
theorem lay1_step (b : List UInt8) (k : Nat) (hk : k < 64) (x : BitVec 32) (hx : x = wd ((b.drop (4 * k)).take 4)) : (lay1 b k).set k x = lay1 b (k + 1) := by
  rw [lay1, lay1, List.set_append_right _ _ (by rw [w16_length]; omega), w16_length, Nat.sub_self, show 64 - k = (64 - (k + 1)) + 1 by omega, List.replicate_succ, List.set_cons_zero, w16, hx]
  simp
theorem lay1_end (b : List UInt8) : lay1 b 16 = lay2 b 0 := rfl
theorem lay2_length (b : List UInt8) (k : Nat) (hk : k ≤ 48) : (lay2 b k).length = 64 := by
  rw [lay2, List.length_append, growW_length, w16_length, List.length_replicate]; omega
theorem lay2_at (b : List UInt8) (k i : Nat) (hi : i < 16 + k) : (lay2 b k).getD i 0 = (growW k (w16 b 16)).getD i 0 := by
  simp only [lay2, List.getD_eq_getElem?_getD]
  rw [List.getElem?_append_left (by rw [growW_length, w16_length]; omega)]
theorem lay2_step (b : List UInt8) (k : Nat) (hk : k < 48) (x : BitVec 32) (hx : x = nextW (growW k (w16 b 16))) : (lay2 b k).set (16 + k) x = lay2 b (k + 1) := by
  have hl : (growW k (w16 b 16)).length = 16 + k := by rw [growW_length, w16_length]
  rw [lay2, lay2, List.set_append_right _ _ (by omega), hl, Nat.sub_self, show 48 - k = (48 - (k + 1)) + 1 by omega, List.replicate_succ, List.set_cons_zero, growW_snoc, hx]
  simp
theorem lay2_end (b : List UInt8) : lay2 b 48 = spr b := by simp [lay2, spr]
theorem next_is (b : List UInt8) (k : Nat) (p q r s : BitVec 32) (hp : p = (lay2 b k).getD k 0) (hq : q = (lay2 b k).getD (1 + k) 0) (hr : r = (lay2 b k).getD (9 + k) 0) (hs : s = (lay2 b k).getD (14 + k) 0) :
    ad (ad (ad p (sx q)) r) (sy s) = nextW (growW k (w16 b 16)) := by
  have hl : (growW k (w16 b 16)).length = 16 + k := by rw [growW_length, w16_length]
  rw [lay2_at _ _ _ (by omega)] at hp hq hr hs
  rw [nextW, hl, hp, hq, hr, hs, show 16 + k - 16 = k by omega, show 16 + k - 15 = 1 + k by omega, show 16 + k - 7 = 9 + k by omega, show 16 + k - 2 = 14 + k by omega]
set_option maxRecDepth 100000 in
set_option maxHeartbeats 400000 in
theorem spread_any (b : List UInt8) (hb : b.length = 64) (w : World) :
    Calls Tryd.prog 93 #[.agg (bc b).toArray] w fun e w' => e = .returned (.agg (c32 (spr b)).toArray) ∧ Below w.heap.size w w' := by
  go_enter Tryd.func93, Tryd.ntmps93
  go_wp2_with (first
    | ((with_reducible refine at_box 132 ?_); refine L_box 132 _ (bc b) rfl ?_; intro w1 h1 hb1)
    | ((with_reducible refine at_alloc 144 ?_); refine L_alloc 144 _ zero144 ?_; first | (have _ := h2; intro w3 h3 hb3) | intro w2 h2 hb2))
  have hB2 : Below w.heap.size w w2 := h2.below (h1.below (Below.refl _ _) (Nat.le_refl _)) h1.size
  have hB : Below w.heap.size w w3 := h3.below hB2 hB2.size
  have n1 : w.heap.size < w1.heap.size := hb1.lt
  have n2 : w1.heap.size < w2.heap.size := hb2.lt
  have b1 := h3.blk (h2.blk hb1 (by omega)) (by omega)
  have b2 := h3.blk hb2 (by omega)
  clear h1 h2 h3 hb1 hb2 hB2
  go_loopw [12] (fun i wr => ∃ k : Nat, k ≤ 16 ∧ i = .int .i64 k ∧ Blk wr w.heap.size (bc b) 132 ∧ Blk wr w1.heap.size (c32 (List.replicate 64 0)) 144 ∧ Blk wr w2.heap.size (c32 (lay1 b k)) 144 ∧ Below w.heap.size w wr) (fun i _ => 16 - (intOf i).toNat)
  case atStart => exact ⟨0, by omega, rfl, b1, b2, hb3, hB⟩
  case round =>
    clear b1 b2 hb3 hB
    obtain ⟨k, hk, rfl, b1, b2, b3, hbw⟩ := hrel
    by_cases hlt : k < 16
    · have hlp : ((b.drop (4 * k)).take 4).length = 4 := by simp; omega
      obtain ⟨p, hp⟩ : ∃ p, (b.drop (4 * k)).take 4 = p := ⟨_, rfl⟩
      have hsl : (Instr.sliceAt 132 (.pointer (some ⟨w.heap.size, 0, none⟩)) (some (.int .i64 (4 * (k : Int)))) (some (.int .i64 (4 * (k : Int) + 4))) none).run Tryd.prog wr = .ok (.slice (some ⟨w.heap.size, 4 * k, none⟩) 4 (64 - 4 * k)) wr := by
        have h := run_slice_lh wr w.heap.size 0 64 (4 * k) (4 * k + 4) (4 * (k : Int)) (4 * (k : Int) + 4) 132 5 Tryd.underlying132 Tryd.sizeOf5 (by omega) (by omega) (by omega) (by omega) (by omega)
        rwa [Nat.zero_add, show 4 * k + 4 - 4 * k = 4 by omega] at h
      have hcv := blk_string (o := 4 * k) (n := 4) (cap := 64 - 4 * k) b1 p (by rw [← hp]; exact hlp) (by rw [bc_part, hp])
      have hw : ((num p : Nat) : Int) % 4294967296 = ((wd p).toNat : Int) := by
        rw [wd, BitVec.toNat_ofNat]; omega
      have hst : Hid ((lay1 b k).set k (wd p) = lay1 b (k + 1)) := lay1_step b k (by omega) _ (by rw [hp])
      have hps : Hid ((⟨p.toArray⟩ : ByteArray).size ≤ 8) := by show p.toArray.size ≤ 8; rw [List.size_toArray, ← hp, hlp]; decide
      have hf := b3.frozen k
      obtain ⟨v, hv⟩ : ∃ v, wr.cell? ⟨w2.heap.size, k, none⟩ = some v := by
        rw [b3.at]; exact ⟨_, List.getElem?_eq_getElem (by rw [c32_length, lay1, List.length_append, w16_length, List.length_replicate]; omega)⟩
      clear hp hlp
      go_wp2_with fail
      refine (take_any ⟨p.toArray⟩ _ hps.out).mono ?_; rintro e w' ⟨rfl, hw'⟩; obtain rfl := hw'.symm; clear hw'
      go_wp2_with fail
      go_roundw
      case rel =>
        obtain ⟨t1, t2⟩ := turn_setCell wr w2.heap.size k (.int .u32 ((wd p).toNat : Int)) _ 144 b3
        refine ⟨k + 1, by omega, by go_num, t1.blk b1 (by omega), t1.blk b2 (by omega), ?_, t1.below hbw (by omega)⟩
        rw [c32_set, hst.out] at t2
        exact t2
      case measure => simp [intOf]; omega
    · have b3 : Blk wr w2.heap.size (c32 (lay2 b 0)) 144 := by
        rw [← lay1_end, show 16 = k by omega]; exact b3
      have hxor := xor32
      have hadd := add32
      have hs3 := shr3
      have hs10 := shr10
      have hd : decide ((k : Int) < 16) = false := by simp; omega
      go_wp2_with fail
      clear hk hlt hd
      go_loopw [7] (fun i wr => ∃ m : Nat, 16 ≤ m ∧ m ≤ 64 ∧ i = .int .i64 m ∧ Blk wr w1.heap.size (c32 (List.replicate 64 0)) 144 ∧ Blk wr w2.heap.size (c32 (lay2 b (m - 16))) 144 ∧ Below w.heap.size w wr) (fun i _ => 64 - (intOf i).toNat)
      case atStart => exact ⟨16, by omega, by omega, rfl, b2, b3, hbw⟩
      case round =>
        clear b1 b2 b3 hbw
        obtain ⟨m, hm1, hm2, rfl, b2, b3, hbw⟩ := hrel
        by_cases hlt : m < 64
        · have hl := lay2_length b (m - 16) (by omega)
          have c1 := b3.cell (m - 15) _ (c32_at _ (m - 15) (by omega))
          have c2 := b3.cell (m - 2) _ (c32_at _ (m - 2) (by omega))
          have c3 := b3.cell (m - 16) _ (c32_at _ (m - 16) (by omega))
          have c4 := b3.cell (m - 7) _ (c32_at _ (m - 7) (by omega))
          have c5 := b3.cell m _ (c32_at _ m (by omega))
          have hf := b3.frozen m
          have hnx : Hid (ad (ad (ad ((lay2 b (m - 16)).getD (m - 16) 0) (sx ((lay2 b (m - 16)).getD (m - 15) 0))) ((lay2 b (m - 16)).getD (m - 7) 0)) (sy ((lay2 b (m - 16)).getD (m - 2) 0)) = nextW (growW (m - 16) (w16 b 16))) :=
            next_is b (m - 16) _ _ _ _ rfl (by rw [show 1 + (m - 16) = m - 15 by omega]) (by rw [show 9 + (m - 16) = m - 7 by omega]) (by rw [show 14 + (m - 16) = m - 2 by omega])
          generalize (lay2 b (m - 16)).getD (m - 15) 0 = q at *
          generalize (lay2 b (m - 16)).getD (m - 2) 0 = r at *
          generalize (lay2 b (m - 16)).getD (m - 16) 0 = p at *
          generalize (lay2 b (m - 16)).getD (m - 7) 0 = z at *
          have hst : Hid ((lay2 b (m - 16)).set m (ad (ad (ad p (sx q)) z) (sy r)) = lay2 b (m + 1 - 16)) := by
            have h := lay2_step b (m - 16) (by omega) _ hnx.out
            rw [show 16 + (m - 16) = m by omega, show m - 16 + 1 = m + 1 - 16 by omega] at h
            exact h
          clear hnx hl
          have i1 : (0 : Int) ≤ (m : Int) - 15 := by omega
          have i2 : (m : Int) - 15 < 64 := by omega
          have i3 : (0 : Int) ≤ (m : Int) - 2 := by omega
          have i4 : (m : Int) - 2 < 64 := by omega
          have i5 : (0 : Int) ≤ (m : Int) - 16 := by omega
          have i6 : (m : Int) - 16 < 64 := by omega
          have i7 : (0 : Int) ≤ (m : Int) - 7 := by omega
          have i8 : (m : Int) - 7 < 64 := by omega
          have i9 : (m : Int) < 64 := by omega
          go_wp2_with fail
          go_region
          go_wp2_with (go_at_call 94; refine (left_rl _ _ _).mono ?_; rintro e w' ⟨rfl, rfl⟩)
          go_region
          go_wp2_with fail
          go_roundw
          case rel =>
            obtain ⟨t1, t2⟩ := turn_setCell wr.drew.drew w2.heap.size m (.int .u32 ((ad (ad (ad p (sx q)) z) (sy r)).toNat : Int)) _ 144 b3.drew.drew
            refine ⟨m + 1, by omega, by omega, by go_num, t1.blk b2.drew.drew (by omega), ?_, t1.below hbw.drew.drew (by omega)⟩
            rw [c32_set, hst.out] at t2
            exact t2
          case measure => simp [intOf]; omega
        · obtain rfl : m = 64 := by omega
          rw [lay2_end] at b3
          have hl8 : (c32 (spr b)).length = 64 := by rw [c32_length, spr_length]
          have hz : Hid ((Tryd.prog.info? 144).map (·.size) = some (c32 (spr b)).length) := by rw [hl8]; exact size144
          have HL : Hid ((c32 (spr b)).length = (c32 (List.replicate 64 0)).length) := by rw [hl8]; rfl
          clear hl8
          go_wp2_with (first
            | ((with_reducible refine at_load 144 ?_); refine L_load_all 144 _ w2.heap.size _ 144 _ rfl b3 Tryd.underlying144 rfl hz.out ?_)
            | ((with_reducible refine at_store 144 ?_); refine L_store_all 144 _ _ w1.heap.size (c32 (spr b)) _ 144 rfl rfl b2 hz.out HL.out (c32_one _) ?_; intro w4 h4 hb4))
          (try simp only [Exit.inBlock, Exit.then])
          refine bodyPost_ret (results_blk rfl w1.heap.size (c32 (spr b)) _ rfl hb4 Tryd.underlying144 rfl hz.out) rfl ⟨rfl, h4.below hbw (by omega)⟩
end Go.Proofs.YtpenicjlpiechaaDoor
