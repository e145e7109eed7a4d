/- What the program's sha.New and More answer. -/
import Derived.Test.YtpenicjlpiechaaDoorShaW3
import Derived.Deep.WholeRow
import Derived.Lib.Strings
namespace Go.Proofs.YtpenicjlpiechaaDoor
set_option maxRecDepth 10000
open Go.RowKit
set_option linter.unusedVariables false
/-- A state's cells. -/
def stc (s : St) : List Value := c32 s.g ++ bc s.t ++ [.int .i64 s.n]
theorem stc_length (s : St) (h : s.Ok) : (stc s).length = 73 := by simp [stc, c32_length, bc_length, h.g, h.t]
theorem stc_one (s : St) : ∀ v ∈ stc s, v.oneCell' = true := by
  intro v hv
  simp only [stc, List.mem_append, List.mem_singleton] at hv
  rcases hv with (hv | hv) | rfl
  · exact c32_one _ _ hv
  · obtain ⟨_, _, rfl⟩ := List.mem_map.1 hv; rfl
  · rfl
theorem stc_n (s : St) (h : s.Ok) : (stc s)[72]? = some (.int .i64 s.n) := by
  rw [stc, List.getElem?_append_right (by simp [c32_length, bc_length, h.g, h.t])]
  simp [c32_length, bc_length, h.g, h.t]
theorem stc_g (s : St) (h : s.Ok) : ((stc s).drop 0).take 8 = c32 s.g := by
  rw [List.drop_zero, stc, List.append_assoc, List.take_append_of_le_length (by rw [c32_length, h.g]; exact Nat.le_refl _), List.take_of_length_le (by rw [c32_length, h.g]; exact Nat.le_refl _)]
theorem stc_t (s : St) (h : s.Ok) : ((stc s).drop 8).take 64 = bc s.t := by
  rw [stc, List.append_assoc, List.drop_append_of_le_length (by rw [c32_length, h.g]; exact Nat.le_refl _), List.drop_eq_nil_of_le (by rw [c32_length, h.g]; exact Nat.le_refl _), List.nil_append, List.take_append_of_le_length (by rw [bc_length, h.t]; exact Nat.le_refl _), List.take_of_length_le (by rw [bc_length, h.t]; exact Nat.le_refl _)]
theorem stc_setn (s : St) (h : s.Ok) (n : Nat) : (stc s).set 72 (.int .i64 n) = stc ⟨s.g, s.t, n⟩ := by
  rw [stc, List.set_append_right _ _ (by simp [c32_length, bc_length, h.g, h.t])]
  simp [stc, c32_length, bc_length, h.g, h.t]
theorem stc_setg (s : St) (h : s.Ok) (g : List (BitVec 32)) (hg : g.length = 8) : (stc s).take 0 ++ c32 g ++ (stc s).drop (0 + (c32 g).length) = stc ⟨g, s.t, s.n⟩ := by
  rw [List.take_zero, List.nil_append, Nat.zero_add, c32_length, hg, stc, stc, List.append_assoc, List.append_assoc, List.drop_append_of_le_length (by rw [c32_length, h.g]; exact Nat.le_refl _), List.drop_eq_nil_of_le (by rw [c32_length, h.g]; exact Nat.le_refl _), List.nil_append]
theorem stc_copy (s : St) (h : s.Ok) (o k : Nat) (x : List UInt8) (hx : x.length = k) (ho : o + k ≤ 64) :
    (stc s).take (8 + o) ++ x.map (fun c => Value.int .u8 c.toNat) ++ (stc s).drop (8 + o + k) = stc ⟨s.g, s.t.take o ++ x ++ s.t.drop (o + k), s.n⟩ := by
  have hg : (c32 s.g).length = 8 := by rw [c32_length, h.g]
  have ht : (bc s.t).length = 64 := by rw [bc_length, h.t]
  have e1 : (stc s).take (8 + o) = c32 s.g ++ bc (s.t.take o) := by
    rw [stc, List.append_assoc, List.take_append, hg, List.take_of_length_le (by omega), show 8 + o - 8 = o by omega, List.take_append_of_le_length (by omega)]
    simp [bc, List.map_take]
  have e2 : (stc s).drop (8 + o + k) = bc (s.t.drop (o + k)) ++ [.int .i64 s.n] := by
    rw [stc, List.append_assoc, List.drop_append, hg, List.drop_eq_nil_of_le (by omega), List.nil_append, show 8 + o + k - 8 = o + k by omega, List.drop_append_of_le_length (by omega)]
    simp [bc, List.map_drop]
  rw [e1, e2, stc]
  simp [bc]
theorem info136 : (Tryd.prog.info? 136).map (fun i => (i.zero, i.size)) = some (some (.agg (stc zeroSt).toArray), 73) := by kernel_rfl
theorem zero136 (w : World) : (zeroValue 136).run Tryd.prog w = .ok (.agg (stc zeroSt).toArray) w := (zero_of_info info136).1 w
theorem size136 : (Tryd.prog.info? 136).map (·.size) = some 73 := (zero_of_info info136).2
theorem new_any (w : World) : Calls Tryd.prog 89 #[] w fun e w' => e = .returned (.agg (stc zeroSt).toArray) ∧ Below w.heap.size w w' := by
  have hz : Hid ((Tryd.prog.info? 136).map (·.size) = some (stc zeroSt).length) := size136
  have hz35 := zero136
  go_enter Tryd.func89, Tryd.ntmps89
  go_wp2_with (first
    | ((with_reducible refine at_alloc 136 ?_); refine L_alloc 136 _ zero136 ?_; intro w1 h1 hb1)
    | ((with_reducible refine at_store 136 ?_); refine L_store_all 136 _ _ w.heap.size (stc zeroSt) _ 136 rfl rfl hb1 hz.out rfl (stc_one _) ?_; intro w2 h2 hb2))
  (try simp only [Exit.inBlock, Exit.then])
  exact bodyPost_ret (results_blk rfl w.heap.size (stc zeroSt) _ rfl hb2 Tryd.underlying136 rfl hz.out) rfl ⟨rfl, h2.below (h1.below (Below.refl _ _) (Nat.le_refl _)) (Nat.le_refl _)⟩
/-- How long a text in a slot is. -/
def szOf : Value → Nat | .string S => S.size | _ => 0
theorem str_nil (T : ByteArray) (h : T.size = 0) : T = ByteArray.empty := by
  apply ByteArray.ext; exact Array.size_eq_zero_iff.1 h
theorem one_is (s : St) (T : List UInt8) (h k : Nat) (hh : s.n % 64 = h) (hk : min T.length (64 - h) = k) :
    one s T = ⟨if h + k = 64 then thr s.g (s.t.take h ++ T.take k ++ s.t.drop (h + k)) else s.g, s.t.take h ++ T.take k ++ s.t.drop (h + k), s.n + k⟩ := by
  subst hh; subst hk; rfl
theorem setn_blk (w : World) (b : Nat) (s : St) (n : Nat) (v : Value) (hb : Blk w b (stc s) 136) (hs : s.Ok) (hv : v = .int .i64 n) : Turn b w (w.setCell ⟨b, 72, none⟩ v) ∧ Blk (w.setCell ⟨b, 72, none⟩ v) b (stc ⟨s.g, s.t, n⟩) 136 := by
  subst hv
  obtain ⟨h1, h2⟩ := turn_setCell w b 72 (.int .i64 n) _ 136 hb
  rw [stc_setn s hs] at h2
  exact ⟨h1, h2⟩
set_option maxRecDepth 100000 in
set_option maxHeartbeats 1000000 in
theorem more_any (s0 : St) (T0 : ByteArray) (h0 : s0.Ok) (w : World) (hT : Tabs w) (hn : s0.n + T0.size ≤ 1099511627776) :
    Calls Tryd.prog 86 #[.agg (stc s0).toArray, .string T0] w fun e w' => e = .returned (.agg (stc (more s0 T0.data.toList)).toArray) ∧ Below w.heap.size w w' := by
  have hts := hT.size
  obtain ⟨z, hz⟩ : ∃ z, more s0 T0.data.toList = z := ⟨_, rfl⟩
  rw [hz]
  have hzo : z.Ok := by rw [← hz]; exact more_ok _ _ h0
  have HZ : Hid (more s0 T0.data.toList = z) := hz
  have hsz : Hid ((Tryd.prog.info? 136).map (·.size) = some (stc z).length) := by show _ = _; rw [stc_length z hzo]; exact size136
  have hsl : Hid ((stc z).length = (stc zeroSt).length) := by show _ = _; rw [stc_length z hzo]; rfl
  clear hz
  go_enter Tryd.func86, Tryd.ntmps86
  go_wp2_with (first
    | ((with_reducible refine at_box 136 ?_); refine L_box 136 _ (stc s0) rfl ?_; intro w1 h1 hb1)
    | ((with_reducible refine at_alloc 136 ?_); refine L_alloc 136 _ zero136 ?_; intro w2 h2 hb2))
  have n1 : w.heap.size < w1.heap.size := hb1.lt
  have hB : Below w.heap.size w w2 := h2.below (h1.below (Below.refl _ _) (Nat.le_refl _)) h1.size
  have b1 := h2.blk hb1 (by omega)
  clear h1 h2 hb1
  simp only [Act.put, List.setIfInBounds_toArray, List.set_cons_zero, List.set_cons_succ]
  go_loopw [1] (fun x wr => ∃ (s : St) (T : ByteArray), x = .string T ∧ s.Ok ∧ s.n + T.size ≤ 1099511627776 ∧ Hid (more s T.data.toList = z) ∧ Blk wr w.heap.size (stc s) 136 ∧ Blk wr w1.heap.size (stc zeroSt) 136 ∧ Below w.heap.size w wr) (fun x _ => szOf x)
  case atStart => exact ⟨s0, T0, rfl, h0, hn, HZ, b1, hb2, hB⟩
  case round =>
    clear b1 hb2 hB
    obtain ⟨s, T, rfl, hs, hn', hm, b1, b2, hbw⟩ := hrel
    by_cases hT0 : T.size = 0
    · obtain rfl := str_nil T hT0
      obtain rfl : s = z := hm.out
      go_wp2_with (first
        | ((with_reducible refine at_load 136 ?_); refine L_load_all 136 _ w.heap.size _ 136 _ rfl b1 Tryd.underlying136 rfl hsz.out ?_)
        | ((with_reducible refine at_store 136 ?_); refine L_store_all 136 _ _ w1.heap.size (stc s) _ 136 rfl rfl b2 hsz.out hsl.out (stc_one _) ?_; intro w8 h8 hb8))
      (try simp only [Exit.inBlock, Exit.then])
      exact bodyPost_ret (results_blk rfl w1.heap.size (stc s) _ rfl hb8 Tryd.underlying136 rfl hsz.out) rfl ⟨rfl, h8.below hbw (by omega)⟩
    · have hne : T ≠ ByteArray.empty := by intro e; rw [e] at hT0; exact hT0 rfl
      obtain ⟨h, hh⟩ : ∃ h, s.n % 64 = h := ⟨_, rfl⟩
      have hh64 : h < 64 := by omega
      obtain ⟨k, hk⟩ : ∃ k, min T.size (64 - h) = k := ⟨_, rfl⟩
      have hk1 : 1 ≤ k := by omega
      have hk2 : k ≤ T.size := by omega
      have hk3 : h + k ≤ 64 := by omega
      have hhI : (s.n : Int) % 64 = (h : Int) := by omega
      have c72 := b1.cell 72 _ (stc_n s hs)
      have hslc : (Instr.sliceAt 132 (.pointer (some ⟨w.heap.size, 8, none⟩)) (some (.int .i64 (h : Int))) none none).run Tryd.prog wr = .ok (.slice (some ⟨w.heap.size, 8 + h, none⟩) (64 - h) (64 - h)) wr :=
        run_slice_l wr w.heap.size 8 64 h h 132 5 Tryd.underlying132 Tryd.sizeOf5 rfl hh64
      have HH : Hid (s.n % 64 = h) := hh
      have HK : Hid (min T.size (64 - h) = k) := hk
      clear hh hk
      have hte : T.toList.isEmpty = false := by
        rw [ByteArray.toList_eq]
        cases hl : T.data.toList with
        | nil => exact absurd (by rw [Lib.size_eq, hl]; rfl) hT0
        | cons _ _ => rfl
      obtain ⟨t', ht'⟩ : ∃ t', s.t.take h ++ T.data.toList.take k ++ s.t.drop (h + k) = t' := ⟨_, rfl⟩
      have hTl := Lib.size_eq T
      have htl : (T.data.toList.take k).length = k := by rw [List.length_take]; omega
      have hs1 : (⟨s.g, t', s.n⟩ : St).Ok := ⟨hs.g, by rw [← ht']; have := hs.t; simp; omega⟩
      have hcp := stc_copy s hs h k _ htl hk3
      rw [ht'] at hcp
      have HCP : Hid ((stc s).take (8 + h) ++ (T.data.toList.take k).map (fun c => Value.int .u8 c.toNat) ++ (stc s).drop (8 + h + k) = stc ⟨s.g, t', s.n⟩) := hcp
      have hone : Hid (one s T.data.toList = ⟨if h + k = 64 then thr s.g t' else s.g, t', s.n + k⟩) := by
        show _ = _; rw [← ht']; exact one_is s T.data.toList h k HH.out (by rw [← hTl]; exact HK.out)
      have hTx : (T.extract k T.size).data.toList = T.data.toList.drop k := by
        rw [Lib.extract_data, List.take_of_length_le (by rw [List.length_drop]; omega)]
      have hmore : Hid (more (one s T.data.toList) (T.extract k T.size).data.toList = z) := by
        show _ = _
        rw [hTx, ← hm.out, more_step s T.data.toList (by intro e; rw [e] at hTl; exact hT0 hTl), HH.out, ← hTl, HK.out]
      have hTs : Hid ((T.extract k T.size).size = T.size - k) := by show _ = _; rw [Lib.size_eq, hTx, List.length_drop, hTl]
      have hl73 : Hid (8 + h + (64 - h) ≤ (stc s).length) := by show _ ≤ _; rw [stc_length s hs]; omega
      clear ht' hcp hTl htl hTx
      by_cases hf : h + k = 64
      · have hfI : (((h : Int) + (k : Int)) == 64) = true := by simp; omega
        rw [if_pos hf] at hone
        have hs2 : (⟨s.g, t', s.n + k⟩ : St).Ok := ⟨hs1.g, hs1.t⟩
        have hg' := thr_length s.g t' hs.g
        have hs3 : (⟨thr s.g t', t', s.n + k⟩ : St).Ok := ⟨hg', hs1.t⟩
        have hzg : Hid ((Tryd.prog.info? 134).map (·.size) = some (c32 (thr s.g t')).length) := by show _ = _; rw [c32_length, hg']; exact size134
        have hlg : Hid (0 + (c32 (thr s.g t')).length ≤ (stc ⟨s.g, t', s.n + k⟩).length) := by show _ ≤ _; rw [stc_length _ hs2, c32_length, hg']; decide
        have hl8 : Hid (0 + 8 ≤ (stc ⟨s.g, t', s.n + k⟩).length) := by show _ ≤ _; rw [stc_length _ hs2]; decide
        have hl72 : Hid (8 + 64 ≤ (stc ⟨s.g, t', s.n + k⟩).length) := by show _ ≤ _; rw [stc_length _ hs2]; decide
        clear hg'
        go_wp2_with (first
          | ((with_reducible refine at_copy ?_); refine L_copy _ _ 48 9 5 w.heap.size (8 + h) (64 - h) (64 - h) k T (stc s) 136 rfl rfl Tryd.underlying48 Tryd.sizeOf5 b1 hl73.out HK.out ?_; intro w3 h3 hb3; rw [HCP.out] at hb3; have c73 := hb3.cell 72 _ (stc_n _ hs1); have f73 := hb3.frozen 72)
          | ((with_reducible refine at_load 134 ?_); refine L_load 134 _ w.heap.size 0 8 _ 136 _ rfl (setn_blk w3 w.heap.size _ (s.n + k) (.int .i64 ((s.n : Int) + (k : Int))) hb3 hs1 (by go_num)).2 Tryd.underlying134 rfl size134 hl8.out _ (stc_g _ hs2) ?_)
          | ((with_reducible refine at_load 132 ?_); refine L_load 132 _ w.heap.size 8 64 _ 136 _ rfl (setn_blk w3 w.heap.size _ (s.n + k) (.int .i64 ((s.n : Int) + (k : Int))) hb3 hs1 (by go_num)).2 Tryd.underlying132 rfl size132 hl72.out _ (stc_t _ hs2) ?_))
        obtain ⟨t4, b4⟩ := setn_blk w3 w.heap.size _ (s.n + k) (.int .i64 ((s.n : Int) + (k : Int))) hb3 hs1 (by go_num)
        have b5 := t4.blk (h3.blk b2 (by omega)) (by omega)
        have hB4 := t4.below (h3.below hbw (by omega)) (by omega)
        have n4 := b4.lt
        have n5 := b5.lt
        generalize w3.setCell ⟨w.heap.size, 72, none⟩ (.int .i64 ((s.n : Int) + (k : Int))) = w4 at *
        refine (through_any s.g t' hs.g hs1.t w4 (hT.below hB4 hts)).mono ?_; rintro e w5 ⟨rfl, hb5⟩
        have c4 := b4.below hb5 n4
        have c5 := b5.below hb5 n5
        have hB5 := hB4.trans (hb5.mono (Nat.le_of_lt n4))
        clear b4 b5 hb5 hB4 t4
        go_wp2_with (first
          | ((with_reducible refine at_store 134 ?_); refine L_store 134 _ _ w.heap.size 0 (c32 (thr s.g t')) _ 136 rfl rfl c4 hzg.out hlg.out (c32_one _) _ (stc_setg _ hs2 _ hs3.g) ?_; intro w6 h6 hb6))
        have hmo := hmore.out
        rw [hone.out] at hmo
        rw [Lib.extract_data] at hmo
        refine ⟨⟨⟨thr s.g t', t', s.n + k⟩, hs3, ?_, hmo, hb6, h6.blk c5 (by omega), h6.below hB5 (by omega)⟩, ?_⟩
        · show s.n + k + _ ≤ _; omega
        · have := hTs.out; simp only [szOf]; omega
      · have hfI : (((h : Int) + (k : Int)) == 64) = false := by simp; omega
        rw [if_neg hf] at hone
        go_wp2_with (first
          | ((with_reducible refine at_copy ?_); refine L_copy _ _ 48 9 5 w.heap.size (8 + h) (64 - h) (64 - h) k T (stc s) 136 rfl rfl Tryd.underlying48 Tryd.sizeOf5 b1 hl73.out HK.out ?_; intro w3 h3 hb3; rw [HCP.out] at hb3; have c73 := hb3.cell 72 _ (stc_n _ hs1); have f73 := hb3.frozen 72))
        obtain ⟨t4, b4⟩ := setn_blk w3 w.heap.size _ (s.n + k) (.int .i64 ((s.n : Int) + (k : Int))) hb3 hs1 (by go_num)
        have hmo := hmore.out
        rw [hone.out] at hmo
        refine ⟨⟨⟨s.g, t', s.n + k⟩, _, rfl, ⟨hs1.g, hs1.t⟩, ?_, hmo, b4, t4.blk (h3.blk b2 (by omega)) (by omega), t4.below (h3.below hbw (by omega)) (by omega)⟩, ?_⟩
        · have := hTs.out; show s.n + k + _ ≤ _; omega
        · have := hTs.out; simp only [szOf]; omega
end Go.Proofs.YtpenicjlpiechaaDoor
