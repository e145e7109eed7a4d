/- What is believed, a map of maps, as a part of memory; what (*Receiver).mark does to it. -/
import Derived.Test.YtcclcemdodoiiaaGreatDoorQRunG
import Derived.Test.YtcclcemdodoiiaaGreatDoorQRowA
import Derived.Test.YtcclcemdodoiiaaGreatDoorQRf1
import Derived.WalkKit
import Derived.WalkSpells
import Derived.WalkLawsBesides
namespace Go.Proofs.YtcclcemdodoiiaaGreatDoor
set_option maxRecDepth 10000
open Go Go.RowKit
set_option linter.unusedVariables false
set_option linter.unusedSimpArgs false

/-- An interval's map, as the map has it. -/
def bmv (e : Int × Nat) : Int × Value := (e.1, .map (some e.2))
def tru (s : ByteArray) : ByteArray × Value := (s, .bool true)
/-- The maps of these intervals. -/
def bms (B : List Thg) (E : List (Int × Nat)) : List HP := E.map fun e => mp kS e.2 ((ofI e.1 B).map tru)
structure Bl (E : List (Int × Nat)) (B : List Thg) : Prop where
  keys : (E.map (·.1)).Nodup
  dom : ∀ i, i ∈ E.map (·.1) ↔ ∃ t ∈ B, t.1 = i
/-- What is believed, at m. -/
def bl (m : Nat) (E : List (Int × Nat)) (B : List Thg) : HP := ex fun _ : Unit => pu (Bl E B) :: mp kI m (E.map bmv) :: bms B E
def blV (E : List (Int × Nat)) (i : Int) : Value := (mlook (E.map bmv) i).getD (.map none)
theorem Bl.nil : Bl [] [] := ⟨by simp, fun i => by simp⟩
theorem bms_at {B : List Thg} {i : Int} {c : Nat} {E1 E2 : List (Int × Nat)} : (bms B (E1 ++ (i, c) :: E2)).Perm (mp kS c ((ofI i B).map tru) :: (bms B E1 ++ bms B E2)) := by
  unfold bms
  rw [List.map_append, List.map_cons]
  exact List.perm_middle
theorem bms_same {B B' : List Thg} {E : List (Int × Nat)} (h : ∀ e ∈ E, ofI e.1 B' = ofI e.1 B) : bms B' E = bms B E := by
  unfold bms
  exact List.map_congr_left fun e he => by rw [h e he]
theorem blook_in {i : Int} {c : Nat} {E1 E2 : List (Int × Nat)} (h : ((E1 ++ (i, c) :: E2).map (·.1)).Nodup) : mlook ((E1 ++ (i, c) :: E2).map bmv) i = some (.map (some c)) := by
  refine mlook_some (j := E1.length) ?_ ?_
  · rw [List.map_map]; exact h
  · rw [List.getElem?_map, List.getElem?_append_right (Nat.le_refl _), Nat.sub_self]; rfl
theorem blook_out {i : Int} {E : List (Int × Nat)} (h : i ∉ E.map (·.1)) : mlook (E.map bmv) i = none := by
  refine mlook_none ?_
  rw [List.map_map]; exact h
theorem mlook_tru (l : List ByteArray) (s : ByteArray) : (mlook (l.map tru) s).getD (.bool false) = .bool (isin s l) := by
  unfold mlook isin
  rw [List.find?_map]
  induction l with
  | nil => rfl
  | cons t l ih =>
    rw [List.find?_cons, List.any_cons]
    by_cases h : t = s
    · subst h; simp [tru]
    · have e : (((fun p : ByteArray × Value => decide (p.1 = s)) ∘ tru) t) = false := by simp [tru, h]
      rw [e, decide_eq_false h, Bool.false_or]
      exact ih
section
variable {w0 w : World} {R : List HP} {m : Nat} {B : List Thg} {E E1 E2 : List (Int × Nat)} {i : Int} {c : Nat}
theorem bl_open (h : Ms w0 w (bl m E B :: R)) : Bl E B ∧ Ms w0 w (mp kI m (E.map bmv) :: (bms B E ++ R)) := by
  obtain ⟨_, h⟩ := h.opn
  obtain ⟨h1, h2⟩ := h.unpu
  exact ⟨h1, h2⟩
theorem bl_mk (h : Ms w0 w (mp kI m (E.map bmv) :: (bms B E ++ R))) (hB : Bl E B) : Ms w0 w (bl m E B :: R) := Ms.shut () (Ms.mkpu hB h)
theorem blV_in (h : ((E1 ++ (i, c) :: E2).map (·.1)).Nodup) : blV (E1 ++ (i, c) :: E2) i = .map (some c) := by unfold blV; rw [blook_in h]; rfl
theorem blV_out (h : i ∉ E.map (·.1)) : blV E i = .map none := by unfold blV; rw [blook_out h]; rfl
theorem bl_none (h : Bl E B) (hi : i ∉ E.map (·.1)) : ofI i B = [] := ofI_nil.2 fun ⟨t, h1, h2⟩ => hi ((h.dom i).2 ⟨t, h1, h2⟩)
theorem bl_inner (h : Ms w0 w (bl m (E1 ++ (i, c) :: E2) B :: R)) : Ms w0 w (mp kS c ((ofI i B).map tru) :: mp kI m ((E1 ++ (i, c) :: E2).map bmv) :: (bms B E1 ++ bms B E2 ++ R)) := by
  obtain ⟨_, h⟩ := bl_open h
  have h2 := h.perm ((bms_at.append_right R).cons _)
  exact h2.up 1 rfl
theorem bl_new (h : Ms w0 w (mp kI m [] :: R)) : Ms w0 w (bl m [] [] :: R) := bl_mk (E := []) (B := []) h Bl.nil
variable {a : Act} {dst : Option Tmp} {ty yt : TypeId} {pos : String} {aft : Array Edge} {gd : Option (Nat × Bool)} {K : Value → World → Prop}
theorem g_bl1 (x y : Operand) (i : Int) (hx : a.eval x = .map (some m)) (hy : a.eval y = .int .i64 i) (h : Ms w0 w (bl m E B :: R)) (hk : K (blV E i) w) : gives Tryz.prog ⟨dst, .lookup 93 x y false, ty, pos, aft, gd⟩ a w K :=
  g_look keyI Tryz.underlying93 Tryz.zeroValue81 x y i _ hx hy (bl_open h).2 rfl hk
theorem g_bl2 (x y : Operand) (i : Int) (s : ByteArray) (b : Bool) (hx : a.eval x = blV E i) (hy : a.eval y = .string s) (h : Ms w0 w (bl m E B :: R)) (hb : hasT i s B = b) (hk : K (.bool b) w) : gives Tryz.prog ⟨dst, .lookup 81 x y false, ty, pos, aft, gd⟩ a w K := by
  subst hb
  have hB := (bl_open h).1
  by_cases hi : i ∈ E.map (·.1)
  · obtain ⟨E1, c, E2, rfl⟩ := key_at hi
    rw [blV_in hB.keys] at hx
    exact g_look keyS Tryz.underlying81 Tryz.zeroValue4 x y s _ hx hy (bl_inner h) (by rw [mlook_tru, isin_ofI]) hk
  · rw [blV_out hi] at hx
    have e : hasT i s B = false := by rw [← isin_ofI, bl_none hB hi]; rfl
    rw [e] at hk
    exact g_look0 keyS Tryz.underlying81 Tryz.zeroValue4 x y s _ hx hy rfl hk
theorem g_bl3 (x : Operand) (i r : Int) (hx : a.eval x = blV E i) (h : Ms w0 w (bl m E B :: R)) (hr : (((ofI i B).length : Nat) : Int) = r) (hk : K (.int .i64 r) w) : gives Tryz.prog ⟨dst, .call { callee := .builtin .len, args := #[x], argTypes := #[81] }, ty, pos, aft, gd⟩ a w K := by
  subst hr
  have hB := (bl_open h).1
  by_cases hi : i ∈ E.map (·.1)
  · obtain ⟨E1, c, E2, rfl⟩ := key_at hi
    rw [blV_in hB.keys] at hx
    exact g_mlen Tryz.underlying81 x _ hx (bl_inner h) (by rw [List.length_map]) hk
  · rw [blV_out hi] at hx
    rw [bl_none hB hi] at hk
    exact g_mlen0 Tryz.underlying81 x hx hk
theorem bl_add (h : Bl E B) (hi : i ∈ E.map (·.1)) (s : ByteArray) : Bl E (B ++ [(i, s)]) := by
  refine ⟨h.keys, fun j => ?_⟩
  rw [h.dom j]
  constructor
  · rintro ⟨t, h3, h4⟩; exact ⟨t, List.mem_append_left _ h3, h4⟩
  · rintro ⟨t, h3, rfl⟩
    rcases List.mem_append.1 h3 with h3 | h3
    · exact ⟨t, h3, rfl⟩
    · obtain rfl := List.mem_singleton.1 h3
      exact (h.dom i).1 hi
theorem bl_ext (h : Bl E B) (hi : i ∉ E.map (·.1)) (s : ByteArray) (c : Nat) : Bl (E ++ [(i, c)]) (B ++ [(i, s)]) := by
  refine ⟨?_, fun j => ?_⟩
  · rw [List.map_append, List.map_singleton]
    refine List.nodup_append.2 ⟨h.keys, by simp, ?_⟩
    rintro n hn k hk rfl
    obtain rfl := List.mem_singleton.1 hk
    exact hi hn
  · rw [List.map_append, List.mem_append, h.dom j]
    constructor
    · rintro (⟨t, h3, h4⟩ | h3)
      · exact ⟨t, List.mem_append_left _ h3, h4⟩
      · exact ⟨(i, s), List.mem_append_right _ (by simp), (by simpa using h3 : j = i).symm⟩
    · rintro ⟨t, h3, rfl⟩
      rcases List.mem_append.1 h3 with h3 | h3
      · exact .inl ⟨t, h3, rfl⟩
      · obtain rfl := List.mem_singleton.1 h3
        exact .inr (by simp)
/-- Behind a text that is marked, in a map that is there. -/
theorem bl_in {s : ByteArray} (hB : Bl (E1 ++ (i, c) :: E2) B) (hs : hasT i s B = false) (h : Ms w0 w (mp kS c (mput ((ofI i B).map tru) s (.bool true)) :: mp kI m ((E1 ++ (i, c) :: E2).map bmv) :: (bms B E1 ++ bms B E2 ++ R))) : Ms w0 w (bl m (E1 ++ (i, c) :: E2) (B ++ [(i, s)]) :: R) := by
  have hn : s ∉ ((ofI i B).map tru).map (·.1) := by
    intro h3
    rw [List.map_map] at h3
    obtain ⟨u, h4, h5⟩ := List.mem_map.1 h3
    have h6 : u = s := h5
    rw [hasT_iff.2 (mem_ofI.1 (h6 ▸ h4))] at hs
    cases hs
  rw [mput_new hn, show (ofI i B).map tru ++ [(s, .bool true)] = (ofI i (B ++ [(i, s)])).map tru by rw [ofI_snoc, if_pos rfl, List.map_append]; rfl] at h
  have hk := hB.keys
  have hp : ((E1 ++ (i, c) :: E2).map (·.1)).Perm (i :: (E1.map (·.1) ++ E2.map (·.1))) := by
    rw [List.map_append, List.map_cons]; exact List.perm_middle
  have hk2 := hp.nodup_iff.1 hk
  rw [List.nodup_cons] at hk2
  have e1 : bms (B ++ [(i, s)]) E1 = bms B E1 := bms_same fun e he => by rw [ofI_snoc, if_neg (fun e2 : i = e.1 => hk2.1 (List.mem_append_left _ (List.mem_map.2 ⟨e, he, e2.symm⟩))), List.append_nil]
  have e2 : bms (B ++ [(i, s)]) E2 = bms B E2 := bms_same fun e he => by rw [ofI_snoc, if_neg (fun e2 : i = e.1 => hk2.1 (List.mem_append_right _ (List.mem_map.2 ⟨e, he, e2.symm⟩))), List.append_nil]
  refine bl_mk ?_ (bl_add hB (by simp) s)
  rw [← e1, ← e2] at h
  exact (h.up 1 rfl).perm (((bms_at.append_right R).symm).cons _)
theorem bl_out {s : ByteArray} (hB : Bl E B) (hi : i ∉ E.map (·.1)) (h : Ms w0 w (mp kS c (mput [] s (.bool true)) :: mp kI m (mput (E.map bmv) i (.map (some c))) :: (bms B E ++ R))) : Ms w0 w (bl m (E ++ [(i, c)]) (B ++ [(i, s)]) :: R) := by
  have h1 : i ∉ (E.map bmv).map (·.1) := by rw [List.map_map]; exact hi
  rw [mput_new h1, mput_new (by simp)] at h
  refine bl_mk ?_ (bl_ext hB hi s c)
  have e1 : bms (B ++ [(i, s)]) E = bms B E := bms_same fun e he => by rw [ofI_snoc, if_neg (fun e2 : i = e.1 => hi (List.mem_map.2 ⟨e, he, e2.symm⟩)), List.append_nil]
  have e2 : bms (B ++ [(i, s)]) (E ++ [(i, c)]) = bms B E ++ [mp kS c [(s, .bool true)]] := by
    rw [← e1]; unfold bms
    rw [List.map_append, List.map_singleton, ofI_snoc, if_pos rfl, bl_none hB hi]; rfl
  rw [e2, List.map_append, List.append_assoc]
  have h2 := h.up 1 rfl
  exact h2.perm (((List.perm_middle (l₁ := bms B E) (l₂ := R)).symm).cons _)
end
set_option maxHeartbeats 4000000 in
theorem mark_in {w0 w : World} {R : List HP} {p q m : Nat} {P : Pl} {k : Ky} {n mo wr : Int} {B : List Thg} {i : Int} {s : ByteArray} {c : Nat} {E1 E2 : List (Int × Nat)} (hM : Ms w0 w (blk (p) (rcc (P) (k) (n) (mo) (.pointer (some ⟨q, 0, none⟩)) (.map (some m)) (wr)) 95 :: bl m (E1 ++ (i, c) :: E2) B :: R)) (hs : hasT i s B = false) : Calls Tryz.prog 95 #[.pointer (some ⟨p, 0, none⟩), .int .i64 i, .string s] w fun e w' => ∃ E', e = .returned (.tuple #[]) ∧ Ms w0 w' (blk (p) (rcc (P) (k) (n) (mo) (.pointer (some ⟨q, 0, none⟩)) (.map (some m)) (wr)) 95 :: bl m E' (B ++ [(i, s)]) :: R) := by
  obtain ⟨hB, _⟩ := bl_open (hM.up 1 rfl)
  replace hM : Ms w0 w (blk (p) (rcc (P) (k) (n) (mo) (.pointer (some ⟨q, 0, none⟩)) (.map (some m)) (wr)) 95 :: mp kS c ((ofI i B).map tru) :: mp kI m ((E1 ++ (i, c) :: E2).map bmv) :: (bms B E1 ++ bms B E2 ++ R)) := ((bl_inner (hM.up 1 rfl)).perm (((List.perm_middle (l₁ := bms B E1 ++ bms B E2) (l₂ := R)).cons _).cons _)).up 2 rfl
  go_enter Tryz.func95, Tryz.ntmps95
  refine wp_seq_k fun _ κ1 => wp_seq_k fun _ κ2 => wl_region (wl_fare kn ?_)
  simp (disch := omega) only [fx, pv, kx, (hM.get 0 rfl).cell 39 (.map (some m)) (rv_39 _ _ _ _ _ _ _)]
  refine wl_give rfl (g_look keyI Tryz.underlying93 Tryz.zeroValue81 _ _ (i) (.map (some c)) rfl rfl (show Ms w0 _ (mp kI m ((E1 ++ (i, c) :: E2).map bmv) :: blk (p) (rcc (P) (k) (n) (mo) (.pointer (some ⟨q, 0, none⟩)) (.map (some m)) (wr)) 95 :: mp kS c ((ofI i B).map tru) :: (bms B E1 ++ bms B E2 ++ R)) from (hM.up 2 rfl)) (by rw [blook_in hB.keys]; rfl) ?_)
  try simp only [nz]
  refine wl_give rfl (g_meq _ (some c) false rfl rfl ?_)
  try simp only [nz]
  refine wl_nil (κ2 _ _ ?_)
  refine wp_cond_false rfl (wp_skip ?_)
  refine κ1 _ _ (wl_region (wl_fare kn ?_))
  simp (disch := omega) only [fx, pv, kx, (hM.get 0 rfl).cell 39 (.map (some m)) (rv_39 _ _ _ _ _ _ _)]
  refine wl_give rfl (g_look keyI Tryz.underlying93 Tryz.zeroValue81 _ _ (i) (.map (some c)) rfl rfl (show Ms w0 _ (mp kI m ((E1 ++ (i, c) :: E2).map bmv) :: blk (p) (rcc (P) (k) (n) (mo) (.pointer (some ⟨q, 0, none⟩)) (.map (some m)) (wr)) 95 :: mp kS c ((ofI i B).map tru) :: (bms B E1 ++ bms B E2 ++ R)) from (hM.up 2 rfl)) (by rw [blook_in hB.keys]; rfl) ?_)
  refine wl_fare kn ?_
  simp (disch := omega) only [fx, pv, kx]
  refine wl_give rfl (g_mup keyS Tryz.underlying81 _ _ _ (s) (.bool true) rfl rfl rfl (show Ms w0 w (mp kS c ((ofI i B).map tru) :: blk (p) (rcc (P) (k) (n) (mo) (.pointer (some ⟨q, 0, none⟩)) (.map (some m)) (wr)) 95 :: mp kI m ((E1 ++ (i, c) :: E2).map bmv) :: (bms B E1 ++ bms B E2 ++ R)) from (hM.up 1 rfl)) fun w3 h_ => ?_)
  replace hM : Ms w0 w3 (mp kS c (mput ((ofI i B).map tru) (s) (.bool true)) :: blk (p) (rcc (P) (k) (n) (mo) (.pointer (some ⟨q, 0, none⟩)) (.map (some m)) (wr)) 95 :: mp kI m ((E1 ++ (i, c) :: E2).map bmv) :: (bms B E1 ++ bms B E2 ++ R)) := h_
  clear h_
  try simp only [nz]
  refine wl_nil ?_
  (try simp only [Exit.inBlock, Exit.then])
  exact (show _ ∧ ∃ v, _ ∧ _ from ⟨rfl, _, results_none rfl _ _ _, _, rfl, (bl_in hB hs ((((hM.up 1 rfl).up 2 rfl).up 2 rfl).perm (((List.perm_middle (l₁ := bms B E1 ++ bms B E2) (l₂ := R)).symm.cons _).cons _))).up 1 rfl⟩)
set_option maxHeartbeats 4000000 in
theorem mark_out {w0 w : World} {R : List HP} {p q m : Nat} {P : Pl} {k : Ky} {n mo wr : Int} {B : List Thg} {i : Int} {s : ByteArray} {E : List (Int × Nat)} (hM : Ms w0 w (blk (p) (rcc (P) (k) (n) (mo) (.pointer (some ⟨q, 0, none⟩)) (.map (some m)) (wr)) 95 :: bl m E B :: R)) (hi : i ∉ E.map (·.1)) : Calls Tryz.prog 95 #[.pointer (some ⟨p, 0, none⟩), .int .i64 i, .string s] w fun e w' => ∃ E', e = .returned (.tuple #[]) ∧ Ms w0 w' (blk (p) (rcc (P) (k) (n) (mo) (.pointer (some ⟨q, 0, none⟩)) (.map (some m)) (wr)) 95 :: bl m E' (B ++ [(i, s)]) :: R) := by
  obtain ⟨hB, hM2⟩ := bl_open (hM.up 1 rfl)
  replace hM : Ms w0 w (blk (p) (rcc (P) (k) (n) (mo) (.pointer (some ⟨q, 0, none⟩)) (.map (some m)) (wr)) 95 :: mp kI m (E.map bmv) :: (bms B E ++ R)) := (hM2.perm ((List.perm_middle (l₁ := bms B E) (l₂ := R)).cons _)).up 1 rfl
  go_enter Tryz.func95, Tryz.ntmps95
  refine wp_seq_k fun _ κ1 => wp_seq_k fun _ κ2 => wl_region (wl_fare kn ?_)
  simp (disch := omega) only [fx, pv, kx, (hM.get 0 rfl).cell 39 (.map (some m)) (rv_39 _ _ _ _ _ _ _)]
  refine wl_give rfl (g_look keyI Tryz.underlying93 Tryz.zeroValue81 _ _ (i) (.map none) rfl rfl (show Ms w0 _ (mp kI m (E.map bmv) :: blk (p) (rcc (P) (k) (n) (mo) (.pointer (some ⟨q, 0, none⟩)) (.map (some m)) (wr)) 95 :: (bms B E ++ R)) from (hM.up 1 rfl)) (by rw [blook_out hi]; rfl) ?_)
  try simp only [nz]
  refine wl_give rfl (g_meq _ none true rfl rfl ?_)
  try simp only [nz]
  refine wl_nil (κ2 _ _ ?_)
  refine wp_cond_true rfl (wl_region (wl_fare kn ?_))
  simp (disch := omega) only [fx, pv, kx, (hM.get 0 rfl).cell 39 (.map (some m)) (rv_39 _ _ _ _ _ _ _)]
  refine wl_give rfl (g_mmap (enc := kS) hM fun w3 h_ => ?_)
  replace hM : Ms w0 w3 (mp kS (w.heap.size) ([]) :: blk (p) (rcc (P) (k) (n) (mo) (.pointer (some ⟨q, 0, none⟩)) (.map (some m)) (wr)) 95 :: mp kI m (E.map bmv) :: (bms B E ++ R)) := h_
  clear h_
  try simp only [nz]
  refine wl_give rfl (g_mup keyI Tryz.underlying93 _ _ _ (i) (.map (some (w.heap.size))) rfl rfl rfl (show Ms w0 w3 (mp kI m (E.map bmv) :: mp kS (w.heap.size) ([]) :: blk (p) (rcc (P) (k) (n) (mo) (.pointer (some ⟨q, 0, none⟩)) (.map (some m)) (wr)) 95 :: (bms B E ++ R)) from (hM.up 2 rfl)) fun w4 h_ => ?_)
  replace hM : Ms w0 w4 (mp kI m (mput (E.map bmv) (i) (.map (some (w.heap.size)))) :: mp kS (w.heap.size) ([]) :: blk (p) (rcc (P) (k) (n) (mo) (.pointer (some ⟨q, 0, none⟩)) (.map (some m)) (wr)) 95 :: (bms B E ++ R)) := h_
  clear h_
  try simp only [nz]
  refine wl_nil (κ1 _ _ ?_)
  refine wl_region (wl_fare kn ?_)
  simp (disch := omega) only [fx, pv, kx, (hM.get 2 rfl).cell 39 (.map (some m)) (rv_39 _ _ _ _ _ _ _)]
  refine wl_give rfl (g_look keyI Tryz.underlying93 Tryz.zeroValue81 _ _ (i) (.map (some (w.heap.size))) rfl rfl hM (by rw [mput_look]; rfl) ?_)
  refine wl_fare kn ?_
  simp (disch := omega) only [fx, pv, kx]
  refine wl_give rfl (g_mup keyS Tryz.underlying81 _ _ _ (s) (.bool true) rfl rfl rfl (show Ms w0 w4 (mp kS (w.heap.size) ([]) :: mp kI m (mput (E.map bmv) (i) (.map (some (w.heap.size)))) :: blk (p) (rcc (P) (k) (n) (mo) (.pointer (some ⟨q, 0, none⟩)) (.map (some m)) (wr)) 95 :: (bms B E ++ R)) from (hM.up 1 rfl)) fun w5 h_ => ?_)
  replace hM : Ms w0 w5 (mp kS (w.heap.size) (mput ([]) (s) (.bool true)) :: mp kI m (mput (E.map bmv) (i) (.map (some (w.heap.size)))) :: blk (p) (rcc (P) (k) (n) (mo) (.pointer (some ⟨q, 0, none⟩)) (.map (some m)) (wr)) 95 :: (bms B E ++ R)) := h_
  clear h_
  try simp only [nz]
  refine wl_nil ?_
  (try simp only [Exit.inBlock, Exit.then])
  exact (show _ ∧ ∃ v, _ ∧ _ from ⟨rfl, _, results_none rfl _ _ _, _, rfl, (bl_out hB hi ((((hM.up 2 rfl).up 2 rfl).up 2 rfl).perm (((List.perm_middle (l₁ := bms B E) (l₂ := R)).symm.cons _).cons _))).up 1 rfl⟩)
theorem mark_any {w0 w : World} {R : List HP} {p q m : Nat} {P : Pl} {k : Ky} {n mo wr : Int} {B : List Thg} {i : Int} {s : ByteArray} {E : List (Int × Nat)} (hM : Ms w0 w (blk (p) (rcc (P) (k) (n) (mo) (.pointer (some ⟨q, 0, none⟩)) (.map (some m)) (wr)) 95 :: bl m E B :: R)) (hs : hasT i s B = false) : Calls Tryz.prog 95 #[.pointer (some ⟨p, 0, none⟩), .int .i64 i, .string s] w fun e w' => ∃ E', e = .returned (.tuple #[]) ∧ Ms w0 w' (blk (p) (rcc (P) (k) (n) (mo) (.pointer (some ⟨q, 0, none⟩)) (.map (some m)) (wr)) 95 :: bl m E' (B ++ [(i, s)]) :: R) := by
  by_cases hi : i ∈ E.map (·.1)
  · obtain ⟨E1, c, E2, rfl⟩ := key_at hi
    exact mark_in hM hs
  · exact mark_out hM hi
end Go.Proofs.YtcclcemdodoiiaaGreatDoor
