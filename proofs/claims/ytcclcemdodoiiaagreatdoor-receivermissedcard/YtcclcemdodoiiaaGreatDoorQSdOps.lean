/- Plans (4 cells), packets (36), senders (70), the reference's senders (37) and calls (2) in a walk, and what single operations on them yield. -/
import Derived.Test.YtcclcemdodoiiaaGreatDoorQChMath
import Derived.Test.YtcclcemdodoiiaaGreatDoorQPbOps
import Derived.Test.YtcclcemdodoiiaaGreatDoorQPb1
import Derived.Laws.MakeOwn
import Derived.Laws.OwnMore
namespace Go.Proofs.YtcclcemdodoiiaaGreatDoor
set_option maxRecDepth 10000
open Go Go.RowKit
set_option linter.unusedVariables false
set_option linter.unusedSimpArgs false
def plc (p : Pl) : List Value := [.int .i64 p.st, .int .i64 p.lg, .int .i64 p.dl, .int .i64 p.ct]
def pkc (i : Int) (x g : ByteArray) (t : Int) (k : Ky) : List Value := [.int .i64 i, .string x, .string g, .int .i64 t] ++ kc k
def snc (s : Ky) (p : Pl) (k : Ky) (q v : Value) : List Value := kc s ++ (plc p ++ (kc k ++ [q, v]))
def kcs (ks : List Ky) : List Value := ks.flatMap kc
theorem plc_length (p : Pl) : (plc p).length = 4 := rfl
theorem pkc_length (i : Int) (x g : ByteArray) (t : Int) (k : Ky) : (pkc i x g t k).length = 36 := by simp [pkc, kc_length]
theorem snc_length (s : Ky) (p : Pl) (k : Ky) (q v : Value) : (snc s p k q v).length = 70 := by simp [snc, kc_length, plc_length]
theorem kcs_length : ∀ ks : List Ky, (kcs ks).length = ks.length * 32
  | [] => rfl
  | k :: ks => by
    have := kcs_length ks
    rw [kcs] at this
    rw [kcs, List.flatMap_cons, List.length_append, this, kc_length, List.length_cons]; omega
theorem one_plc (p : Pl) : ∀ v ∈ plc p, v.oneCell' = true := by
  intro v hv
  simp only [plc, List.mem_cons, List.not_mem_nil, or_false] at hv
  rcases hv with rfl | rfl | rfl | rfl <;> rfl
theorem one_pkc (i : Int) (x g : ByteArray) (t : Int) (k : Ky) : ∀ v ∈ pkc i x g t k, v.oneCell' = true := by
  intro v hv
  rcases List.mem_append.1 hv with hv | hv
  · simp only [List.mem_cons, List.not_mem_nil, or_false] at hv
    rcases hv with rfl | rfl | rfl | rfl <;> rfl
  · exact one_kc k v hv
theorem pp_len (p q : Pl) : (plc p).length = (plc q).length := rfl
theorem kk2_len (i i2 : Int) (x g x2 g2 : ByteArray) (t t2 : Int) (k k2 : Ky) : (pkc i x g t k).length = (pkc i2 x2 g2 t2 k2).length := by rw [pkc_length, pkc_length]
theorem szPl (p : Pl) : (Tryz.prog.info? 25).map (·.size) = some (plc p).length := by
  have h : (Tryz.prog.info? 25).map (·.size) = some 4 := by kernel_rfl
  exact h
theorem szPk (i : Int) (x g : ByteArray) (t : Int) (k : Ky) : (Tryz.prog.info? 39).map (·.size) = some (pkc i x g t k).length := by
  have h : (Tryz.prog.info? 39).map (·.size) = some 36 := by kernel_rfl
  rw [pkc_length]; exact h
theorem size4 : (Tryz.prog.info? 4).map (·.size) = some 1 := by kernel_rfl
theorem sizeP : (Tryz.prog.info? 25).map (·.size) = some 4 := by kernel_rfl
theorem zeroPl : ∀ w, (zeroValue 25).run Tryz.prog w = .ok (.agg (plc pl0).toArray) w := by intro w; kernel_rfl
theorem zeroPk : ∀ w, (zeroValue 39).run Tryz.prog w = .ok (.agg (pkc 0 ⟨#[]⟩ ⟨#[]⟩ 0 zk).toArray) w := by intro w; kernel_rfl
theorem zeroSn : ∀ w, (zeroValue 115).run Tryz.prog w = .ok (.agg (snc zk pl0 zk (.pointer none) (.slice none 0 0)).toArray) w := by intro w; kernel_rfl
theorem drop_at {l m r : List Value} {o n : Nat} (h1 : l.length = o) (h2 : m.length = n) : ((l ++ (m ++ r)).drop o).take n = m := by
  rw [List.drop_left' h1, List.take_left' h2]
theorem set_mid {l m r m2 : List Value} {o n : Nat} (h1 : l.length = o) (h2 : m.length = n) : (l ++ (m ++ r)).take o ++ m2 ++ (l ++ (m ++ r)).drop (o + n) = l ++ (m2 ++ r) := by
  rw [List.take_left' h1, ← List.drop_drop, List.drop_left' h1, List.drop_left' h2, List.append_assoc]
section
variable (s m : Ky) (p : Pl) (k : Ky) (q v : Value) (l : Int)
theorem sn_plan : ((snc s p k q v).drop 32).take 4 = plc p := drop_at (kc_length s) rfl
theorem sn_known : ((snc s p k q v).drop 36).take 32 = kc k := by
  have h := drop_at (l := kc s ++ plc p) (m := kc k) (r := [q, v]) (o := 36) (n := 32) (by rw [List.length_append, kc_length, plc_length]) (kc_length k)
  rwa [List.append_assoc] at h
theorem sn_q : (snc s p k q v)[68]? = some q := by
  have h : (kc s ++ plc p ++ kc k).length = 68 := by simp [kc_length, plc_length]
  rw [snc, ← List.append_assoc, ← List.append_assoc, List.getElem?_append_right (by omega), h]; rfl
theorem sn_v : (snc s p k q v)[69]? = some v := by
  have h : (kc s ++ plc p ++ kc k).length = 68 := by simp [kc_length, plc_length]
  rw [snc, ← List.append_assoc, ← List.append_assoc, List.getElem?_append_right (by omega), h]; rfl
theorem sn_put : (snc s p k q v).take 36 ++ kc m ++ (snc s p k q v).drop (36 + (kc m).length) = snc s p m q v := by
  have h := set_mid (l := kc s ++ plc p) (m := kc k) (m2 := kc m) (r := [q, v]) (o := 36) (n := 32) (by rw [List.length_append, kc_length, plc_length]) (kc_length k)
  rw [kc_length]
  simpa only [snc, List.append_assoc] using h
variable (i : Int) (x g : ByteArray) (t : Int)
theorem pk_key : ((pkc i x g t k).drop 4).take 32 = kc k := by
  have h := drop_at (l := [.int .i64 i, .string x, .string g, .int .i64 t]) (m := kc k) (r := []) (o := 4) rfl (kc_length k)
  rwa [List.append_nil] at h
theorem pk_put : (pkc i x g t k).take 4 ++ kc m ++ (pkc i x g t k).drop (4 + (kc m).length) = pkc i x g t m := by
  have h := set_mid (l := [.int .i64 i, .string x, .string g, .int .i64 t]) (m := kc k) (m2 := kc m) (r := []) (o := 4) (n := 32) rfl (kc_length k)
  rw [kc_length]
  simpa only [pkc, List.append_nil] using h
end
theorem kcs_get : ∀ (ks : List Ky) (j : Nat) (k : Ky), ks[j]? = some k → ((kcs ks).drop (j * 32)).take 32 = kc k
  | [], j, k, h => by simp at h
  | m :: ks, 0, k, h => by
    obtain rfl : m = k := by simpa using h
    rw [kcs, List.flatMap_cons, Nat.zero_mul, List.drop_zero, List.take_left' (kc_length m)]
  | m :: ks, j + 1, k, h => by
    have ih := kcs_get ks j k (by simpa using h)
    rw [kcs, List.flatMap_cons, show (j + 1) * 32 = (kc m).length + j * 32 by rw [kc_length]; omega, List.drop_append, List.drop_eq_nil_of_le (by omega), List.nil_append, Nat.add_sub_cancel_left]
    exact ih
theorem kcs_put : ∀ (ks : List Ky) (j : Nat) (k : Ky), j < ks.length → (kcs ks).take (0 + j * 32) ++ kc k ++ (kcs ks).drop (0 + j * 32 + (kc k).length) = kcs (ks.set j k)
  | [], j, k, h => by simp at h
  | m :: ks, 0, k, h => by
    have e := set_mid (l := []) (m := kc m) (m2 := kc k) (r := kcs ks) (o := 0) (n := 32) rfl (kc_length m)
    rw [kc_length]
    simpa [kcs] using e
  | m :: ks, j + 1, k, h => by
    have ih := kcs_put ks j k (by simpa using h)
    rw [Nat.zero_add] at ih
    rw [kc_length] at ih ⊢
    rw [Nat.zero_add, List.set_cons_succ, kcs, List.flatMap_cons, kcs, List.flatMap_cons, ← kcs, ← kcs, ← ih]
    rw [show (j + 1) * 32 = (kc m).length + j * 32 by rw [kc_length]; omega, List.take_length_add_append, show (kc m).length + j * 32 + 32 = (kc m).length + (j * 32 + 32) by omega, List.drop_length_add_append]
    simp only [List.append_assoc]
theorem kcs_zero (d : Nat) : (madeCells (Value.agg (kc zk).toArray).cells (d * 32)).toList = kcs (List.replicate d zk) := by
  have h1 : kcs (List.replicate d zk) = List.replicate (d * 32) (.int .u8 0) := by
    induction d with
    | zero => rfl
    | succ d ih =>
      rw [List.replicate_succ, kcs, List.flatMap_cons, ← kcs, ih]
      have e : kc zk = List.replicate 32 (.int .u8 0) := rfl
      rw [e, List.replicate_append_replicate]
      congr 1; omega
  rw [h1]
  apply List.ext_getElem?
  intro j
  by_cases hj : j < d * 32
  · have hm : j % 32 < 32 := Nat.mod_lt _ (by decide)
    have e : (kc zk) = List.replicate 32 (.int .u8 0) := rfl
    have h0 : ∀ (i : Nat) (hi : i < (kc zk).length), (kc zk)[i] = .int .u8 0 := fun i hi => by simp only [e, List.getElem_replicate]
    simp only [madeCells, Array.getElem?_toList, Array.getElem?_map, Array.getElem?_range, hj, if_true, Option.map_some, List.getElem?_replicate, Value.cells, List.size_toArray, kc_length]
    rw [getElem!_pos _ _ (by simpa [kc_length] using hm), List.getElem_toArray, h0]
  · simp [madeCells, hj]
/-- Parts put into a value, one behind another. -/
theorem fill_part {place : Nat → Option (Nat × Nat)} {i off size : Nat} {v : Value} {cs pre mid post : List Value} {rest : List (Nat × Value)} (hp : place i = some (off, size)) (hv : v.cells = cs.toArray) (hc : cs.length = size) (h1 : pre.length = off) (h2 : mid.length = size) :
    Instr.fill place (pre ++ (mid ++ post)).toArray ((i, v) :: rest) = Instr.fill place (pre ++ (cs ++ post)).toArray rest := by
  have hf := fold_at cs off pre mid post h1 (by omega)
  rw [Instr.fill, hp]
  simp only [hv, List.size_toArray, hc, List.length_append, h1, h2]
  rw [if_neg (by simp)]
  have e : (cs.toArray.zipIdx.foldl (fun (cs : Array Value) (x : Value × Nat) => cs.setIfInBounds (off + x.snd) x.fst) (pre ++ (mid ++ post)).toArray) = (pre ++ (cs ++ post)).toArray := by
    rw [← List.append_assoc, ← List.append_assoc, ← hf]
    simp
  exact congrArg (fun z => Instr.fill place z rest) e
theorem run_build {P : Program} (t : TypeId) (z r : List Value) (fs : Array Field) (ps : Array (Nat × Nat)) (parts : List (Nat × Value)) (hz : ∀ w, (zeroValue t).run P w = .ok (.agg z.toArray) w) (hu : P.underlying t = some (.struct fs))
    (hp : ∀ w, (fs.mapM (fun f => do pure (f.offset, ← sizeOf f.type) : Field → Sem (Nat × Nat))).run P w = .ok ps w) (hr : Instr.fill (ps[·]?) z.toArray parts = some r.toArray) (w : World) : (Instr.build t parts.toArray).run P w = .ok (.agg r.toArray) w := by
  simp only [Instr.build, Sem.run_bind, hz, Result.andThen_ok, run_underlying hu, Value.cells, hp, hr]
  rfl
theorem fieldsPl : Tryz.prog.underlying 25 = some (.struct (Tryz.prog.fieldsOf 25)) := by kernel_rfl
theorem placesPl : ∀ w, ((Tryz.prog.fieldsOf 25).mapM (fun f => do pure (f.offset, ← sizeOf f.type) : Field → Sem (Nat × Nat))).run Tryz.prog w = .ok #[(0, 1), (1, 1), (2, 1), (3, 1)] w := by intro w; kernel_rfl
theorem fieldsSn : Tryz.prog.underlying 115 = some (.struct (Tryz.prog.fieldsOf 115)) := by kernel_rfl
theorem placesSn : ∀ w, ((Tryz.prog.fieldsOf 115).mapM (fun f => do pure (f.offset, ← sizeOf f.type) : Field → Sem (Nat × Nat))).run Tryz.prog w = .ok #[(0, 32), (32, 4), (36, 32), (68, 1), (69, 1)] w := by intro w; kernel_rfl
theorem fieldsPk2 : Tryz.prog.underlying 39 = some (.struct (Tryz.prog.fieldsOf 39)) := by kernel_rfl
theorem placesPk : ∀ w, ((Tryz.prog.fieldsOf 39).mapM (fun f => do pure (f.offset, ← sizeOf f.type) : Field → Sem (Nat × Nat))).run Tryz.prog w = .ok #[(0, 1), (1, 1), (2, 1), (3, 1), (4, 32)] w := by intro w; kernel_rfl
section
variable {P : Program} {ops : Array Oper} {rest : List Oper} {a : Act} {w : World} {Q : Exit → Act → World → Prop} {dst : Option Tmp} {ty yt : TypeId} {pos : String} {aft : Array Edge} {gd : Option (Nat × Bool)} {K : Value → World → Prop}
theorem g_bld (t : TypeId) (ps : List (Nat × Operand)) (vs : List (Nat × Value)) (v : Value) (hv : ps.map (fun x => (x.1, a.eval x.2)) = vs) (hr : (Instr.build t vs.toArray).run P w = .ok v w) (hk : K v w) : gives P ⟨dst, .build t ps.toArray, ty, pos, aft, gd⟩ a w K :=
  g_val v w (by subst hv; simp only [execOp, Sem.run_bind, List.map_toArray, Sem.run_pure, hr, Result.andThen_ok]) hk
theorem g_bldPl (x0 x1 x2 x3 : Operand) (p : Pl) (h0 : a.eval x0 = .int .i64 p.st) (h1 : a.eval x1 = .int .i64 p.lg) (h2 : a.eval x2 = .int .i64 p.dl) (h3 : a.eval x3 = .int .i64 p.ct) (hk : K (.agg (plc p).toArray) w) : gives Tryz.prog ⟨dst, .build 25 #[(0, x0), (1, x1), (2, x2), (3, x3)], ty, pos, aft, gd⟩ a w K :=
  g_bld 25 [(0, x0), (1, x1), (2, x2), (3, x3)] [(0, .int .i64 p.st), (1, .int .i64 p.lg), (2, .int .i64 p.dl), (3, .int .i64 p.ct)] _ (by simp only [List.map_cons, List.map_nil, h0, h1, h2, h3]) (run_build _ _ _ _ _ _ zeroPl fieldsPl placesPl rfl w) hk
theorem g_bldPk0 (hk : K (.agg (pkc 0 ⟨#[]⟩ ⟨#[]⟩ 0 zk).toArray) w) : gives Tryz.prog ⟨dst, .build 39 #[], ty, pos, aft, gd⟩ a w K :=
  g_bld 39 [] [] _ rfl (run_build _ _ _ _ _ _ zeroPk fieldsPk2 placesPk rfl w) hk
theorem g_bldPk3 (x0 x1 x2 : Operand) (i : Int) (x g : ByteArray) (h0 : a.eval x0 = .int .i64 i) (h1 : a.eval x1 = .string x) (h2 : a.eval x2 = .string g) (hk : K (.agg (pkc i x g 0 zk).toArray) w) : gives Tryz.prog ⟨dst, .build 39 #[(0, x0), (1, x1), (2, x2)], ty, pos, aft, gd⟩ a w K :=
  g_bld 39 [(0, x0), (1, x1), (2, x2)] [(0, .int .i64 i), (1, .string x), (2, .string g)] _ (by simp only [List.map_cons, List.map_nil, h0, h1, h2]) (run_build _ _ _ _ _ _ zeroPk fieldsPk2 placesPk rfl w) hk
theorem fillSn (s : Ky) (p : Pl) (q v : Value) (hq : q.cells = #[q]) (hv : v.cells = #[v]) : Instr.fill ((#[(0, 32), (32, 4), (36, 32), (68, 1), (69, 1)] : Array (Nat × Nat))[·]?) (snc zk pl0 zk (.pointer none) (.slice none 0 0)).toArray [(0, .agg (kc s).toArray), (1, .agg (plc p).toArray), (3, q), (4, v)] = some (snc s p zk q v).toArray := by
  have e0 := fill_part (place := ((#[(0, 32), (32, 4), (36, 32), (68, 1), (69, 1)] : Array (Nat × Nat))[·]?)) (i := 0) (off := 0) (size := 32) (v := .agg (kc s).toArray) (cs := kc s) (pre := []) (mid := kc zk) (post := plc pl0 ++ (kc zk ++ [.pointer none, .slice none 0 0])) (rest := [(1, .agg (plc p).toArray), (3, q), (4, v)]) rfl rfl (kc_length s) rfl (kc_length zk)
  have e1 := fill_part (place := ((#[(0, 32), (32, 4), (36, 32), (68, 1), (69, 1)] : Array (Nat × Nat))[·]?)) (i := 1) (off := 32) (size := 4) (v := .agg (plc p).toArray) (cs := plc p) (pre := kc s) (mid := plc pl0) (post := kc zk ++ [.pointer none, .slice none 0 0]) (rest := [(3, q), (4, v)]) rfl rfl rfl (kc_length s) rfl
  have e2 := fill_part (place := ((#[(0, 32), (32, 4), (36, 32), (68, 1), (69, 1)] : Array (Nat × Nat))[·]?)) (i := 3) (off := 68) (size := 1) (v := q) (cs := [q]) (pre := kc s ++ (plc p ++ kc zk)) (mid := [.pointer none]) (post := [.slice none 0 0]) (rest := [(4, v)]) rfl hq rfl (by simp [kc_length, plc_length]) rfl
  have e3 := fill_part (place := ((#[(0, 32), (32, 4), (36, 32), (68, 1), (69, 1)] : Array (Nat × Nat))[·]?)) (i := 4) (off := 69) (size := 1) (v := v) (cs := [v]) (pre := kc s ++ (plc p ++ (kc zk ++ [q]))) (mid := [.slice none 0 0]) (post := []) (rest := []) rfl hv rfl (by simp [kc_length, plc_length]) rfl
  simp only [List.nil_append] at e0
  refine e0.trans (e1.trans ?_)
  simp only [List.append_assoc, List.cons_append, List.nil_append, List.append_nil] at e2 e3 ⊢
  refine e2.trans (e3.trans ?_)
  simp only [Instr.fill, snc]
theorem g_bldSn (x0 x1 x3 x4 : Operand) (s : Ky) (p : Pl) (q v : Value) (hq : q.cells = #[q]) (hv : v.cells = #[v]) (h0 : a.eval x0 = .agg (kc s).toArray) (h1 : a.eval x1 = .agg (plc p).toArray) (h3 : a.eval x3 = q) (h4 : a.eval x4 = v) (hk : K (.agg (snc s p zk q v).toArray) w) : gives Tryz.prog ⟨dst, .build 115 #[(0, x0), (1, x1), (3, x3), (4, x4)], ty, pos, aft, gd⟩ a w K :=
  g_bld 115 [(0, x0), (1, x1), (3, x3), (4, x4)] [(0, .agg (kc s).toArray), (1, .agg (plc p).toArray), (3, q), (4, v)] _ (by simp only [List.map_cons, List.map_nil, h0, h1, h3, h4]) (run_build _ _ _ _ _ _ zeroSn fieldsSn placesSn (fillSn s p q v hq hv) w) hk
/-- Cells of a block are stored, from a place on. -/
theorem g_storeN (t : TypeId) (x y : Operand) (b o : Nat) (vs cs : List Value) (bt : TypeId) (r : List Value) (hx : a.eval x = .pointer (some ⟨b, o, none⟩)) (hy : a.eval y = .agg vs.toArray) (hb : Blk w b cs bt)
    (hi : (P.info? t).map (·.size) = some vs.length) (hl : o + vs.length ≤ cs.length) (h1 : ∀ v ∈ vs, v.oneCell' = true) (hr : cs.take o ++ vs ++ cs.drop (o + vs.length) = r)
    (hk : ∀ w', Turn b w w' → Blk w' b r bt → K undef w') : gives P ⟨dst, .store t x y, ty, pos, aft, gd⟩ a w K := by
  subst hr
  obtain ⟨h2, h3⟩ := turn_setCells b bt vs o w cs hb hl
  unfold gives
  simp only [execOp, hx, hy, Sem.run_bind, run_storeAt_mid w b o t vs.toArray (hb.there o _ (by simpa using hl)) (by simpa using hi) (all_oneCell_toArray h1), Result.andThen_ok, Sem.run_pure]
  exact hk _ h2 h3
/-- A slice of keys, made. -/
theorem g_mkK (x y : Operand) (d : Nat) (n : Int) (hx : a.eval x = .int .i64 n) (hy : a.eval y = .int .i64 n) (hn : n = d) (hd : d ≤ 1000)
    (hk : ∀ w', Turn w.heap.size w w' → Blk w' w.heap.size (kcs (List.replicate d zk)) 23 → K (.slice (some ⟨w.heap.size, 0, none⟩) d d) w') : gives Tryz.prog ⟨dst, .makeSlice 113 x y, ty, pos, aft, gd⟩ a w K := by
  subst hn
  obtain ⟨i, hi, he⟩ : ∃ i, Tryz.prog.info? 23 = some i ∧ (i.zero, i.size, i.bytes) = (some (.agg (kc zk).toArray), 32, 32) := by
    have h : (Tryz.prog.info? 23).map (fun i => (i.zero, i.size, i.bytes)) = some (some (.agg (kc zk).toArray), 32, 32) := by kernel_rfl
    cases hi : Tryz.prog.info? 23 with
    | none => rw [hi] at h; cases h
    | some i => rw [hi] at h; exact ⟨i, rfl, Option.some.inj h⟩
  have hsz : i.size = 32 := congrArg (·.2.1) he
  have hby : i.bytes = 32 := congrArg (·.2.2) he
  have hr := run_make (P := Tryz.prog) w 113 23 i (.agg (kc zk).toArray) Tryz.underlying113 hi (congrArg (·.1) he) .i64 .i64 (d : Int) (d : Int) (by omega) (Int.le_refl _) (by rw [hby]; omega) (by omega)
  simp only [Int.toNat_natCast, hsz] at hr
  obtain ⟨h1, h2⟩ := turn_alloc w (kcs (List.replicate d zk)) 23
  have e : madeCells (Value.agg (kc zk).toArray).cells (d * 32) = (kcs (List.replicate d zk)).toArray := by
    apply Array.toList_inj.1
    rw [kcs_zero]
  rw [e] at hr
  exact g_val _ _ (by simp only [execOp, hx, hy, Sem.run_bind, hr, Result.andThen_ok, Sem.run_pure]) (hk _ h1 h2)
theorem g_box1 (t : TypeId) (x : Operand) (v : Value) (hx : a.eval x = v) (hv : v.cells = #[v]) (hk : ∀ w', Turn w.heap.size w w' → Blk w' w.heap.size [v] t → K (.pointer (some ⟨w.heap.size, 0, none⟩)) w') : gives P ⟨dst, .box t x, ty, pos, aft, gd⟩ a w K := by
  obtain ⟨h1, h2⟩ := turn_alloc w [v] t
  unfold gives
  simp only [execOp, hx, Instr.box, newVar, newRow, hv, Sem.run_bind, run_newObj, Result.andThen_ok, Sem.run_pure]
  exact hk _ h1 h2
theorem g_alloc1 (t : TypeId) (v : Value) (hz : ∀ w, (zeroValue t).run P w = .ok v w) (hv : v.cells = #[v]) (hk : ∀ w', Turn w.heap.size w w' → Blk w' w.heap.size [v] t → K (.pointer (some ⟨w.heap.size, 0, none⟩)) w') : gives P ⟨dst, .alloc t, ty, pos, aft, gd⟩ a w K := by
  obtain ⟨h1, h2⟩ := turn_alloc w [v] t
  unfold gives
  simp only [execOp, Instr.alloc, hz, newVar, newRow, hv, Sem.run_bind, run_newObj, Result.andThen_ok, Sem.run_pure]
  exact hk _ h1 h2
theorem zeroB : ∀ w, (zeroValue 4).run Tryz.prog w = .ok (.bool false) w := by intro w; kernel_rfl
theorem g_mkF (f : FuncId) (caps : List Operand) (vs : List Value) (hv : caps.map a.eval = vs) (hk : K (.func (.func f) #[] vs.toArray) w) : gives P ⟨dst, .makeFunc (.func f) #[] caps.toArray, ty, pos, aft, gd⟩ a w K :=
  g_val _ w (by subst hv; simp [execOp, Instr.makeFunc]) hk
theorem g_callc (x : Operand) (f : FuncId) (args : List Operand) (ts : Array TypeId) (cap : Array Value) (vs : List Value) (hx : a.eval x = .func (.func f) #[] cap) (hc : (callFunc f (vs.toArray ++ cap)).run P w = .ok (.enter f (vs.toArray ++ cap)) w) (hv : args.map a.eval = vs)
    (h : Calls P f (vs.toArray ++ cap) w (fun e w'' => ∃ v, e = .returned v ∧ K v w'')) : gives P ⟨dst, .call { callee := .value x, args := args.toArray, argTypes := ts }, ty, pos, aft, gd⟩ a w K := by
  unfold gives
  simp only [execOp, resolve, hx, Deferred.ofValue, invoke, List.map_toArray, hv, Sem.run_bind, Sem.run_pure, Result.andThen_ok, Array.empty_append, hc]
  exact h
theorem g_cvU (x : Operand) (p r : Int) (hx : a.eval x = .int .i64 p) (hr : p % 18446744073709551616 = r) (hk : K (.int .u64 r) w) : gives Tryz.prog ⟨dst, .convert 3 127 x, ty, pos, aft, gd⟩ a w K :=
  g_val (.int .u64 r) w (by subst hr; simp only [execOp, hx]; go_simp; rw [IntKind.wrap_u64]) hk
theorem g_cvI (x : Operand) (p r : Int) (hx : a.eval x = .int .u64 p) (hr : IntKind.i64.wrap p = r) (hk : K (.int .i64 r) w) : gives Tryz.prog ⟨dst, .convert 127 3 x, ty, pos, aft, gd⟩ a w K :=
  g_val (.int .i64 r) w (by subst hr; simp only [execOp, hx]; go_simp) hk
theorem g_lenT (x : Operand) (s : ByteArray) (r : Int) (hx : a.eval x = .string s) (hr : ((s.size : Nat) : Int) = r) (hk : K (.int .i64 r) w) : gives Tryz.prog ⟨dst, .call { callee := .builtin .len, args := #[x], argTypes := #[9] }, ty, pos, aft, gd⟩ a w K :=
  g_val (.int .i64 r) w (by subst hr; simp only [execOp, resolve, invoke, builtin, List.map_toArray, List.map_cons, List.map_nil, hx]; go_simp) hk
theorem g_bneq (x y : Operand) (p q r : Bool) (hx : a.eval x = .bool p) (hy : a.eval y = .bool q) (hr : (p != q) = r) (hk : K (.bool r) w) : gives Tryz.prog ⟨dst, .binOp .neq 4 x y yt, ty, pos, aft, gd⟩ a w K :=
  g_val (.bool r) w (by
    subst hr
    have h := run_equalIn_bool w 9999 4 p q Tryz.underlying4
    simp [execOp, hx, hy, eqGuard, binOp, Op.equal, Op.maxDepth, h]; cases p <;> cases q <;> rfl) hk
theorem g_peqS (x : Operand) (p : Option Addr) (b : Bool) (hx : a.eval x = .pointer p) (hb : p.isNone = b) (hk : K (.bool b) w) : gives Tryz.prog ⟨dst, .binOp .eql 61 x (.const (.pointer none)) yt, ty, pos, aft, gd⟩ a w K :=
  g_val (.bool b) w (by subst hb; cases p <;> simp only [execOp, hx] <;> go_simp) hk
theorem ld2 (w : World) (b o : Nat) (v : Value) (hc : w.cell? ⟨b, o, none⟩ = some v) : (Instr.loadAt 2 (.pointer (some ⟨b, o, none⟩))).run Tryz.prog w = .ok v w := by go_simp
theorem ld9 (w : World) (b o : Nat) (v : Value) (hc : w.cell? ⟨b, o, none⟩ = some v) : (Instr.loadAt 9 (.pointer (some ⟨b, o, none⟩))).run Tryz.prog w = .ok v w := by go_simp
theorem ldPW (w : World) (b o : Nat) (v : Value) (hc : w.cell? ⟨b, o, none⟩ = some v) : (Instr.loadAt 110 (.pointer (some ⟨b, o, none⟩))).run Tryz.prog w = .ok v w := by go_simp
theorem ldKS (w : World) (b o : Nat) (v : Value) (hc : w.cell? ⟨b, o, none⟩ = some v) : (Instr.loadAt 113 (.pointer (some ⟨b, o, none⟩))).run Tryz.prog w = .ok v w := by go_simp
theorem ldU (w : World) (b o : Nat) (v : Value) (hc : w.cell? ⟨b, o, none⟩ = some v) : (Instr.loadAt 127 (.pointer (some ⟨b, o, none⟩))).run Tryz.prog w = .ok v w := by go_simp

theorem faPl0 (w : World) (b o : Nat) : (Instr.fieldAt 25 (.pointer (some ⟨b, o, none⟩)) 0).run Tryz.prog w = .ok (.pointer (some ⟨b, o, none⟩)) w := by go_simp
theorem faPl1 (w : World) (b o : Nat) : (Instr.fieldAt 25 (.pointer (some ⟨b, o, none⟩)) 1).run Tryz.prog w = .ok (.pointer (some ⟨b, o + 1, none⟩)) w := by go_simp
theorem faPl2 (w : World) (b o : Nat) : (Instr.fieldAt 25 (.pointer (some ⟨b, o, none⟩)) 2).run Tryz.prog w = .ok (.pointer (some ⟨b, o + 2, none⟩)) w := by go_simp
theorem faPl3 (w : World) (b o : Nat) : (Instr.fieldAt 25 (.pointer (some ⟨b, o, none⟩)) 3).run Tryz.prog w = .ok (.pointer (some ⟨b, o + 3, none⟩)) w := by go_simp
theorem faRp0 (w : World) (b o : Nat) : (Instr.fieldAt 37 (.pointer (some ⟨b, o, none⟩)) 0).run Tryz.prog w = .ok (.pointer (some ⟨b, o, none⟩)) w := by go_simp
theorem faRp1 (w : World) (b o : Nat) : (Instr.fieldAt 37 (.pointer (some ⟨b, o, none⟩)) 1).run Tryz.prog w = .ok (.pointer (some ⟨b, o + 1, none⟩)) w := by go_simp
theorem faRp2 (w : World) (b o : Nat) : (Instr.fieldAt 37 (.pointer (some ⟨b, o, none⟩)) 2).run Tryz.prog w = .ok (.pointer (some ⟨b, o + 2, none⟩)) w := by go_simp
theorem faRp3 (w : World) (b o : Nat) : (Instr.fieldAt 37 (.pointer (some ⟨b, o, none⟩)) 3).run Tryz.prog w = .ok (.pointer (some ⟨b, o + 3, none⟩)) w := by go_simp
theorem faPk0 (w : World) (b o : Nat) : (Instr.fieldAt 39 (.pointer (some ⟨b, o, none⟩)) 0).run Tryz.prog w = .ok (.pointer (some ⟨b, o, none⟩)) w := by go_simp
theorem faPk1 (w : World) (b o : Nat) : (Instr.fieldAt 39 (.pointer (some ⟨b, o, none⟩)) 1).run Tryz.prog w = .ok (.pointer (some ⟨b, o + 1, none⟩)) w := by go_simp
theorem faPk2 (w : World) (b o : Nat) : (Instr.fieldAt 39 (.pointer (some ⟨b, o, none⟩)) 2).run Tryz.prog w = .ok (.pointer (some ⟨b, o + 2, none⟩)) w := by go_simp
theorem faPk3 (w : World) (b o : Nat) : (Instr.fieldAt 39 (.pointer (some ⟨b, o, none⟩)) 3).run Tryz.prog w = .ok (.pointer (some ⟨b, o + 3, none⟩)) w := by go_simp
theorem faPk4 (w : World) (b o : Nat) : (Instr.fieldAt 39 (.pointer (some ⟨b, o, none⟩)) 4).run Tryz.prog w = .ok (.pointer (some ⟨b, o + 4, none⟩)) w := by go_simp
theorem faSn1 (w : World) (b o : Nat) : (Instr.fieldAt 115 (.pointer (some ⟨b, o, none⟩)) 1).run Tryz.prog w = .ok (.pointer (some ⟨b, o + 32, none⟩)) w := by go_simp
theorem faSn2 (w : World) (b o : Nat) : (Instr.fieldAt 115 (.pointer (some ⟨b, o, none⟩)) 2).run Tryz.prog w = .ok (.pointer (some ⟨b, o + 36, none⟩)) w := by go_simp
theorem faSn3 (w : World) (b o : Nat) : (Instr.fieldAt 115 (.pointer (some ⟨b, o, none⟩)) 3).run Tryz.prog w = .ok (.pointer (some ⟨b, o + 68, none⟩)) w := by go_simp
theorem faSn4 (w : World) (b o : Nat) : (Instr.fieldAt 115 (.pointer (some ⟨b, o, none⟩)) 4).run Tryz.prog w = .ok (.pointer (some ⟨b, o + 69, none⟩)) w := by go_simp
theorem faNm0 (w : World) (b o : Nat) : (Instr.fieldAt 148 (.pointer (some ⟨b, o, none⟩)) 0).run Tryz.prog w = .ok (.pointer (some ⟨b, o, none⟩)) w := by go_simp
theorem faNm1 (w : World) (b o : Nat) : (Instr.fieldAt 148 (.pointer (some ⟨b, o, none⟩)) 1).run Tryz.prog w = .ok (.pointer (some ⟨b, o + 1, none⟩)) w := by go_simp

end
end Go.Proofs.YtcclcemdodoiiaaGreatDoor
