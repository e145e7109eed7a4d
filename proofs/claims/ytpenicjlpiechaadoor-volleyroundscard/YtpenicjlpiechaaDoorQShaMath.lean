/- Digests as plain functions on lists of bytes and of numbers of 32 bits: no program. What the program's sha.reached answers. -/
import Derived.Test.YtpenicjlpiechaaDoorQBas
import Derived.Test.YtpenicjlpiechaaDoorRows
import Derived.WalkKit
import Derived.WalkSpells
import Derived.WalkLawsBesides
import Derived.RegionTactic
import Derived.BigRegion
import Derived.Deep.QuietTactic
import Derived.BigQuiet
namespace Go.Proofs.YtpenicjlpiechaaDoor
set_option maxRecDepth 10000
open Go
def ad (a b : BitVec 32) : BitVec 32 := a + b
def xr (a b : BitVec 32) : BitVec 32 := a ^^^ b
def an (a b : BitVec 32) : BitVec 32 := a &&& b
def nt (a : BitVec 32) : BitVec 32 := ~~~ a
def sr (a : BitVec 32) (k : Nat) : BitVec 32 := a >>> k
def rl (a : BitVec 32) (k : Int) : BitVec 32 := a.rotateLeft (k % 32).toNat
/-- What the eight numbers are at first. -/
def start0 : List (BitVec 32) := [1779033703#32, 3144134277#32, 1013904242#32, 2773480762#32, 1359893119#32, 2600822924#32, 528734635#32, 1541459225#32]
/-- The steps' constants. -/
def kon : List (BitVec 32) := [1116352408#32, 1899447441#32, 3049323471#32, 3921009573#32, 961987163#32, 1508970993#32, 2453635748#32, 2870763221#32, 3624381080#32, 310598401#32, 607225278#32, 1426881987#32, 1925078388#32, 2162078206#32, 2614888103#32, 3248222580#32, 3835390401#32, 4022224774#32, 264347078#32, 604807628#32, 770255983#32, 1249150122#32, 1555081692#32, 1996064986#32, 2554220882#32, 2821834349#32, 2952996808#32, 3210313671#32, 3336571891#32, 3584528711#32, 113926993#32, 338241895#32, 666307205#32, 773529912#32, 1294757372#32, 1396182291#32, 1695183700#32, 1986661051#32, 2177026350#32, 2456956037#32, 2730485921#32, 2820302411#32, 3259730800#32, 3345764771#32, 3516065817#32, 3600352804#32, 4094571909#32, 275423344#32, 430227734#32, 506948616#32, 659060556#32, 883997877#32, 958139571#32, 1322822218#32, 1537002063#32, 1747873779#32, 1955562222#32, 2024104815#32, 2227730452#32, 2361852424#32, 2428436474#32, 2756734187#32, 3204031479#32, 3329325298#32]
/-- The eight numbers that have grown by so much. -/
def reach (g : List (BitVec 32)) : List (BitVec 32) := List.zipWith ad g start0
/-- The number of four bytes. -/
def wd (b : List UInt8) : BitVec 32 := BitVec.ofNat 32 (num b)
def sx (x : BitVec 32) : BitVec 32 := xr (xr (rl x (-7)) (rl x (-18))) (sr x 3)
def sy (y : BitVec 32) : BitVec 32 := xr (xr (rl y (-17)) (rl y (-19))) (sr y 10)
/-- The next of a block's numbers. -/
def nextW (l : List (BitVec 32)) : BitVec 32 :=
  ad (ad (ad (l.getD (l.length - 16) 0) (sx (l.getD (l.length - 15) 0))) (l.getD (l.length - 7) 0)) (sy (l.getD (l.length - 2) 0))
def growW : Nat → List (BitVec 32) → List (BitVec 32)
  | 0, l => l
  | k + 1, l => growW k (l ++ [nextW l])
def w16 (b : List UInt8) : Nat → List (BitVec 32)
  | 0 => []
  | k + 1 => w16 b k ++ [wd ((b.drop (4 * k)).take 4)]
/-- A block's 64 numbers. -/
def spr (b : List UInt8) : List (BitVec 32) := growW 48 (w16 b 16)
structure R8 where
  a : BitVec 32
  b : BitVec 32
  c : BitVec 32
  d : BitVec 32
  e : BitVec 32
  f : BitVec 32
  g : BitVec 32
  h : BitVec 32
def tt (s : R8) (k w : BitVec 32) : BitVec 32 :=
  ad (ad (ad (ad s.h (xr (xr (rl s.e (-6)) (rl s.e (-11))) (rl s.e (-25)))) (xr (an s.e s.f) (an (nt s.e) s.g))) k) w
def uu (s : R8) : BitVec 32 :=
  ad (xr (xr (rl s.a (-2)) (rl s.a (-13))) (rl s.a (-22))) (xr (xr (an s.a s.b) (an s.a s.c)) (an s.b s.c))
def stp (s : R8) (k w : BitVec 32) : R8 := ⟨ad (tt s k w) (uu s), s.a, s.b, s.c, ad s.d (tt s k w), s.e, s.f, s.g⟩
def R8.of (l : List (BitVec 32)) : R8 := ⟨l.getD 0 0, l.getD 1 0, l.getD 2 0, l.getD 3 0, l.getD 4 0, l.getD 5 0, l.getD 6 0, l.getD 7 0⟩
def R8.list (s : R8) : List (BitVec 32) := [s.a, s.b, s.c, s.d, s.e, s.f, s.g, s.h]
/-- So many steps of a block. -/
def rnd (W : List (BitVec 32)) (s : R8) : Nat → R8
  | 0 => s
  | i + 1 => stp (rnd W s i) (kon.getD i 0) (W.getD i 0)
/-- A block gone through: by how much the eight numbers have grown then. -/
def thr (g : List (BitVec 32)) (b : List UInt8) : List (BitVec 32) := List.zipWith ad g (rnd (spr b) (R8.of (reach g)) 64).list
theorem start0_length : start0.length = 8 := rfl
theorem reach_length (g : List (BitVec 32)) (h : g.length = 8) : (reach g).length = 8 := by simp [reach, h, start0_length]
theorem thr_length (g : List (BitVec 32)) (b : List UInt8) (h : g.length = 8) : (thr g b).length = 8 := by simp [thr, h, R8.list]
theorem growW_length (k : Nat) (l : List (BitVec 32)) : (growW k l).length = l.length + k := by
  induction k generalizing l with
  | zero => rfl
  | succ k ih => rw [growW, ih]; simp; omega
theorem w16_length (b : List UInt8) (k : Nat) : (w16 b k).length = k := by
  induction k with
  | zero => rfl
  | succ k ih => rw [w16]; simp [ih]
theorem spr_length (b : List UInt8) : (spr b).length = 64 := by rw [spr, growW_length, w16_length]
theorem growW_snoc (k : Nat) (l : List (BitVec 32)) : growW (k + 1) l = growW k l ++ [nextW (growW k l)] := by
  induction k generalizing l with
  | zero => rfl
  | succ k ih => rw [growW, ih, growW]
/-- A state: by how much the eight numbers have grown, the bytes that wait, how many bytes there are. -/
structure St where
  g : List (BitVec 32)
  t : List UInt8
  n : Nat
def zeroSt : St := ⟨List.replicate 8 0, List.replicate 64 0, 0⟩
/-- One turn of More. -/
def one (s : St) (x : List UInt8) : St :=
  let h := s.n % 64
  let k := min x.length (64 - h)
  let t := s.t.take h ++ x.take k ++ s.t.drop (h + k)
  ⟨if h + k = 64 then thr s.g t else s.g, t, s.n + k⟩
def moreF : Nat → St → List UInt8 → St
  | 0, s, _ => s
  | f + 1, s, x => if x = [] then s else moreF f (one s x) (x.drop (min x.length (64 - s.n % 64)))
def more (s : St) (x : List UInt8) : St := moreF x.length s x
structure St.Ok (s : St) : Prop where
  g : s.g.length = 8
  t : s.t.length = 64
theorem one_ok (s : St) (x : List UInt8) (h : s.Ok) : (one s x).Ok := by
  constructor
  · simp only [one]; split
    · exact thr_length _ _ h.g
    · exact h.g
  · have := h.t; simp [one]; omega
theorem moreF_ok (f : Nat) (s : St) (x : List UInt8) (h : s.Ok) : (moreF f s x).Ok := by
  induction f generalizing s x with
  | zero => exact h
  | succ f ih =>
    rw [moreF]; split
    · exact h
    · exact ih _ _ (one_ok _ _ h)
theorem more_ok (s : St) (x : List UInt8) (h : s.Ok) : (more s x).Ok := moreF_ok _ _ _ h
theorem moreF_fuel (f e : Nat) (s : St) (x : List UInt8) (hf : x.length ≤ f) (he : x.length ≤ e) : moreF f s x = moreF e s x := by
  induction f generalizing e s x with
  | zero =>
    have : x = [] := List.eq_nil_of_length_eq_zero (by omega)
    subst this
    cases e <;> simp [moreF]
  | succ f ih =>
    cases e with
    | zero =>
      have : x = [] := List.eq_nil_of_length_eq_zero (by omega)
      subst this
      simp [moreF]
    | succ e =>
      rw [moreF, moreF]
      split
      · rfl
      · rename_i hx
        have h1 : 0 < x.length := List.length_pos_iff.2 hx
        have h2 : s.n % 64 < 64 := Nat.mod_lt _ (by decide)
        apply ih <;> (rw [List.length_drop]; omega)
theorem more_step (s : St) (x : List UInt8) (hx : x ≠ []) : more s x = more (one s x) (x.drop (min x.length (64 - s.n % 64))) := by
  have h1 : 0 < x.length := List.length_pos_iff.2 hx
  unfold more
  obtain ⟨n, hn⟩ : ∃ n, x.length = n + 1 := ⟨x.length - 1, by omega⟩
  rw [hn, moreF, if_neg hx, hn]
  have h2 : s.n % 64 < 64 := Nat.mod_lt _ (by decide)
  apply moreF_fuel
  · rw [List.length_drop]; omega
  · omega
theorem moreF_n (f : Nat) (s : St) (x : List UInt8) (hf : x.length ≤ f) : (moreF f s x).n = s.n + x.length := by
  induction f generalizing s x with
  | zero =>
    have : x = [] := List.eq_nil_of_length_eq_zero (by omega)
    subst this
    rfl
  | succ f ih =>
    rw [moreF]; split
    · rename_i h; simp [h]
    · rename_i hx
      have h1 : 0 < x.length := List.length_pos_iff.2 hx
      have h2 : s.n % 64 < 64 := Nat.mod_lt _ (by decide)
      rw [ih _ _ (by rw [List.length_drop]; omega), List.length_drop]
      simp only [one]; omega
theorem more_n (s : St) (x : List UInt8) : (more s x).n = s.n + x.length := moreF_n _ _ _ (Nat.le_refl _)
/-- What Key lays behind a text: a byte 128 and bytes 0. -/
def fillB (n : Nat) : List UInt8 := 128 :: List.replicate (63 - (n + 8) % 64) 0
def keyG (s : St) : List (BitVec 32) := reach (more (more s (fillB s.n)) (putL (8 * s.n) 8)).g
/-- Numbers as bytes, the highest first. -/
def bytesW (l : List (BitVec 32)) : List UInt8 := l.flatMap fun x => putL x.toNat 4
def key (s : St) : List UInt8 := bytesW (keyG s)
def sum (x : List UInt8) : List UInt8 := key (more zeroSt x)
theorem zeroSt_ok : zeroSt.Ok := ⟨rfl, rfl⟩
theorem keyG_length (s : St) (h : s.Ok) : (keyG s).length = 8 := reach_length _ (more_ok _ _ (more_ok _ _ h)).g
theorem bytesW_length (l : List (BitVec 32)) : (bytesW l).length = 4 * l.length := by
  induction l with
  | nil => rfl
  | cons x l ih => rw [bytesW, List.flatMap_cons, List.length_append, putL_length, List.length_cons]; unfold bytesW at ih; omega
theorem key_length (s : St) (h : s.Ok) : (key s).length = 32 := by rw [key, bytesW_length, keyG_length s h]
theorem sum_length (x : List UInt8) : (sum x).length = 32 := key_length _ (more_ok _ _ zeroSt_ok)
/-- The eight numbers behind so many blocks of a text. -/
def gk (T : List UInt8) : Nat → List (BitVec 32)
  | 0 => List.replicate 8 0
  | k + 1 => thr (gk T k) ((T.drop (64 * k)).take 64)
theorem gk_append (T x : List UInt8) (k : Nat) (h : 64 * k ≤ T.length) : gk (T ++ x) k = gk T k := by
  induction k with
  | zero => rfl
  | succ k ih =>
    rw [gk, gk, ih (by omega), List.drop_append_of_le_length (by omega), List.take_append_of_le_length (by rw [List.length_drop]; omega)]
/-- A state is that of a text. -/
structure Rep (T : List UInt8) (s : St) : Prop where
  ok : s.Ok
  n : s.n = T.length
  g : s.g = gk T (T.length / 64)
  t : s.t.take (T.length % 64) = T.drop (64 * (T.length / 64))
theorem rep_zero : Rep [] zeroSt := ⟨zeroSt_ok, rfl, rfl, rfl⟩
theorem rep_one (T x : List UInt8) (s : St) (h : Rep T s) (hx : x ≠ []) : Rep (T ++ x.take (min x.length (64 - T.length % 64))) (one s x) := by
  have h1 : 0 < x.length := List.length_pos_iff.2 hx
  have h2 : T.length % 64 < 64 := Nat.mod_lt _ (by decide)
  have h3 := Nat.div_add_mod T.length 64
  have hn := h.n
  obtain ⟨q, hq⟩ : ∃ q, T.length / 64 = q := ⟨_, rfl⟩
  obtain ⟨r, hr⟩ : ∃ r, T.length % 64 = r := ⟨_, rfl⟩
  obtain ⟨k, hk⟩ : ∃ k, min x.length (64 - r) = k := ⟨_, rfl⟩
  have hg := h.g
  have ht := h.t
  have hlt := h.ok.t
  rw [hq] at hg ht h3
  rw [hr] at ht h2 h3 ⊢
  have hl : (T ++ x.take k).length = T.length + k := by rw [List.length_append, List.length_take]; omega
  have ht2 : s.t.take r ++ x.take k = (T ++ x.take k).drop (64 * q) := by
    rw [ht, List.drop_append_of_le_length (by omega)]
  have ht2l : (s.t.take r ++ x.take k).length = r + k := by simp; omega
  refine ⟨one_ok _ _ h.ok, ?_, ?_, ?_⟩
  · rw [hk, hl]; simp only [one, hn, hr, hk]
  · simp only [one, hn, hr, hk]
    rw [hl]
    by_cases hf : r + k = 64
    · rw [if_pos hf]
      have e1 : (T.length + k) / 64 = q + 1 := by omega
      rw [e1, gk, hg, gk_append _ _ _ (by omega), ← ht2]
      have e2 : s.t.drop (r + k) = [] := List.drop_eq_nil_of_le (by omega)
      rw [e2, List.append_nil, List.take_of_length_le (l := s.t.take r ++ x.take k) (by omega)]
    · rw [if_neg hf]
      have e1 : (T.length + k) / 64 = q := by omega
      rw [e1, hg, gk_append _ _ _ (by omega)]
  · rw [hk, hl]
    simp only [one, hn, hr, hk]
    by_cases hf : r + k = 64
    · have e1 : (T.length + k) / 64 = q + 1 := by omega
      have e2 : (T.length + k) % 64 = 0 := by omega
      rw [e1, e2, List.take_zero, List.drop_eq_nil_of_le (by omega)]
    · have e1 : (T.length + k) / 64 = q := by omega
      have e2 : (T.length + k) % 64 = r + k := by omega
      rw [e1, e2, List.take_append_of_le_length (by omega), List.take_of_length_le (by omega), ht2]
theorem rep_moreF (f : Nat) (T x : List UInt8) (s : St) (hf : x.length ≤ f) (h : Rep T s) : Rep (T ++ x) (moreF f s x) := by
  induction f generalizing T s x with
  | zero =>
    have : x = [] := List.eq_nil_of_length_eq_zero (by omega)
    subst this
    simpa [moreF] using h
  | succ f ih =>
    rw [moreF]; split
    · rename_i hx; subst hx; simpa using h
    · rename_i hx
      have h1 : 0 < x.length := List.length_pos_iff.2 hx
      have h2 : s.n % 64 < 64 := Nat.mod_lt _ (by decide)
      have hr := ih (T ++ x.take (min x.length (64 - s.n % 64))) (x.drop (min x.length (64 - s.n % 64))) (one s x) (by rw [List.length_drop]; omega) (by rw [h.n]; exact rep_one T x s h hx)
      rwa [List.append_assoc, List.take_append_drop] at hr
theorem rep_more (T x : List UInt8) (s : St) (h : Rep T s) : Rep (T ++ x) (more s x) := rep_moreF _ _ _ _ (Nat.le_refl _) h
/-- A text with what comes behind it. -/
def filled (T : List UInt8) : List UInt8 := T ++ fillB T.length ++ putL (8 * T.length) 8
/-- A text's digest. -/
def dig (T : List UInt8) : List UInt8 := bytesW (reach (gk (filled T) ((filled T).length / 64)))
theorem key_rep (T : List UInt8) (s : St) (h : Rep T s) : key s = dig T := by
  have h2 := rep_more _ (putL (8 * T.length) 8) _ (rep_more _ (fillB T.length) s h)
  rw [key, keyG, dig, h.n, h2.g]; rfl
theorem sum_dig (T : List UInt8) : sum T = dig T := key_rep T _ (by simpa using rep_more [] T _ rep_zero)
theorem key_more (T x : List UInt8) (s : St) (h : Rep T s) : key (more s x) = sum (T ++ x) := by rw [sum_dig, key_rep _ _ (rep_more T x s h)]
end Go.Proofs.YtpenicjlpiechaaDoor
namespace Go.Proofs.YtpenicjlpiechaaDoor
set_option maxRecDepth 10000
open Go.RowKit
set_option linter.unusedVariables false
/-- Numbers of 32 bits as cells. -/
def c32 (l : List (BitVec 32)) : List Value := l.map fun x => .int .u32 x.toNat
theorem c32_length (l : List (BitVec 32)) : (c32 l).length = l.length := by simp [c32]
theorem c32_one (l : List (BitVec 32)) : ∀ v ∈ c32 l, v.oneCell' = true := by
  intro v hv; obtain ⟨_, _, rfl⟩ := List.mem_map.1 hv; rfl
theorem c32_at (l : List (BitVec 32)) (i : Nat) (h : i < l.length) : (c32 l)[i]? = some (.int .u32 ((l.getD i 0).toNat : Int)) := by
  simp [c32, h]
/-- The two tables, as the program's text lays them. -/
structure Tabs (w : World) : Prop where
  s : ∀ i, i < 8 → w.cell? ⟨1, i, none⟩ = some (.int .u32 ((start0.getD i 0).toNat : Int))
  k : ∀ i, i < 64 → w.cell? ⟨0, i, none⟩ = some (.int .u32 ((kon.getD i 0).toNat : Int))
theorem Tabs.below {B : Nat} {w w' : World} (h : Tabs w) (hb : Below B w w') (hB : 2 ≤ B) : Tabs w' :=
  ⟨fun i hi => (hb.cell (p := ⟨1, i, none⟩) (show 1 < B by omega)).trans (h.s i hi), fun i hi => (hb.cell (p := ⟨0, i, none⟩) (show 0 < B by omega)).trans (h.k i hi)⟩
theorem Tabs.size {w : World} (h : Tabs w) : 2 ≤ w.heap.size := World.block_lt_of_cell? w _ (h.s 0 (by decide))
theorem size134 : (Tryd.prog.info? 134).map (·.size) = some 8 := by kernel_rfl
theorem zero134 (w : World) : (zeroValue 134).run Tryd.prog w = .ok (.agg (c32 (List.replicate 8 0)).toArray) w := Tryd.zeroValue134 w
theorem add32 (a b : BitVec 32) : ((a.toNat : Int) + (b.toNat : Int)) % 4294967296 = ((ad a b).toNat : Int) := by
  rw [ad, BitVec.toNat_add]; omega
/-- What reached has laid after k rounds. -/
def prt (g : List (BitVec 32)) (k : Nat) : List (BitVec 32) := (reach g).take k ++ g.drop k
theorem prt_length (g : List (BitVec 32)) (k : Nat) (hg : g.length = 8) (hk : k ≤ 8) : (prt g k).length = 8 := by
  have := reach_length g hg
  simp [prt]; omega
theorem prt_at (g : List (BitVec 32)) (k : Nat) (hg : g.length = 8) (hk : k < 8) : (prt g k).getD k 0 = g.getD k 0 := by
  have := reach_length g hg
  simp only [prt, List.getD_eq_getElem?_getD]
  rw [List.getElem?_append_right (by simp; omega)]
  simp [show k - min k 8 = 0 by omega, this]
theorem prt_step (g : List (BitVec 32)) (k : Nat) (hg : g.length = 8) (hk : k < 8) : (prt g k).set k (ad (g.getD k 0) (start0.getD k 0)) = prt g (k + 1) := by
  have h1 := reach_length g hg
  have h2 := start0_length
  have e : ad (g.getD k 0) (start0.getD k 0) = (reach g)[k] := by
    simp [reach, hg, h2, hk]
  rw [e, prt, prt, List.set_append_right _ _ (by simp; omega), List.take_succ_eq_append_getElem (l := reach g) (by omega)]
  simp only [List.length_take, h1, show k - min k 8 = 0 by omega]
  rw [List.drop_eq_getElem_cons (by omega), List.set_cons_zero, List.append_assoc, List.singleton_append]
theorem prt_end (g : List (BitVec 32)) (hg : g.length = 8) : prt g 8 = reach g := by
  have h1 := reach_length g hg
  rw [prt, List.take_of_length_le (by omega), List.drop_eq_nil_of_le (by omega), List.append_nil]
theorem c32_set (l : List (BitVec 32)) (k : Nat) (x : BitVec 32) : (c32 l).set k (.int .u32 x.toNat) = c32 (l.set k x) := by
  simp [c32]
set_option maxHeartbeats 1000000 in
theorem reached_any (g : List (BitVec 32)) (hg : g.length = 8) (w : World) (hT : Tabs w) :
    Calls Tryd.prog 92 #[.agg (c32 g).toArray] w fun e w' => e = .returned (.agg (c32 (reach g)).toArray) ∧ Below w.heap.size w w' := by
  have hts := hT.size
  go_enter Tryd.func92, Tryd.ntmps92
  go_wp2_with (first
    | ((with_reducible refine at_box 134 ?_); refine L_box 134 _ (c32 g) rfl ?_; intro w1 h1 hb1)
    | ((with_reducible refine at_alloc 134 ?_); refine L_alloc 134 _ zero134 ?_; intro w2 h2 hb2))
  have hB : Below w.heap.size w w2 := h2.below (h1.below (Below.refl _ _) (Nat.le_refl _)) h1.size
  have hne : w.heap.size < w1.heap.size := hb1.lt
  have hb1' := h2.blk hb1 (by omega)
  go_loopw [4] (fun i wr => ∃ k : Nat, k ≤ 8 ∧ i = .int .i64 k ∧ Blk wr w.heap.size (c32 (prt g k)) 134 ∧ Blk wr w1.heap.size (c32 (List.replicate 8 0)) 134 ∧ Below w.heap.size w wr) (fun i _ => 8 - (intOf i).toNat)
  case atStart => exact ⟨0, by omega, rfl, by simpa [prt] using hb1', hb2, hB⟩
  case round =>
    obtain ⟨k, hk, rfl, hg1, hg2, hbw⟩ := hrel
    clear hb1' hb2 hb1 hB h1 h2
    by_cases hlt : k < 8
    · have hc1 := hg1.cell k _ (c32_at _ k (by rw [prt_length g k hg hk]; exact hlt))
      rw [prt_at g k hg hlt] at hc1
      have hf1 := hg1.frozen k
      have hc2 := (hT.below hbw hts).s k hlt
      obtain ⟨x, hx⟩ : ∃ x, g.getD k 0 = x := ⟨_, rfl⟩
      obtain ⟨y, hy⟩ : ∃ y, start0.getD k 0 = y := ⟨_, rfl⟩
      rw [hx] at hc1
      rw [hy] at hc2
      have hst : Hid ((prt g k).set k (ad x y) = prt g (k + 1)) := by rw [← hx, ← hy]; exact prt_step g k hg hlt
      clear hx hy
      have hadd := add32 x y
      go_wp2
      go_region
      go_wp2
      go_roundw
      case rel =>
        obtain ⟨t1, t2⟩ := turn_setCell wr.drew w.heap.size k (.int .u32 ((ad x y).toNat : Int)) _ 134 hg1.drew
        refine ⟨k + 1, by omega, by go_num, ?_, t1.blk hg2.drew (by omega), t1.below hbw.drew (Nat.le_refl _)⟩
        rw [c32_set, hst.out] at t2
        exact t2
      case measure => simp [intOf]; omega
    · obtain rfl : k = 8 := by omega
      rw [prt_end g hg] at hg1
      have hl8 : (c32 (reach g)).length = 8 := by rw [c32_length, reach_length g hg]
      have hz : Hid ((Tryd.prog.info? 134).map (·.size) = some (c32 (reach g)).length) := by rw [hl8]; exact size134
      have HL : Hid ((c32 (reach g)).length = (c32 (List.replicate 8 0)).length) := hl8
      clear hl8
      go_wp2_with (first
        | ((with_reducible refine at_load 134 ?_); refine L_load_all 134 _ w.heap.size _ 134 _ rfl hg1 Tryd.underlying134 rfl hz.out ?_)
        | ((with_reducible refine at_store 134 ?_); refine L_store_all 134 _ _ w1.heap.size (c32 (reach g)) _ 134 rfl rfl hg2 hz.out HL.out (c32_one _) ?_; intro w3 h3 hb3))
      (try simp only [Exit.inBlock, Exit.then])
      refine bodyPost_ret (results_blk rfl w1.heap.size (c32 (reach g)) _ rfl hb3 Tryd.underlying134 rfl hz.out) rfl ⟨rfl, h3.below hbw (by omega)⟩
end Go.Proofs.YtpenicjlpiechaaDoor
