/- Digests as plain functions on lists of bytes and of numbers of 32 bits: no program. -/
import Derived.Test.YtpenicjlpiechaaDoorBas
namespace Go.Proofs.YtpenicjlpiechaaDoor
set_option maxRecDepth 10000
open Go
def ad (a b : BitVec 32) : BitVec 32 := a + b
def xr (a b : BitVec 32) : BitVec 32 := a ^^^ b
def an (a b : BitVec 32) : BitVec 32 := a &&& b
def nt (a : BitVec 32) : BitVec 32 := ~~~ a
def sr (a : BitVec 32) (k : Nat) : BitVec 32 := a >>> k
def rl (a : BitVec 32) (k : Int) : BitVec 32 := a.rotateLeft (k % 32).toNat
/-- What the eight numbers are at first. -/
def start0 : List (BitVec 32) := [1779033703#32, 3144134277#32, 1013904242#32, 2773480762#32, 1359893119#32, 2600822924#32, 528734635#32, 1541459225#32]
/-- The steps' constants. -/
def kon : List (BitVec 32) := [1116352408#32, 1899447441#32, 3049323471#32, 3921009573#32, 961987163#32, 1508970993#32, 2453635748#32, 2870763221#32, 3624381080#32, 310598401#32, 607225278#32, 1426881987#32, 1925078388#32, 2162078206#32, 2614888103#32, 3248222580#32, 3835390401#32, 4022224774#32, 264347078#32, 604807628#32, 770255983#32, 1249150122#32, 1555081692#32, 1996064986#32, 2554220882#32, 2821834349#32, 2952996808#32, 3210313671#32, 3336571891#32, 3584528711#32, 113926993#32, 338241895#32, 666307205#32, 773529912#32, 1294757372#32, 1396182291#32, 1695183700#32, 1986661051#32, 2177026350#32, 2456956037#32, 2730485921#32, 2820302411#32, 3259730800#32, 3345764771#32, 3516065817#32, 3600352804#32, 4094571909#32, 275423344#32, 430227734#32, 506948616#32, 659060556#32, 883997877#32, 958139571#32, 1322822218#32, 1537002063#32, 1747873779#32, 1955562222#32, 2024104815#32, 2227730452#32, 2361852424#32, 2428436474#32, 2756734187#32, 3204031479#32, 3329325298#32]
/-- The eight numbers that have grown by so much. -/
def reach (g : List (BitVec 32)) : List (BitVec 32) := List.zipWith ad g start0
/-- The number of four bytes. -/
def wd (b : List UInt8) : BitVec 32 := BitVec.ofNat 32 (num b)
def sx (x : BitVec 32) : BitVec 32 := xr (xr (rl x (-7)) (rl x (-18))) (sr x 3)
def sy (y : BitVec 32) : BitVec 32 := xr (xr (rl y (-17)) (rl y (-19))) (sr y 10)
/-- The next of a block's numbers. -/
def nextW (l : List (BitVec 32)) : BitVec 32 :=
  ad (ad (ad (l.getD (l.length - 16) 0) (sx (l.getD (l.length - 15) 0))) (l.getD (l.length - 7) 0)) (sy (l.getD (l.length - 2) 0))
def growW : Nat → List (BitVec 32) → List (BitVec 32)
  | 0, l => l
  | k + 1, l => growW k (l ++ [nextW l])
def w16 (b : List UInt8) : Nat → List (BitVec 32)
  | 0 => []
  | k + 1 => w16 b k ++ [wd ((b.drop (4 * k)).take 4)]
/-- A block's 64 numbers. -/
def spr (b : List UInt8) : List (BitVec 32) := growW 48 (w16 b 16)
structure R8 where
  a : BitVec 32
  b : BitVec 32
  c : BitVec 32
  d : BitVec 32
  e : BitVec 32
  f : BitVec 32
  g : BitVec 32
  h : BitVec 32
def tt (s : R8) (k w : BitVec 32) : BitVec 32 :=
  ad (ad (ad (ad s.h (xr (xr (rl s.e (-6)) (rl s.e (-11))) (rl s.e (-25)))) (xr (an s.e s.f) (an (nt s.e) s.g))) k) w
def uu (s : R8) : BitVec 32 :=
  ad (xr (xr (rl s.a (-2)) (rl s.a (-13))) (rl s.a (-22))) (xr (xr (an s.a s.b) (an s.a s.c)) (an s.b s.c))
def stp (s : R8) (k w : BitVec 32) : R8 := ⟨ad (tt s k w) (uu s), s.a, s.b, s.c, ad s.d (tt s k w), s.e, s.f, s.g⟩
def R8.of (l : List (BitVec 32)) : R8 := ⟨l.getD 0 0, l.getD 1 0, l.getD 2 0, l.getD 3 0, l.getD 4 0, l.getD 5 0, l.getD 6 0, l.getD 7 0⟩
def R8.list (s : R8) : List (BitVec 32) := [s.a, s.b, s.c, s.d, s.e, s.f, s.g, s.h]
/-- So many steps of a block. -/
def rnd (W : List (BitVec 32)) (s : R8) : Nat → R8
  | 0 => s
  | i + 1 => stp (rnd W s i) (kon.getD i 0) (W.getD i 0)
/-- A block gone through: by how much the eight numbers have grown then. -/
def thr (g : List (BitVec 32)) (b : List UInt8) : List (BitVec 32) := List.zipWith ad g (rnd (spr b) (R8.of (reach g)) 64).list
theorem start0_length : start0.length = 8 := rfl
theorem kon_length : kon.length = 64 := rfl
theorem reach_length (g : List (BitVec 32)) (h : g.length = 8) : (reach g).length = 8 := by simp [reach, h, start0_length]
theorem thr_length (g : List (BitVec 32)) (b : List UInt8) (h : g.length = 8) : (thr g b).length = 8 := by simp [thr, h, R8.list]
theorem growW_length (k : Nat) (l : List (BitVec 32)) : (growW k l).length = l.length + k := by
  induction k generalizing l with
  | zero => rfl
  | succ k ih => rw [growW, ih]; simp; omega
theorem w16_length (b : List UInt8) (k : Nat) : (w16 b k).length = k := by
  induction k with
  | zero => rfl
  | succ k ih => rw [w16]; simp [ih]
theorem spr_length (b : List UInt8) : (spr b).length = 64 := by rw [spr, growW_length, w16_length]
theorem growW_snoc (k : Nat) (l : List (BitVec 32)) : growW (k + 1) l = growW k l ++ [nextW (growW k l)] := by
  induction k generalizing l with
  | zero => rfl
  | succ k ih => rw [growW, ih, growW]
/-- A state: by how much the eight numbers have grown, the bytes that wait, how many bytes there are. -/
structure St where
  g : List (BitVec 32)
  t : List UInt8
  n : Nat
def zeroSt : St := ⟨List.replicate 8 0, List.replicate 64 0, 0⟩
/-- One turn of More. -/
def one (s : St) (x : List UInt8) : St :=
  let h := s.n % 64
  let k := min x.length (64 - h)
  let t := s.t.take h ++ x.take k ++ s.t.drop (h + k)
  ⟨if h + k = 64 then thr s.g t else s.g, t, s.n + k⟩
def moreF : Nat → St → List UInt8 → St
  | 0, s, _ => s
  | f + 1, s, x => if x = [] then s else moreF f (one s x) (x.drop (min x.length (64 - s.n % 64)))
def more (s : St) (x : List UInt8) : St := moreF x.length s x
structure St.Ok (s : St) : Prop where
  g : s.g.length = 8
  t : s.t.length = 64
theorem one_ok (s : St) (x : List UInt8) (h : s.Ok) : (one s x).Ok := by
  constructor
  · simp only [one]; split
    · exact thr_length _ _ h.g
    · exact h.g
  · have := h.t; simp [one]; omega
theorem moreF_ok (f : Nat) (s : St) (x : List UInt8) (h : s.Ok) : (moreF f s x).Ok := by
  induction f generalizing s x with
  | zero => exact h
  | succ f ih =>
    rw [moreF]; split
    · exact h
    · exact ih _ _ (one_ok _ _ h)
theorem more_ok (s : St) (x : List UInt8) (h : s.Ok) : (more s x).Ok := moreF_ok _ _ _ h
theorem moreF_fuel (f e : Nat) (s : St) (x : List UInt8) (hf : x.length ≤ f) (he : x.length ≤ e) : moreF f s x = moreF e s x := by
  induction f generalizing e s x with
  | zero =>
    have : x = [] := List.eq_nil_of_length_eq_zero (by omega)
    subst this
    cases e <;> simp [moreF]
  | succ f ih =>
    cases e with
    | zero =>
      have : x = [] := List.eq_nil_of_length_eq_zero (by omega)
      subst this
      simp [moreF]
    | succ e =>
      rw [moreF, moreF]
      split
      · rfl
      · rename_i hx
        have h1 : 0 < x.length := List.length_pos_iff.2 hx
        have h2 : s.n % 64 < 64 := Nat.mod_lt _ (by decide)
        apply ih <;> (rw [List.length_drop]; omega)
theorem more_nil (s : St) : more s [] = s := rfl
theorem more_step (s : St) (x : List UInt8) (hx : x ≠ []) : more s x = more (one s x) (x.drop (min x.length (64 - s.n % 64))) := by
  have h1 : 0 < x.length := List.length_pos_iff.2 hx
  unfold more
  obtain ⟨n, hn⟩ : ∃ n, x.length = n + 1 := ⟨x.length - 1, by omega⟩
  rw [hn, moreF, if_neg hx, hn]
  have h2 : s.n % 64 < 64 := Nat.mod_lt _ (by decide)
  apply moreF_fuel
  · rw [List.length_drop]; omega
  · omega
theorem moreF_n (f : Nat) (s : St) (x : List UInt8) (hf : x.length ≤ f) : (moreF f s x).n = s.n + x.length := by
  induction f generalizing s x with
  | zero =>
    have : x = [] := List.eq_nil_of_length_eq_zero (by omega)
    subst this
    rfl
  | succ f ih =>
    rw [moreF]; split
    · rename_i h; simp [h]
    · rename_i hx
      have h1 : 0 < x.length := List.length_pos_iff.2 hx
      have h2 : s.n % 64 < 64 := Nat.mod_lt _ (by decide)
      rw [ih _ _ (by rw [List.length_drop]; omega), List.length_drop]
      simp only [one]; omega
theorem more_n (s : St) (x : List UInt8) : (more s x).n = s.n + x.length := moreF_n _ _ _ (Nat.le_refl _)
/-- What Key lays behind a text: a byte 128 and bytes 0. -/
def fillB (n : Nat) : List UInt8 := 128 :: List.replicate (63 - (n + 8) % 64) 0
def keyG (s : St) : List (BitVec 32) := reach (more (more s (fillB s.n)) (putL (8 * s.n) 8)).g
/-- Numbers as bytes, the highest first. -/
def bytesW (l : List (BitVec 32)) : List UInt8 := l.flatMap fun x => putL x.toNat 4
def key (s : St) : List UInt8 := bytesW (keyG s)
def sum (x : List UInt8) : List UInt8 := key (more zeroSt x)
theorem zeroSt_ok : zeroSt.Ok := ⟨rfl, rfl⟩
theorem keyG_length (s : St) (h : s.Ok) : (keyG s).length = 8 := reach_length _ (more_ok _ _ (more_ok _ _ h)).g
theorem bytesW_length (l : List (BitVec 32)) : (bytesW l).length = 4 * l.length := by
  induction l with
  | nil => rfl
  | cons x l ih => rw [bytesW, List.flatMap_cons, List.length_append, putL_length, List.length_cons]; unfold bytesW at ih; omega
theorem key_length (s : St) (h : s.Ok) : (key s).length = 32 := by rw [key, bytesW_length, keyG_length s h]
theorem sum_length (x : List UInt8) : (sum x).length = 32 := key_length _ (more_ok _ _ zeroSt_ok)
/-- The eight numbers behind so many blocks of a text. -/
def gk (T : List UInt8) : Nat → List (BitVec 32)
  | 0 => List.replicate 8 0
  | k + 1 => thr (gk T k) ((T.drop (64 * k)).take 64)
theorem gk_append (T x : List UInt8) (k : Nat) (h : 64 * k ≤ T.length) : gk (T ++ x) k = gk T k := by
  induction k with
  | zero => rfl
  | succ k ih =>
    rw [gk, gk, ih (by omega), List.drop_append_of_le_length (by omega), List.take_append_of_le_length (by rw [List.length_drop]; omega)]
/-- A state is that of a text. -/
structure Rep (T : List UInt8) (s : St) : Prop where
  ok : s.Ok
  n : s.n = T.length
  g : s.g = gk T (T.length / 64)
  t : s.t.take (T.length % 64) = T.drop (64 * (T.length / 64))
theorem rep_zero : Rep [] zeroSt := ⟨zeroSt_ok, rfl, rfl, rfl⟩
theorem rep_one (T x : List UInt8) (s : St) (h : Rep T s) (hx : x ≠ []) : Rep (T ++ x.take (min x.length (64 - T.length % 64))) (one s x) := by
  have h1 : 0 < x.length := List.length_pos_iff.2 hx
  have h2 : T.length % 64 < 64 := Nat.mod_lt _ (by decide)
  have h3 := Nat.div_add_mod T.length 64
  have hn := h.n
  obtain ⟨q, hq⟩ : ∃ q, T.length / 64 = q := ⟨_, rfl⟩
  obtain ⟨r, hr⟩ : ∃ r, T.length % 64 = r := ⟨_, rfl⟩
  obtain ⟨k, hk⟩ : ∃ k, min x.length (64 - r) = k := ⟨_, rfl⟩
  have hg := h.g
  have ht := h.t
  have hlt := h.ok.t
  rw [hq] at hg ht h3
  rw [hr] at ht h2 h3 ⊢
  have hl : (T ++ x.take k).length = T.length + k := by rw [List.length_append, List.length_take]; omega
  have ht2 : s.t.take r ++ x.take k = (T ++ x.take k).drop (64 * q) := by
    rw [ht, List.drop_append_of_le_length (by omega)]
  have ht2l : (s.t.take r ++ x.take k).length = r + k := by simp; omega
  refine ⟨one_ok _ _ h.ok, ?_, ?_, ?_⟩
  · rw [hk, hl]; simp only [one, hn, hr, hk]
  · simp only [one, hn, hr, hk]
    rw [hl]
    by_cases hf : r + k = 64
    · rw [if_pos hf]
      have e1 : (T.length + k) / 64 = q + 1 := by omega
      rw [e1, gk, hg, gk_append _ _ _ (by omega), ← ht2]
      have e2 : s.t.drop (r + k) = [] := List.drop_eq_nil_of_le (by omega)
      rw [e2, List.append_nil, List.take_of_length_le (l := s.t.take r ++ x.take k) (by omega)]
    · rw [if_neg hf]
      have e1 : (T.length + k) / 64 = q := by omega
      rw [e1, hg, gk_append _ _ _ (by omega)]
  · rw [hk, hl]
    simp only [one, hn, hr, hk]
    by_cases hf : r + k = 64
    · have e1 : (T.length + k) / 64 = q + 1 := by omega
      have e2 : (T.length + k) % 64 = 0 := by omega
      rw [e1, e2, List.take_zero, List.drop_eq_nil_of_le (by omega)]
    · have e1 : (T.length + k) / 64 = q := by omega
      have e2 : (T.length + k) % 64 = r + k := by omega
      rw [e1, e2, List.take_append_of_le_length (by omega), List.take_of_length_le (by omega), ht2]
theorem rep_moreF (f : Nat) (T x : List UInt8) (s : St) (hf : x.length ≤ f) (h : Rep T s) : Rep (T ++ x) (moreF f s x) := by
  induction f generalizing T s x with
  | zero =>
    have : x = [] := List.eq_nil_of_length_eq_zero (by omega)
    subst this
    simpa [moreF] using h
  | succ f ih =>
    rw [moreF]; split
    · rename_i hx; subst hx; simpa using h
    · rename_i hx
      have h1 : 0 < x.length := List.length_pos_iff.2 hx
      have h2 : s.n % 64 < 64 := Nat.mod_lt _ (by decide)
      have hr := ih (T ++ x.take (min x.length (64 - s.n % 64))) (x.drop (min x.length (64 - s.n % 64))) (one s x) (by rw [List.length_drop]; omega) (by rw [h.n]; exact rep_one T x s h hx)
      rwa [List.append_assoc, List.take_append_drop] at hr
theorem rep_more (T x : List UInt8) (s : St) (h : Rep T s) : Rep (T ++ x) (more s x) := rep_moreF _ _ _ _ (Nat.le_refl _) h
/-- A text with what comes behind it. -/
def filled (T : List UInt8) : List UInt8 := T ++ fillB T.length ++ putL (8 * T.length) 8
theorem filled_length (T : List UInt8) : (filled T).length % 64 = 0 := by
  have : (T.length + 8) % 64 < 64 := Nat.mod_lt _ (by decide)
  simp [filled, fillB, putL_length]; omega
/-- A text's digest. -/
def dig (T : List UInt8) : List UInt8 := bytesW (reach (gk (filled T) ((filled T).length / 64)))
theorem key_rep (T : List UInt8) (s : St) (h : Rep T s) : key s = dig T := by
  have h2 := rep_more _ (putL (8 * T.length) 8) _ (rep_more _ (fillB T.length) s h)
  rw [key, keyG, dig, h.n, h2.g]; rfl
theorem sum_dig (T : List UInt8) : sum T = dig T := key_rep T _ (by simpa using rep_more [] T _ rep_zero)
theorem key_more (T x : List UInt8) (s : St) (h : Rep T s) : key (more s x) = sum (T ++ x) := by rw [sum_dig, key_rep _ _ (rep_more T x s h)]
end Go.Proofs.YtpenicjlpiechaaDoor
