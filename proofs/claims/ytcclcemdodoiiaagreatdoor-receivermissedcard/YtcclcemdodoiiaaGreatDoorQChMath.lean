/- Keys, and what chains of them answer, as plain functions: no program. Walkers of a chain as plain data: which keys are minded, and how many; no program. Plans, tags, packets and what a sender answers, as plain functions: no program. -/
import Derived.Test.YtcclcemdodoiiaaGreatDoorQShaW5
import Derived.Test.YtcclcemdodoiiaaGreatDoorQMacA
namespace Go.Proofs.YtcclcemdodoiiaaGreatDoor
open Go Go.RowKit
set_option linter.unusedVariables false
/-- A key: 32 bytes. -/
structure Ky where
  l : List UInt8
  len : l.length = 32
theorem Ky.same {a b : Ky} (h : a.l = b.l) : a = b := by
  cases a; cases b; cases h; rfl
/-- The key of bytes 0. -/
def zk : Ky := ⟨List.replicate 32 0, rfl⟩
/-- The key of a byte 1 and bytes 0. -/
def k1 : Ky := ⟨1 :: List.replicate 31 0, rfl⟩
/-- So many digests on. -/
def wl (n : Nat) (k : Ky) : Ky := ⟨walkF n k.l, walkF_length n k.l k.len⟩
/-- The digest of a key's bytes. -/
def sm (k : Ky) : Ky := ⟨sum k.l, sum_length _⟩
/-- A key's tag of a text. -/
def tg (k : Ky) (t : ByteArray) : Ky := ⟨tag k.l t.data.toList, tag_length _ _⟩
theorem wl_zero (k : Ky) : wl 0 k = k := Ky.same rfl
theorem wl_succ (n : Nat) (k : Ky) : wl (n + 1) k = sm (wl n k) := Ky.same rfl
theorem wl_add (m n : Nat) (k : Ky) : wl m (wl n k) = wl (n + m) k := Ky.same (walkF_add m n k.l)
/-- Tell of a mind that knows the key k as the one n. -/
def tl (k : Ky) (n i : Int) : Ky × Int := if i < 0 ∨ n < i then (zk, 1) else (wl (min (n - i) 4096).toNat k, 0)
/-- Of mac.Of and the word of chains. -/
def chainW : ByteArray := ⟨#[99, 104, 97, 105, 110]⟩
def tagW : ByteArray := ⟨#[116, 97, 103]⟩
/-- Key. -/
def ky (s : Ky) (n i : Int) : Ky × Int := if n < 1 ∨ 1024 < n then (zk, 1) else tl (tg s chainW) n i
/-- Check. -/
def ck (k0 : Ky) (at' : Int) (k : Ky) (i most : Int) : Int :=
  if at' < 0 ∨ i ≤ at' then 1 else if most < i - at' ∨ 1024 < i - at' then 16 else if (wl (i - at').toNat k).l = k0.l then 0 else 13
/-- Learn. -/
def ln (k0 : Ky) (at' : Int) (k : Ky) (i most : Int) : (Ky × Int) × Int :=
  if ck k0 at' k i most = 0 then ((k, i), 0) else ((zk, 0), ck k0 at' k i most)
end Go.Proofs.YtcclcemdodoiiaaGreatDoor
namespace Go.Proofs.YtcclcemdodoiiaaGreatDoor
open Go Go.RowKit
set_option linter.unusedVariables false
/-- How many keys may be minded. -/
def mo (n : Nat) : Nat := Nat.log2 n + 3
/-- Each one that is minded lies half as far from a as the one ahead of it, at most. -/
def Hv (a : Nat) : List Nat → Prop
  | [] => True
  | [p] => a ≤ p
  | p :: q :: r => q < p ∧ 2 * (q - a) ≤ p - a ∧ Hv a (q :: r)
theorem Hv.tail {a p : Nat} {r : List Nat} (h : Hv a (p :: r)) : Hv a r := by
  cases r with
  | nil => trivial
  | cons q r => exact h.2.2
theorem Hv.ge {a : Nat} : ∀ {l : List Nat}, Hv a l → ∀ p ∈ l, a ≤ p
  | [], _, p, hp => by cases hp
  | [x], h, p, hp => by obtain rfl := List.mem_singleton.1 hp; exact h
  | x :: y :: r, h, p, hp => by
    have ih := h.2.2.ge
    rcases List.mem_cons.1 hp with rfl | hp
    · have := ih y (by simp); have := h.1; omega
    · exact ih p hp
theorem Hv.le {a : Nat} : ∀ {p : Nat} {r : List Nat}, Hv a (p :: r) → ∀ q ∈ r, q < p
  | p, [], _, q, hq => by cases hq
  | p, x :: r, h, q, hq => by
    rcases List.mem_cons.1 hq with rfl | hq
    · exact h.1
    · have := h.2.2.le q hq; have := h.1; omega
theorem Hv.mono {a b : Nat} (hab : a ≤ b) : ∀ {l : List Nat}, Hv a l → (∀ p ∈ l, b ≤ p) → Hv b l
  | [], _, _ => trivial
  | [x], _, h => h x (by simp)
  | x :: y :: r, h, hb => by
    refine ⟨h.1, ?_, h.2.2.mono hab (fun p hp => hb p (List.mem_cons_of_mem _ hp))⟩
    have h1 := h.2.1
    have h2 := hb x (by simp)
    have h3 := hb y (by simp)
    omega
theorem Hv.take {a : Nat} : ∀ {l : List Nat} (c : Nat), Hv a l → Hv a (l.take c)
  | [], c, _ => by simp [Hv]
  | _, 0, _ => by simp [Hv]
  | [x], c + 1, h => by simpa using h
  | x :: y :: r, 1, h => by
    have := h.ge x (by simp)
    simpa [Hv] using this
  | x :: y :: r, c + 2, h => by
    have := Hv.take (c + 1) h.2.2
    rw [List.take_succ_cons] at this
    rw [List.take_succ_cons, List.take_succ_cons]
    exact ⟨h.1, h.2.1, this⟩
theorem Hv.snoc {a : Nat} : ∀ {l : List Nat} {p q : Nat}, Hv a l → l.getLast? = some p → q < p → 2 * (q - a) ≤ p - a → a ≤ q → Hv a (l ++ [q])
  | [], _, _, _, hl, _, _, _ => by cases hl
  | [x], p, q, _, hl, h1, h2, h3 => by
    obtain rfl : x = p := by simpa using hl
    exact ⟨h1, h2, h3⟩
  | x :: y :: r, p, q, h, hl, h1, h2, h3 => ⟨h.1, h.2.1, h.2.2.snoc (by rw [List.getLast?_cons_cons] at hl; exact hl) h1 h2 h3⟩
theorem Hv.len {a : Nat} : ∀ {p q : Nat} {r : List Nat}, Hv a (p :: q :: r) → 2 ^ r.length ≤ p - a
  | p, q, [], h => by have h1 := h.1; have : a ≤ q := h.2.2; simp; omega
  | p, q, x :: r, h => by
    have ih := h.2.2.len
    have h2 := h.2.1
    rw [List.length_cons, Nat.pow_succ]
    omega
/-- A walker ahead of the key a of a chain of n: what it minds. -/
structure Ok (n a : Nat) (ms : List Nat) : Prop where
  one : 1 ≤ n
  top : n ≤ 1024
  at_ : a ≤ n + 1
  half : Hv a ms
  head : a ≤ n → ∃ r, ms = n :: r
  done : a = n + 1 → ms = []
theorem Ok.few {n a : Nat} {ms : List Nat} (h : Ok n a ms) : ms.length ≤ mo n := by
  have h0 := h.one
  have h4 := h.at_
  by_cases ha : a ≤ n
  · obtain ⟨r, rfl⟩ := h.head ha
    unfold mo
    cases r with
    | nil => simp
    | cons q r =>
      have h1 := h.half.len
      have h2 : 2 ^ r.length ≤ n := by omega
      have h3 := (Nat.le_log2 (by omega)).2 h2
      simp only [List.length_cons]
      omega
  · rw [h.done (by omega)]; simp
theorem Ok.mem {n a : Nat} {ms : List Nat} (h : Ok n a ms) : ∀ p ∈ ms, a ≤ p ∧ p ≤ n := by
  intro p hp
  refine ⟨h.half.ge p hp, ?_⟩
  have h4 := h.at_
  by_cases ha : a ≤ n
  · obtain ⟨r, rfl⟩ := h.head ha
    rcases List.mem_cons.1 hp with rfl | hp
    · exact Nat.le_refl _
    · exact Nat.le_of_lt (h.half.le p hp)
  · rw [h.done (by omega)] at hp; cases hp
theorem ok_new (n : Nat) (h1 : 1 ≤ n) (h2 : n ≤ 1024) : Ok n 0 [n] :=
  ⟨h1, h2, by omega, Nat.zero_le _, fun _ => ⟨[], rfl⟩, fun h => by omega⟩
theorem Ok.snoc {n a : Nat} {ms : List Nat} (h : Ok n a ms) {p : Nat} (hl : ms.getLast? = some p) (hp : a < p) : Ok n a (ms ++ [p - (p - a + 1) / 2]) := by
  have hm : p ∈ ms := List.mem_of_getLast? hl
  have hpn := (h.mem p hm).2
  refine ⟨h.one, h.top, h.at_, h.half.snoc hl (by omega) (by omega) (by omega), fun ha => ?_, fun ha => by omega⟩
  obtain ⟨r, rfl⟩ := h.head ha
  exact ⟨r ++ [p - (p - a + 1) / 2], rfl⟩
/-- On to the key t: the first c are kept. -/
theorem Ok.pass {n a : Nat} {ms : List Nat} (h : Ok n a ms) {t c : Nat} (hat : a ≤ t) (htn : t ≤ n + 1) (hc : c ≤ ms.length) (hlow : ∀ i, c ≤ i → ∀ p, ms[i]? = some p → p < t) (hhi : ∀ i p, i + 1 = c → ms[i]? = some p → t ≤ p) : Ok n t (ms.take c) := by
  have hge : ∀ p ∈ ms.take c, t ≤ p := by
    intro p hp
    obtain ⟨i, hi⟩ := List.getElem?_of_mem hp
    have hic : i < c := by
      have := (List.getElem?_eq_some_iff.1 hi).1
      rw [List.length_take] at this; omega
    rw [List.getElem?_take_of_lt hic] at hi
    have hlast : ms[c - 1]? = some ms[c - 1] := List.getElem?_eq_getElem (by omega)
    have h1 := hhi (c - 1) _ (by omega) hlast
    by_cases e : i = c - 1
    · subst e
      obtain rfl : ms[c - 1] = p := Option.some.inj (hlast.symm.trans hi)
      exact h1
    · have : ∀ (l : List Nat), Hv a l → ∀ (i j p q : Nat), i < j → l[i]? = some p → l[j]? = some q → q < p := by
        intro l
        induction l with
        | nil => intro _ i j p q _ hp; simp at hp
        | cons x l ih =>
          intro hv i j p q hij hp hq
          cases j with
          | zero => omega
          | succ j =>
            rw [List.getElem?_cons_succ] at hq
            cases i with
            | zero =>
              obtain rfl : x = p := by simpa using hp
              exact hv.le q (List.mem_of_getElem? hq)
            | succ i =>
              rw [List.getElem?_cons_succ] at hp
              exact ih hv.tail i j p q (by omega) hp hq
      have := this ms h.half i (c - 1) p _ (by omega) hi hlast
      omega
  refine ⟨h.one, h.top, htn, (h.half.take c).mono hat hge, fun ht => ?_, fun ht => ?_⟩
  · obtain ⟨r, rfl⟩ := h.head (by omega)
    cases c with
    | zero =>
      have := hlow 0 (Nat.le_refl _) n rfl
      omega
    | succ c => exact ⟨r.take c, rfl⟩
  · cases hx : ms.take c with
    | nil => rfl
    | cons p r =>
      have h1 := hge p (by rw [hx]; simp)
      have h2 := (h.mem p (List.mem_of_mem_take (by rw [hx]; simp))).2
      omega
/-- What Next tells ahead of the key a of a chain of n, whose last key is L; and where it is then. -/
def nx (n : Nat) (L : Ky) (a : Nat) : (Ky × Int) × Nat := if a ≤ n then ((wl (n - a) L, 0), a + 1) else ((zk, 10), a)
end Go.Proofs.YtcclcemdodoiiaaGreatDoor
namespace Go.Proofs.YtcclcemdodoiiaaGreatDoor
set_option maxRecDepth 10000
open Go Go.RowKit
set_option linter.unusedVariables false
/-- A plan: Start, Length, Delay, Count. -/
structure Pl where
  st : Int
  lg : Int
  dl : Int
  ct : Int
def pl0 : Pl := ⟨0, 0, 0, 0⟩
/-- It may be. -/
abbrev POk (p : Pl) : Prop := -1152921504606846976 ≤ p.st ∧ p.st ≤ 1152921504606846976 ∧ 1 ≤ p.lg ∧ p.lg ≤ 1099511627776 ∧ 1 ≤ p.dl ∧ p.dl ≤ 16 ∧ 1 ≤ p.ct ∧ p.ct ≤ 1024
def okP (p : Pl) : Bool := decide (POk p)
/-- Its numbers are numbers of 64 bits. -/
structure PIn (p : Pl) : Prop where
  st : -9223372036854775808 ≤ p.st ∧ p.st ≤ 9223372036854775807
  lg : -9223372036854775808 ≤ p.lg ∧ p.lg ≤ 9223372036854775807
  dl : -9223372036854775808 ≤ p.dl ∧ p.dl ≤ 9223372036854775807
  ct : -9223372036854775808 ≤ p.ct ∧ p.ct ≤ 9223372036854775807
theorem mul_bd {a b A B : Int} (h0 : 0 ≤ a) (h1 : a ≤ A) (h2 : 0 ≤ b) (h3 : b ≤ B) : 0 ≤ a * b ∧ a * b ≤ A * B :=
  ⟨Int.mul_nonneg h0 h2, Int.mul_le_mul h1 h3 h2 (by omega)⟩
/-- When the interval i begins, of a plan that may be. -/
def bgn (p : Pl) (i : Int) : Int := p.st + (i - 1) * p.lg
theorem bgn_one (p : Pl) : bgn p 1 = p.st := by unfold bgn; rw [Int.sub_self, Int.zero_mul, Int.add_zero]
theorem bgn_succ (p : Pl) (i : Int) : bgn p (i + 1) = bgn p i + p.lg := by
  unfold bgn
  rw [show i + 1 - 1 = (i - 1) + 1 by omega, Int.add_mul, Int.one_mul]; omega
theorem bgn_bd {p : Pl} (h : POk p) {i : Int} (h1 : 1 ≤ i) (h2 : i ≤ 1041) : -1152921504606846976 ≤ bgn p i ∧ bgn p i ≤ 1152921504606846976 + 1143492092887040 := by
  have := mul_bd (a := i - 1) (b := p.lg) (A := 1040) (B := 1099511627776) (by omega) (by omega) (by omega) (by omega)
  unfold bgn
  omega
theorem bgn_mono {p : Pl} (h : 0 ≤ p.lg) {i j : Int} (hij : i ≤ j) : bgn p i ≤ bgn p j := by
  have := Int.mul_le_mul_of_nonneg_right (show i - 1 ≤ j - 1 by omega) h
  unfold bgn; omega
/-- At: which interval, and the error. -/
def pat (p : Pl) (t : Int) : Int × Int :=
  if ¬ POk p then (0, 1) else if t < p.st then (0, 15) else if p.ct ≤ (t - p.st) / p.lg then (0, 10) else ((t - p.st) / p.lg + 1, 0)
def pbg (p : Pl) (i : Int) : Int × Int := if POk p ∧ 1 ≤ i ∧ i ≤ p.ct + 1 then (bgn p i, 0) else (0, 1)
def pte (p : Pl) (i : Int) : Int := if POk p ∧ 1 ≤ i ∧ i ≤ p.ct + p.dl then max (i - p.dl) 0 else 0
/-- The moment t lies in the interval i. -/
theorem in_iv {p : Pl} {t i : Int} (hl : 1 ≤ p.lg) (h1 : bgn p i ≤ t) (h2 : t < bgn p (i + 1)) : (t - p.st) / p.lg = i - 1 := by
  rw [bgn_succ] at h2
  unfold bgn at h1 h2
  have e1 : (i - 1) * p.lg ≤ t - p.st := by omega
  have e2 : t - p.st < (i - 1 + 1) * p.lg := by rw [Int.add_mul, Int.one_mul]; omega
  have h3 := (Int.le_ediv_iff_mul_le (show 0 < p.lg by omega)).2 e1
  have h4 := (Int.ediv_lt_iff_lt_mul (show 0 < p.lg by omega)).2 e2
  omega
theorem iv_in {p : Pl} {t : Int} (hl : 1 ≤ p.lg) : bgn p ((t - p.st) / p.lg + 1) ≤ t ∧ t < bgn p ((t - p.st) / p.lg + 2) := by
  have h1 := Int.ediv_mul_le (t - p.st) (show p.lg ≠ 0 by omega)
  have h2 := Int.lt_ediv_add_one_mul_self (t - p.st) (show 0 < p.lg by omega)
  rw [show (t - p.st) / p.lg + 2 = (t - p.st) / p.lg + 1 + 1 by omega]
  unfold bgn
  rw [show (t - p.st) / p.lg + 1 - 1 = (t - p.st) / p.lg by omega, show (t - p.st) / p.lg + 1 + 1 - 1 = (t - p.st) / p.lg + 1 by omega]
  omega
theorem pat_in {p : Pl} {t i : Int} (h : POk p) (hi : 1 ≤ i) (hc : i ≤ p.ct) (h1 : bgn p i ≤ t) (h2 : t < bgn p (i + 1)) : pat p t = (i, 0) := by
  have e := in_iv (by omega) h1 h2
  have h0 : p.st ≤ t := Int.le_trans (by rw [← bgn_one p]; exact bgn_mono (by omega) hi) h1
  unfold pat
  rw [if_neg (fun hn => hn h), if_neg (by omega), if_neg (by omega), e]
  simp
theorem pat_wait {p : Pl} {t : Int} (h : POk p) (h1 : t < p.st) : pat p t = (0, 15) := by
  unfold pat
  rw [if_neg (fun hn => hn h), if_pos h1]
/-- What At tells of a plan that may be. -/
theorem pat_cases {p : Pl} (h : POk p) (t : Int) : (pat p t = (0, 15) ∧ t < p.st) ∨ (pat p t = (0, 10) ∧ bgn p (p.ct + 1) ≤ t) ∨ ∃ n : Nat, 1 ≤ n ∧ (n : Int) ≤ p.ct ∧ pat p t = ((n : Int), 0) ∧ bgn p n ≤ t ∧ t < bgn p (n + 1) := by
  by_cases h1 : t < p.st
  · exact .inl ⟨pat_wait h h1, h1⟩
  · have h0 : 0 ≤ (t - p.st) / p.lg := Int.ediv_nonneg (by omega) (by omega)
    obtain ⟨h3, h4⟩ := iv_in (p := p) (t := t) (by omega)
    by_cases h2 : p.ct ≤ (t - p.st) / p.lg
    · refine .inr (.inl ⟨?_, Int.le_trans (bgn_mono (by omega) (by omega)) h3⟩)
      unfold pat; rw [if_neg (fun hn => hn h), if_neg h1, if_pos h2]
    · refine .inr (.inr ⟨((t - p.st) / p.lg + 1).toNat, by omega, by omega, ?_, ?_, ?_⟩)
      · unfold pat; rw [if_neg (fun hn => hn h), if_neg h1, if_neg h2, Int.toNat_of_nonneg (by omega)]
      · rw [Int.toNat_of_nonneg (by omega)]; exact h3
      · rw [Int.toNat_of_nonneg (by omega), show (t - p.st) / p.lg + 1 + 1 = (t - p.st) / p.lg + 2 by omega]; exact h4
/-- A tag of a packet. -/
def tgs (k : Ky) (i : Int) (x : ByteArray) : ByteArray := fst ⟨(tg k tagW).l.toArray⟩ (⟨(putL (i % 18446744073709551616).toNat 4).toArray⟩ ++ x) 16
theorem tgs_size (k : Ky) (i : Int) (x : ByteArray) : (tgs k i x).size = 16 := by rw [tgs, fst_size]; rfl
/-- A packet: Interval, Text, Tag, Tells, Key. -/
structure Pk where
  i : Int
  x : ByteArray
  g : ByteArray
  t : Int
  k : Ky
def pk0 : Pk := ⟨0, ⟨#[]⟩, ⟨#[]⟩, 0, zk⟩
/-- The key i of the chain of a seed and a plan. -/
def kyk (s : Ky) (p : Pl) (i : Int) : Ky := (ky s p.ct i).1
/-- The packet of an interval. -/
def sdP (s : Ky) (p : Pl) (i : Int) (x : ByteArray) : Pk := ⟨i, x, tgs (kyk s p i) i x, pte p i, if 0 < pte p i then kyk s p (pte p i) else zk⟩
/-- Send: the packet, the error, the last interval behind it. -/
def sdA (s : Ky) (p : Pl) (l t : Int) (x : ByteArray) : (Pk × Int) × Int :=
  if (pat p t).2 ≠ 0 then ((pk0, (pat p t).2), l) else if (pat p t).1 < l then ((pk0, 14), l) else if 1000 < x.size then ((pk0, 5), l) else ((sdP s p (pat p t).1 x, 0), (pat p t).1)
/-- Which keys a sender minds: of so many places, gone round, those below a. -/
structure Mi (n d a : Nat) (L : Ky) (ks : List Ky) : Prop where
  len : ks.length = d
  key : ∀ j, j < a → a ≤ j + d → ks[j % d]? = some (wl (n - j) L)
theorem mod_ne {a j d : Nat} (h1 : j < a) (h2 : a < j + d) : a % d ≠ j % d := by
  intro e
  have h3 : (a - j) % d = 0 := Nat.sub_mod_eq_zero_of_mod_eq e
  rw [Nat.mod_eq_of_lt (by omega)] at h3
  omega
theorem Mi.next {n d a : Nat} {L : Ky} {ks : List Ky} (h : Mi n d a L ks) (hd : 0 < d) : Mi n d (a + 1) L (ks.set (a % d) (wl (n - a) L)) := by
  refine ⟨by rw [List.length_set, h.len], fun j h1 h2 => ?_⟩
  by_cases hj : j = a
  · subst hj
    rw [List.getElem?_set_self (by rw [h.len]; exact Nat.mod_lt _ hd)]
  · rw [List.getElem?_set_ne (mod_ne (by omega) (by omega))]
    exact h.key j (by omega) (by omega)
theorem Mi.zero {n d : Nat} {L : Ky} {ks : List Ky} (h : ks.length = d) : Mi n d 0 L ks := ⟨h, fun j h1 => by omega⟩
theorem kyk_nat {s : Ky} {p : Pl} {n : Nat} (h1 : 1 ≤ n) (h2 : n ≤ 1024) (hp : p.ct = n) (i : Nat) (hi : i ≤ n) : kyk s p i = wl (n - i) (tg s chainW) := by
  unfold kyk ky tl
  rw [hp, if_neg (by omega), if_neg (by omega), show min ((n : Int) - i) 4096 = (n : Int) - i by omega]
  show wl _ _ = _
  congr 1; omega
theorem ky_kyk {s : Ky} {p : Pl} (h : POk p) {i : Int} (h1 : 0 ≤ i) (h2 : i ≤ p.ct) : ky s p.ct i = (kyk s p i, 0) := by
  unfold kyk ky tl
  rw [if_neg (by omega), if_neg (by omega)]
theorem pte_le {p : Pl} {i : Int} (h : POk p) (h1 : 1 ≤ i) (h2 : i ≤ p.ct) : pte p i = max (i - p.dl) 0 := by
  unfold pte
  rw [if_pos ⟨h, h1, by omega⟩]
end Go.Proofs.YtcclcemdodoiiaaGreatDoor
