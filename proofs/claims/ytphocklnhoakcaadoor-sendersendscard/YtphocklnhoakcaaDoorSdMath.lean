/- Plans, tags, packets and what a sender answers, as plain functions: no program. -/
import Derived.Test.YtphocklnhoakcaaDoorPbMath
import Derived.Test.YtphocklnhoakcaaDoorMacA
namespace Go.Proofs.YtphocklnhoakcaaDoor
set_option maxRecDepth 10000
open Go Go.RowKit
set_option linter.unusedVariables false
/-- A plan: Start, Length, Delay, Count. -/
structure Pl where
  st : Int
  lg : Int
  dl : Int
  ct : Int
def pl0 : Pl := ⟨0, 0, 0, 0⟩
/-- It may be. -/
abbrev POk (p : Pl) : Prop := -1152921504606846976 ≤ p.st ∧ p.st ≤ 1152921504606846976 ∧ 1 ≤ p.lg ∧ p.lg ≤ 1099511627776 ∧ 1 ≤ p.dl ∧ p.dl ≤ 16 ∧ 1 ≤ p.ct ∧ p.ct ≤ 1024
def okP (p : Pl) : Bool := decide (POk p)
/-- Its numbers are numbers of 64 bits. -/
structure PIn (p : Pl) : Prop where
  st : -9223372036854775808 ≤ p.st ∧ p.st ≤ 9223372036854775807
  lg : -9223372036854775808 ≤ p.lg ∧ p.lg ≤ 9223372036854775807
  dl : -9223372036854775808 ≤ p.dl ∧ p.dl ≤ 9223372036854775807
  ct : -9223372036854775808 ≤ p.ct ∧ p.ct ≤ 9223372036854775807
theorem POk.pin {p : Pl} (h : POk p) : PIn p := ⟨by omega, by omega, by omega, by omega⟩
theorem mul_bd {a b A B : Int} (h0 : 0 ≤ a) (h1 : a ≤ A) (h2 : 0 ≤ b) (h3 : b ≤ B) : 0 ≤ a * b ∧ a * b ≤ A * B :=
  ⟨Int.mul_nonneg h0 h2, Int.mul_le_mul h1 h3 h2 (by omega)⟩
/-- When the interval i begins, of a plan that may be. -/
def bgn (p : Pl) (i : Int) : Int := p.st + (i - 1) * p.lg
theorem bgn_one (p : Pl) : bgn p 1 = p.st := by unfold bgn; rw [Int.sub_self, Int.zero_mul, Int.add_zero]
theorem bgn_succ (p : Pl) (i : Int) : bgn p (i + 1) = bgn p i + p.lg := by
  unfold bgn
  rw [show i + 1 - 1 = (i - 1) + 1 by omega, Int.add_mul, Int.one_mul]; omega
theorem bgn_bd {p : Pl} (h : POk p) {i : Int} (h1 : 1 ≤ i) (h2 : i ≤ 1041) : -1152921504606846976 ≤ bgn p i ∧ bgn p i ≤ 1152921504606846976 + 1143492092887040 := by
  have := mul_bd (a := i - 1) (b := p.lg) (A := 1040) (B := 1099511627776) (by omega) (by omega) (by omega) (by omega)
  unfold bgn
  omega
theorem bgn_mono {p : Pl} (h : 0 ≤ p.lg) {i j : Int} (hij : i ≤ j) : bgn p i ≤ bgn p j := by
  have := Int.mul_le_mul_of_nonneg_right (show i - 1 ≤ j - 1 by omega) h
  unfold bgn; omega
/-- At: which interval, and the error. -/
def pat (p : Pl) (t : Int) : Int × Int :=
  if ¬ POk p then (0, 1) else if t < p.st then (0, 15) else if p.ct ≤ (t - p.st) / p.lg then (0, 10) else ((t - p.st) / p.lg + 1, 0)
def pbg (p : Pl) (i : Int) : Int × Int := if POk p ∧ 1 ≤ i ∧ i ≤ p.ct + 1 then (bgn p i, 0) else (0, 1)
def pte (p : Pl) (i : Int) : Int := if POk p ∧ 1 ≤ i ∧ i ≤ p.ct + p.dl then max (i - p.dl) 0 else 0
def pth (p : Pl) : Pl × Int := if ¬ POk p then (pl0, 1) else if 1152921504606846976 < bgn p (p.ct + 1) then (pl0, 6) else (⟨bgn p (p.ct + 1), p.lg, p.dl, p.ct⟩, 0)
/-- The moment t lies in the interval i. -/
theorem in_iv {p : Pl} {t i : Int} (hl : 1 ≤ p.lg) (h1 : bgn p i ≤ t) (h2 : t < bgn p (i + 1)) : (t - p.st) / p.lg = i - 1 := by
  rw [bgn_succ] at h2
  unfold bgn at h1 h2
  have e1 : (i - 1) * p.lg ≤ t - p.st := by omega
  have e2 : t - p.st < (i - 1 + 1) * p.lg := by rw [Int.add_mul, Int.one_mul]; omega
  have h3 := (Int.le_ediv_iff_mul_le (show 0 < p.lg by omega)).2 e1
  have h4 := (Int.ediv_lt_iff_lt_mul (show 0 < p.lg by omega)).2 e2
  omega
theorem iv_in {p : Pl} {t : Int} (hl : 1 ≤ p.lg) : bgn p ((t - p.st) / p.lg + 1) ≤ t ∧ t < bgn p ((t - p.st) / p.lg + 2) := by
  have h1 := Int.ediv_mul_le (t - p.st) (show p.lg ≠ 0 by omega)
  have h2 := Int.lt_ediv_add_one_mul_self (t - p.st) (show 0 < p.lg by omega)
  rw [show (t - p.st) / p.lg + 2 = (t - p.st) / p.lg + 1 + 1 by omega]
  unfold bgn
  rw [show (t - p.st) / p.lg + 1 - 1 = (t - p.st) / p.lg by omega, show (t - p.st) / p.lg + 1 + 1 - 1 = (t - p.st) / p.lg + 1 by omega]
  omega
theorem pat_in {p : Pl} {t i : Int} (h : POk p) (hi : 1 ≤ i) (hc : i ≤ p.ct) (h1 : bgn p i ≤ t) (h2 : t < bgn p (i + 1)) : pat p t = (i, 0) := by
  have e := in_iv (by omega) h1 h2
  have h0 : p.st ≤ t := Int.le_trans (by rw [← bgn_one p]; exact bgn_mono (by omega) hi) h1
  unfold pat
  rw [if_neg (fun hn => hn h), if_neg (by omega), if_neg (by omega), e]
  simp
theorem pat_end {p : Pl} {t : Int} (h : POk p) (h1 : bgn p (p.ct + 1) ≤ t) : pat p t = (0, 10) := by
  have h0 : p.st ≤ t := Int.le_trans (by rw [← bgn_one p]; exact bgn_mono (by omega) (by omega)) h1
  have e : p.ct ≤ (t - p.st) / p.lg := by
    refine (Int.le_ediv_iff_mul_le (show 0 < p.lg by omega)).2 ?_
    unfold bgn at h1
    rw [show p.ct + 1 - 1 = p.ct by omega] at h1
    omega
  unfold pat
  rw [if_neg (fun hn => hn h), if_neg (by omega), if_pos e]
theorem pat_wait {p : Pl} {t : Int} (h : POk p) (h1 : t < p.st) : pat p t = (0, 15) := by
  unfold pat
  rw [if_neg (fun hn => hn h), if_pos h1]
theorem pat_bad {p : Pl} {t : Int} (h : ¬ POk p) : pat p t = (0, 1) := by
  unfold pat
  rw [if_pos h]
/-- What At tells of a plan that may be. -/
theorem pat_cases {p : Pl} (h : POk p) (t : Int) : (pat p t = (0, 15) ∧ t < p.st) ∨ (pat p t = (0, 10) ∧ bgn p (p.ct + 1) ≤ t) ∨ ∃ n : Nat, 1 ≤ n ∧ (n : Int) ≤ p.ct ∧ pat p t = ((n : Int), 0) ∧ bgn p n ≤ t ∧ t < bgn p (n + 1) := by
  by_cases h1 : t < p.st
  · exact .inl ⟨pat_wait h h1, h1⟩
  · have h0 : 0 ≤ (t - p.st) / p.lg := Int.ediv_nonneg (by omega) (by omega)
    obtain ⟨h3, h4⟩ := iv_in (p := p) (t := t) (by omega)
    by_cases h2 : p.ct ≤ (t - p.st) / p.lg
    · refine .inr (.inl ⟨?_, Int.le_trans (bgn_mono (by omega) (by omega)) h3⟩)
      unfold pat; rw [if_neg (fun hn => hn h), if_neg h1, if_pos h2]
    · refine .inr (.inr ⟨((t - p.st) / p.lg + 1).toNat, by omega, by omega, ?_, ?_, ?_⟩)
      · unfold pat; rw [if_neg (fun hn => hn h), if_neg h1, if_neg h2, Int.toNat_of_nonneg (by omega)]
      · rw [Int.toNat_of_nonneg (by omega)]; exact h3
      · rw [Int.toNat_of_nonneg (by omega), show (t - p.st) / p.lg + 1 + 1 = (t - p.st) / p.lg + 2 by omega]; exact h4
/-- A tag of a packet. -/
def tgs (k : Ky) (i : Int) (x : ByteArray) : ByteArray := fst ⟨(tg k tagW).l.toArray⟩ (⟨(putL (i % 18446744073709551616).toNat 4).toArray⟩ ++ x) 16
theorem tgs_size (k : Ky) (i : Int) (x : ByteArray) : (tgs k i x).size = 16 := by rw [tgs, fst_size]; rfl
/-- A packet: Interval, Text, Tag, Tells, Key. -/
structure Pk where
  i : Int
  x : ByteArray
  g : ByteArray
  t : Int
  k : Ky
def pk0 : Pk := ⟨0, ⟨#[]⟩, ⟨#[]⟩, 0, zk⟩
/-- The key i of the chain of a seed and a plan. -/
def kyk (s : Ky) (p : Pl) (i : Int) : Ky := (ky s p.ct i).1
/-- The packet of an interval. -/
def sdP (s : Ky) (p : Pl) (i : Int) (x : ByteArray) : Pk := ⟨i, x, tgs (kyk s p i) i x, pte p i, if 0 < pte p i then kyk s p (pte p i) else zk⟩
/-- Send: the packet, the error, the last interval behind it. -/
def sdA (s : Ky) (p : Pl) (l t : Int) (x : ByteArray) : (Pk × Int) × Int :=
  if (pat p t).2 ≠ 0 then ((pk0, (pat p t).2), l) else if (pat p t).1 < l then ((pk0, 14), l) else if 1000 < x.size then ((pk0, 5), l) else ((sdP s p (pat p t).1 x, 0), (pat p t).1)
/-- Which keys a sender minds: of so many places, gone round, those below a. -/
structure Mi (n d a : Nat) (L : Ky) (ks : List Ky) : Prop where
  len : ks.length = d
  key : ∀ j, j < a → a ≤ j + d → ks[j % d]? = some (wl (n - j) L)
theorem mod_ne {a j d : Nat} (h1 : j < a) (h2 : a < j + d) : a % d ≠ j % d := by
  intro e
  have h3 : (a - j) % d = 0 := Nat.sub_mod_eq_zero_of_mod_eq e
  rw [Nat.mod_eq_of_lt (by omega)] at h3
  omega
theorem Mi.next {n d a : Nat} {L : Ky} {ks : List Ky} (h : Mi n d a L ks) (hd : 0 < d) : Mi n d (a + 1) L (ks.set (a % d) (wl (n - a) L)) := by
  refine ⟨by rw [List.length_set, h.len], fun j h1 h2 => ?_⟩
  by_cases hj : j = a
  · subst hj
    rw [List.getElem?_set_self (by rw [h.len]; exact Nat.mod_lt _ hd)]
  · rw [List.getElem?_set_ne (mod_ne (by omega) (by omega))]
    exact h.key j (by omega) (by omega)
theorem Mi.zero {n d : Nat} {L : Ky} {ks : List Ky} (h : ks.length = d) : Mi n d 0 L ks := ⟨h, fun j h1 => by omega⟩
theorem kyk_nat {s : Ky} {p : Pl} {n : Nat} (h1 : 1 ≤ n) (h2 : n ≤ 1024) (hp : p.ct = n) (i : Nat) (hi : i ≤ n) : kyk s p i = wl (n - i) (tg s chainW) := by
  unfold kyk ky tl
  rw [hp, if_neg (by omega), if_neg (by omega), show min ((n : Int) - i) 4096 = (n : Int) - i by omega]
  show wl _ _ = _
  congr 1; omega
theorem ky_kyk {s : Ky} {p : Pl} (h : POk p) {i : Int} (h1 : 0 ≤ i) (h2 : i ≤ p.ct) : ky s p.ct i = (kyk s p i, 0) := by
  unfold kyk ky tl
  rw [if_neg (by omega), if_neg (by omega)]
theorem pte_le {p : Pl} {i : Int} (h : POk p) (h1 : 1 ≤ i) (h2 : i ≤ p.ct) : pte p i = max (i - p.dl) 0 := by
  unfold pte
  rw [if_pos ⟨h, h1, by omega⟩]
end Go.Proofs.YtphocklnhoakcaaDoor
