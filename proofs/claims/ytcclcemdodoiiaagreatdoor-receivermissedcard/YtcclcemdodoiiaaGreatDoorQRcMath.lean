/- When a key is told and what is safe; receivers as plain data, what they learn, get and believe: no program. -/
import Derived.Test.YtcclcemdodoiiaaGreatDoorQChMath
import Derived.Test.YtcclcemdodoiiaaGreatDoorQBfMath
namespace Go.Proofs.YtcclcemdodoiiaaGreatDoor
set_option maxRecDepth 10000
open Go Go.RowKit
set_option linter.unusedVariables false
/-- Told: when an interval's key is told, and the error. -/
def pto (p : Pl) (i : Int) : Int × Int := if POk p ∧ 1 ≤ i ∧ i ≤ p.ct then (bgn p (i + p.dl), 0) else (0, 1)
/-- Safe. -/
def psf (p : Pl) (i t : Int) : Bool := decide ((POk p ∧ 1 ≤ i ∧ i ≤ p.ct) ∧ t < bgn p (i + p.dl))
/-- What came: the tag in front, the text behind. -/
def hd16 (c : ByteArray) : ByteArray := c.extract 0 16
def tl16 (c : ByteArray) : ByteArray := c.extract 16 c.size
/-- One thing of what waited: believed, wrong, or there already. -/
def tkS (k : Ky) (i : Int) (B : List Thg) (r : List Thg × Int) (c : ByteArray) : List Thg × Int :=
  if hd16 c = tgs k i (tl16 c) then (if hasT i (tl16 c) (B ++ r.1) then r else (r.1 ++ [(i, tl16 c)], r.2)) else (r.1, r.2 + 1)
def tkF (k : Ky) (i : Int) (B : List Thg) (cs : List ByteArray) (r : List Thg × Int) : List Thg × Int := cs.foldl (tkS k i B) r
/-- A receiver: plan, key, which one, how far it walks; room for each, slots, how many were dropped, what waits; what is believed; how many were wrong. -/
structure Rc where
  P : Pl
  k : Ky
  n : Int
  mo : Int
  x : Nat
  y : Int
  d : Int
  L : List Thg
  B : List Thg
  wr : Int
/-- One interval's things taken, if its key is known: told, wrong, what waits still. -/
def blS (k : Ky) (n : Int) (B : List Thg) (r : (List Thg × Int) × List Thg) (i : Int) : (List Thg × Int) × List Thg :=
  if i ≤ n then (tkF (wl (n - i).toNat k) i B (ofI i r.2) r.1, notI i r.2) else r
def blF (k : Ky) (n : Int) (B : List Thg) (is : List Int) (r : (List Thg × Int) × List Thg) : (List Thg × Int) × List Thg := is.foldl (blS k n B) r
/-- All that may be believed now. -/
def blv (S : Rc) : List Thg × Rc :=
  let r := blF S.k S.n S.B (ivs S.L) (([], S.wr), S.L)
  (r.1.1, { S with L := r.2, B := S.B ++ r.1.1, wr := r.1.2 })
/-- Learn: what is told, the error, the receiver behind it. -/
def lea (S : Rc) (k : Ky) (i : Int) : (List Thg × Int) × Rc :=
  if i < 1 ∨ S.P.ct < i then (([], 1), S) else
  if i ≤ S.n then (([], if (wl (S.n - i).toNat S.k).l = k.l then 0 else 13), S) else
  if S.mo < i - S.n then (([], 16), S) else
  if (wl (i - S.n).toNat k).l = S.k.l then (((blv { S with k := k, n := i }).1, 0), (blv { S with k := k, n := i }).2) else (([], 13), S)
/-- A packet's form. -/
abbrev Fmd (P : Pl) (q : Pk) : Prop := (1 ≤ q.i ∧ q.i ≤ P.ct) ∧ q.g.size = 16 ∧ q.x.size ≤ 1000 ∧ q.t = pte P q.i ∧ (0 < q.t ∨ q.k.l = zk.l)
/-- Waiting: the error, the receiver behind it. -/
def wtg (S : Rc) (q : Pk) (t : Int) : Int × Rc :=
  if psf S.P q.i t = false then (14, S) else if hasT q.i q.x S.B then (11, S) else
  (bpE S.x S.y q.i (q.g ++ q.x) S.L, { S with L := bpL S.x S.y q.i (q.g ++ q.x) S.L, d := bpD S.x S.y q.i (q.g ++ q.x) S.L S.d })
/-- What a packet tells is learned ahead of it. -/
def lnp (S : Rc) (q : Pk) : (List Thg × Int) × Rc := if 0 < q.t then lea S q.k q.t else (([], 0), S)
/-- Got: what is told, the error, the receiver behind it. -/
def got (S : Rc) (q : Pk) (t : Int) : (List Thg × Int) × Rc :=
  if ¬ Fmd S.P q then (([], 2), S) else
  if (lnp S q).1.2 ≠ 0 then (([], (lnp S q).1.2), S) else
  (((lnp S q).1.1, (wtg (lnp S q).2 q t).1), (wtg (lnp S q).2 q t).2)
/-- What holds of every receiver that is made and asked: numbers, and what waits. -/
structure RcOk (S : Rc) : Prop where
  P : POk S.P
  n0 : 0 ≤ S.n
  n1 : S.n ≤ S.P.ct
  mo : 1 ≤ S.mo ∧ S.mo ≤ 64
  x : 1 ≤ S.x ∧ S.x ≤ 64
  y : 1 ≤ S.y ∧ S.y ≤ 64
  l : ∀ t ∈ S.L, 1 ≤ t.1 ∧ t.1 ≤ S.P.ct ∧ 16 ≤ t.2.size ∧ t.2.size ≤ 1016
theorem hd16_size {c : ByteArray} (h : 16 ≤ c.size) : (hd16 c).size = 16 := by unfold hd16; rw [ByteArray.size_extract]; omega
theorem tl16_size {c : ByteArray} : (tl16 c).size = c.size - 16 := by unfold tl16; rw [ByteArray.size_extract]; omega
theorem hd16_app {g x : ByteArray} (h : g.size = 16) : hd16 (g ++ x) = g := by
  unfold hd16; exact ByteArray.extract_append_eq_left h.symm
theorem tl16_app {g x : ByteArray} (h : g.size = 16) : tl16 (g ++ x) = x := by
  unfold tl16; exact ByteArray.extract_append_eq_right h.symm (by rw [ByteArray.size_append, h])
end Go.Proofs.YtcclcemdodoiiaaGreatDoor
