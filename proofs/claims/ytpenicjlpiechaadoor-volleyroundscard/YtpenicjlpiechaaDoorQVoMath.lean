/- Samples, answers and volleys as pure functions. -/
import Derived.Test.YtpenicjlpiechaaDoorQVoOps
import Derived.Test.YtpenicjlpiechaaDoorQWide6
namespace Go.Proofs.YtpenicjlpiechaaDoor
set_option maxRecDepth 10000
open Go Go.RowKit
set_option linter.unusedVariables false
set_option linter.unusedSimpArgs false

/-- The first number that isn't 0. -/
def fnz : List Int → Int
  | [] => 0
  | a :: l => if a ≠ 0 then a else fnz l
abbrev In64 (n : Int) : Prop := -9223372036854775808 ≤ n ∧ n < 9223372036854775808
def rOk (t1 t2 t3 t4 r : Int) : Prop := (0 ≤ r ∧ r ≤ 100000000) ∧ t1 ≤ t4 ∧ t2 ≤ t3
instance (t1 t2 t3 t4 r : Int) : Decidable (rOk t1 t2 t3 t4 r) := inferInstanceAs (Decidable (_ ∧ _ ∧ _))
/-- A round's sample and error. -/
def vrd (t1 t2 t3 t4 r : Int) : (Int × Int × Int) × Int :=
  if ¬ rOk t1 t2 t3 t4 r then ((0, 0, 0), 1)
  else if ¬ (In64 (t4 - t1) ∧ In64 (t3 - t2) ∧ In64 (t2 - t1) ∧ In64 (t3 - t4)) then ((0, 0, 0), 6)
  else if t4 - t1 - (t3 - t2) < 0 then ((0, 0, 0), 3)
  else (((t2 - t1 + (t3 - t4)) / 2, t4 - t1 - (t3 - t2), (t4 - t1 - (t3 - t2) + 1) / 2 + ((t4 - t1) * (2 * r) + 999999999) / 1000000000 + 2), 0)
/-- Two samples agree. -/
def wth (o b p c : Int) : Bool := decide (0 ≤ b ∧ 0 ≤ c ∧ o - b ≤ p + c ∧ p - c ≤ o + b)
/-- A moment's bytes. -/
def mb (t : Int) : ByteArray := ⟨(putL (t % 18446744073709551616).toNat 8).toArray⟩
theorem mb_size (t : Int) : (mb t).size = 8 := by
  show (putL _ 8).toArray.size = 8
  rw [List.size_toArray, putL_length]
/-- The moment of some bytes. -/
def tm (s : ByteArray) : Int := IntKind.i64.wrap (num s.data.toList)
/-- What an answer's tag is of. -/
def tld (a : ByteArray) (t2 t3 : Int) : ByteArray := a ++ mb t2 ++ mb t3
/-- An answer. -/
def anw (k a : ByteArray) (t2 t3 : Int) : ByteArray := tld a t2 t3 ++ fst k (tld a t2 t3) 16
/-- A volley: key, rate, draws, what is open. -/
structure Vy where
  k : ByteArray
  r : Int
  d : List Dw
  a : ByteArray
end Go.Proofs.YtpenicjlpiechaaDoor
