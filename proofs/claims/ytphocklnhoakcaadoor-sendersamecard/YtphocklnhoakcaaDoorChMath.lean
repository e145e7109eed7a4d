/- Keys, and what chains of them answer, as plain functions: no program. -/
import Derived.Test.YtphocklnhoakcaaDoorShaW6
import Derived.Test.YtphocklnhoakcaaDoorMacA
namespace Go.Proofs.YtphocklnhoakcaaDoor
open Go Go.RowKit
set_option linter.unusedVariables false
/-- A key: 32 bytes. -/
structure Ky where
  l : List UInt8
  len : l.length = 32
theorem Ky.same {a b : Ky} (h : a.l = b.l) : a = b := by
  cases a; cases b; cases h; rfl
/-- The key of bytes 0. -/
def zk : Ky := ⟨List.replicate 32 0, rfl⟩
/-- The key of a byte 1 and bytes 0. -/
def k1 : Ky := ⟨1 :: List.replicate 31 0, rfl⟩
/-- So many digests on. -/
def wl (n : Nat) (k : Ky) : Ky := ⟨walkF n k.l, walkF_length n k.l k.len⟩
/-- The digest of a key's bytes. -/
def sm (k : Ky) : Ky := ⟨sum k.l, sum_length _⟩
/-- A key's tag of a text. -/
def tg (k : Ky) (t : ByteArray) : Ky := ⟨tag k.l t.data.toList, tag_length _ _⟩
theorem wl_zero (k : Ky) : wl 0 k = k := Ky.same rfl
theorem wl_succ (n : Nat) (k : Ky) : wl (n + 1) k = sm (wl n k) := Ky.same rfl
theorem wl_add (m n : Nat) (k : Ky) : wl m (wl n k) = wl (n + m) k := Ky.same (walkF_add m n k.l)
/-- Tell of a mind that knows the key k as the one n. -/
def tl (k : Ky) (n i : Int) : Ky × Int := if i < 0 ∨ n < i then (zk, 1) else (wl (min (n - i) 4096).toNat k, 0)
/-- Of mac.Of and the word of chains. -/
def chainW : ByteArray := ⟨#[99, 104, 97, 105, 110]⟩
def tagW : ByteArray := ⟨#[116, 97, 103]⟩
def seedW : ByteArray := ⟨#[115, 101, 101, 100]⟩
/-- Key. -/
def ky (s : Ky) (n i : Int) : Ky × Int := if n < 1 ∨ 1024 < n then (zk, 1) else tl (tg s chainW) n i
/-- Check. -/
def ck (k0 : Ky) (at' : Int) (k : Ky) (i most : Int) : Int :=
  if at' < 0 ∨ i ≤ at' then 1 else if most < i - at' ∨ 1024 < i - at' then 16 else if (wl (i - at').toNat k).l = k0.l then 0 else 13
/-- Learn. -/
def ln (k0 : Ky) (at' : Int) (k : Ky) (i most : Int) : (Ky × Int) × Int :=
  if ck k0 at' k i most = 0 then ((k, i), 0) else ((zk, 0), ck k0 at' k i most)
end Go.Proofs.YtphocklnhoakcaaDoor
