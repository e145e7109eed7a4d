/- What the laws share: what Put answers, by what it answers; conversions; conditions. -/
import Derived.Test.YtpkjocibgmjhdaaArgs
namespace Go.Proofs.Ytpkjocibgmjhdaa
set_option maxRecDepth 10000
open Go Go.RowKit
set_option linter.unusedVariables false
set_option linter.unusedSimpArgs false

section
variable {P : Program} {a : Act} {w : World} {dst : Option Tmp} {ty : TypeId} {pos : String} {aft : Array Edge} {gd : Option (Nat × Bool)} {K : Value → World → Prop}
theorem g_cv_5_3 (x : Operand) (p r : Int) (hx : a.eval x = .int .u8 p) (hr : IntKind.i64.wrap p = r) (hk : K (.int .i64 r) w) : gives Try.prog ⟨dst, .convert 5 3 x, ty, pos, aft, gd⟩ a w K :=
  g_val (.int .i64 r) w (by simp only [execOp, hx]; go_simp) hk
theorem g_cv_53_3 (x : Operand) (p r : Int) (hx : a.eval x = .int .u16 p) (hr : IntKind.i64.wrap p = r) (hk : K (.int .i64 r) w) : gives Try.prog ⟨dst, .convert 53 3 x, ty, pos, aft, gd⟩ a w K :=
  g_val (.int .i64 r) w (by simp only [execOp, hx]; go_simp) hk
end
theorem Ms.to {w0 w : World} {A B : List HP} (h : Ms w0 w A) (e : A = B) : Ms w0 w B := e ▸ h
section
variable {w0 w : World} {R : List HP} {p x : Nat} {y d i : Int} {L : List Thg} {s : ByteArray}
theorem put_0 (hM : Ms w0 w (bf p x y d L :: R)) (hx : 1 ≤ x) (hx2 : x ≤ 1000) (hi : i ≤ 9223372036854775807) (hd : 0 ≤ d) (hd2 : d < 1000000) (hE : Shut (bpE x y i s L = 0)) :
    Calls Try.prog 14 #[.pointer (some ⟨p, 0, none⟩), .int .i64 i, .string s] w fun e' w' => e' = .returned (.int .i64 0) ∧ Ms w0 w' (bf p x y d (L ++ [(i, s)]) :: R) :=
  put_v hM hx hx2 hi hd hd2 hE.out (by unfold bpD; rw [hE.out]; rfl) (by unfold bpL; rw [hE.out]; rfl)
theorem put_4 (hM : Ms w0 w (bf p x y d L :: R)) (hx : 1 ≤ x) (hx2 : x ≤ 1000) (hi : i ≤ 9223372036854775807) (hd : 0 ≤ d) (hd2 : d < 1000000) (hE : Shut (bpE x y i s L = 4)) :
    Calls Try.prog 14 #[.pointer (some ⟨p, 0, none⟩), .int .i64 i, .string s] w fun e' w' => e' = .returned (.int .i64 4) ∧ Ms w0 w' (bf p x y (d + 1) L :: R) :=
  put_v hM hx hx2 hi hd hd2 hE.out (by unfold bpD; rw [hE.out]; rfl) (by unfold bpL; rw [hE.out]; rfl)
theorem put_o {e : Int} (hM : Ms w0 w (bf p x y d L :: R)) (hx : 1 ≤ x) (hx2 : x ≤ 1000) (hi : i ≤ 9223372036854775807) (hd : 0 ≤ d) (hd2 : d < 1000000) (hE : Shut (bpE x y i s L = e)) (h0 : e ≠ 0) (h4 : e ≠ 4) :
    Calls Try.prog 14 #[.pointer (some ⟨p, 0, none⟩), .int .i64 i, .string s] w fun e' w' => e' = .returned (.int .i64 e) ∧ Ms w0 w' (bf p x y d L :: R) :=
  put_v hM hx hx2 hi hd hd2 hE.out (by unfold bpD; rw [hE.out, if_neg h4]) (by unfold bpL; rw [hE.out, if_neg h0])
end
theorem bpE_cases (x y i : Int) (s : ByteArray) (L : List Thg) : bpE x y i s L = 0 ∨ bpE x y i s L = 4 ∨ bpE x y i s L = 1 ∨ bpE x y i s L = 11 := by
  unfold bpE
  split
  · exact .inr (.inr (.inl rfl))
  · split
    · exact .inr (.inr (.inr rfl))
    · split
      · exact .inr (.inl rfl)
      · exact .inl rfl
theorem hasT_nil (i : Int) (s : ByteArray) : hasT i s [] = false := rfl
theorem ofI_nil0 (i : Int) : ofI i [] = [] := rfl
/-- Nothing lies there: there is room. -/
theorem bpE_first {x y i : Int} (s : ByteArray) (h1 : 1 ≤ i) (hx : 1 ≤ x) (hy : 1 ≤ y) : bpE x y i s [] = 0 := by
  unfold bpE
  rw [if_neg (by omega), if_neg (by rw [hasT_nil]; decide), if_neg (by rw [ofI_nil0]; simp [ivs]; omega)]
theorem ne_snoc (s : ByteArray) (c : UInt8) : s ≠ s ++ ⟨#[c]⟩ := fun e => by
  have := congrArg ByteArray.size e
  rw [ByteArray.size_append] at this
  have h2 : (⟨#[c]⟩ : ByteArray).size = 1 := rfl
  omega
end Go.Proofs.Ytpkjocibgmjhdaa
