/- More laws for the walks of the statements; what is read of what was written, and written of what was read. -/
import Derived.Test.YteieacamokoejaaLawA
namespace Go.Proofs.Yteieacamokoejaa
open Go Go.RowKit
set_option linter.unusedVariables false
set_option linter.unusedSimpArgs false

section
variable {P : Program} {ops : Array Oper} {rest : List Oper} {a : Act} {w : World} {Q : Exit → Act → World → Prop} {dst : Option Tmp} {ty yt : TypeId} {pos : String} {aft : Array Edge} {gd : Option (Nat × Bool)} {K : Value → World → Prop}
theorem g_fllen (x : Operand) (ao : Option Addr) (n cap : Nat) (hx : a.eval x = .slice ao n cap) (hk : K (.int .i64 ((n : Nat) : Int)) w) : gives Try.prog ⟨dst, .call { callee := .builtin .len, args := #[x], argTypes := #[35] }, ty, pos, aft, gd⟩ a w K :=
  g_val (.int .i64 ((n : Nat) : Int)) w (by simp only [execOp, resolve, invoke, builtin, List.map_toArray, List.map_cons, List.map_nil, hx]; go_simp) hk
theorem run_slF (w : World) (ao : Option Addr) (n cap i : Nat) (h : i ≤ cap) : (Instr.sliceAt 35 (.slice ao n cap) none (some (.int .i64 (i : Int))) none).run Try.prog w = .ok (.slice ao i cap) w := by
  have e : ao.map (fun x => x.add 0) = ao := by cases ao <;> simp [Addr.add]
  have hs : ∀ w, (sizeOf 48).run Try.prog w = .ok 2 w := Try.sizeOf48
  simp [Instr.sliceAt, Instr.slice, run_underlying Try.underlying35, Instr.sliceBounds, run_sliceBound, hs, h, e]
theorem g_slF (x y : Operand) (ao : Option Addr) (n cap i : Nat) (hx : a.eval x = .slice ao n cap) (hy : a.eval y = .int .i64 (i : Int)) (h : i ≤ cap) (hk : K (.slice ao i cap) w) : gives Try.prog ⟨dst, .slice 35 x none (some y) none, ty, pos, aft, gd⟩ a w K :=
  g_val _ w (by simp only [execOp, hx, Option.map_some, Option.map_none, hy, Sem.run_bind, run_slF w ao n cap i h, Result.andThen_ok, Sem.run_pure]) hk
end
theorem wr_ok (h : Hd) (l : List (Int × ByteArray)) (W : ByteArray) (hw : wr h l = (W, 0)) : may h = true ∧ (∀ f ∈ l, FMays f) ∧ l.length ≤ 16 ∧ W.data.toList = hb h ++ l.flatMap fb := by
  unfold wr at hw
  split at hw
  · rename_i hm
    split at hw
    · rename_i ha
      split at hw
      · cases (Prod.mk.inj hw).2
      · rename_i h16
        obtain ⟨rfl, _⟩ := Prod.mk.inj hw
        exact ⟨hm, (all_fmay l).1 ha, by omega, by simp [wb]⟩
    · cases (Prod.mk.inj hw).2
  · cases (Prod.mk.inj hw).2
theorem wr_bad (h : Hd) (l : List (Int × ByteArray)) (W : ByteArray) (E : Int) (hw : wr h l = (W, E)) (hE : E ≠ 0) : W = ByteArray.empty := by
  unfold wr at hw
  split at hw
  · split at hw
    · split at hw
      · exact (Prod.mk.inj hw).1.symm
      · exact absurd (Prod.mk.inj hw).2.symm hE
    · exact (Prod.mk.inj hw).1.symm
  · exact (Prod.mk.inj hw).1.symm
theorem wr_mk (h : Hd) (l : List (Int × ByteArray)) (hm : may h = true) (hf : ∀ f ∈ l, FMays f) (hl : l.length ≤ 16) : wr h l = (⟨(hb h ++ l.flatMap fb).toArray⟩, 0) := by
  unfold wr
  rw [if_pos hm, if_pos ((all_fmay l).2 hf), if_neg (by omega)]; rfl
theorem rd_wb (h : Hd) (l : List (Int × ByteArray)) (W : ByteArray) (hm : may h = true) (hi : InH h) (hf : ∀ f ∈ l, FMays f) (hl : l.length ≤ 16) (hW : W.data.toList = hb h ++ l.flatMap fb) : rdp W = (h, l, 0) := by
  have lb := hb_length h
  have m := of_decide_eq_true hm
  have hz := Lib.size_eq W
  rw [hW, List.length_append] at hz
  unfold rdp
  rw [if_neg (by omega), hW, List.take_left' lb, List.drop_left' lb, dec_hb h m hi, if_pos m.1, fl_wb l 16 hf hl]
  rfl
theorem rd_ok (s : ByteArray) (G : Hd) (l : List (Int × ByteArray)) (h : rdp s = (G, l, 0)) : wr G l = (s, 0) ∧ InH G ∧ l.length ≤ 16 ∧ 48 ≤ s.size ∧ may G = true := by
  have hl := Lib.size_eq s
  unfold rdp at h
  split at h
  · simp at h
  · rename_i c
    split at h
    · rename_i hv
      split at h
      · rename_i he
        simp only [Prod.mk.injEq, and_true] at h
        obtain ⟨rfl, hl2⟩ := h
        have e : fl 16 (s.data.toList.drop 48) = (l, 0) := by rw [← hl2, ← he]
        obtain ⟨a, b, c2⟩ := fl_back 16 _ _ e
        have hm : may (dec (s.data.toList.take 48)) = true := by rw [may_dec]; exact decide_eq_true hv
        refine ⟨?_, dec_in _, c2, by omega, hm⟩
        rw [wr_mk _ l hm b c2, a, hb_dec _ (by rw [List.length_take]; omega), List.take_append_drop]
      · rename_i he
        simp only [Prod.mk.injEq] at h
        exact absurd h.2.2 he
    · simp at h
theorem rd_bad (s : ByteArray) (G : Hd) (l : List (Int × ByteArray)) (E : Int) (h : rdp s = (G, l, E)) (hE : E ≠ 0) : G = hz ∧ l = [] := by
  unfold rdp at h
  split at h
  · simp only [Prod.mk.injEq] at h; exact ⟨h.1.symm, h.2.1.symm⟩
  · split at h
    · split at h
      · simp only [Prod.mk.injEq] at h; exact absurd h.2.2.symm hE
      · simp only [Prod.mk.injEq] at h; exact ⟨h.1.symm, h.2.1.symm⟩
    · simp only [Prod.mk.injEq] at h; exact ⟨h.1.symm, h.2.1.symm⟩
theorem rd_len (s : ByteArray) (G : Hd) (l : List (Int × ByteArray)) (E : Int) (h : rdp s = (G, l, E)) : l.length ≤ 140737488355328 := by
  by_cases hE : E = 0
  · subst hE; have := (rd_ok s G l h).2.2.1; omega
  · rw [(rd_bad s G l E h hE).2]; exact Nat.zero_le _
/-- Fewer than 48 bytes, and they alone, are an error of size. -/
theorem rd_size (s : ByteArray) (G : Hd) (l : List (Int × ByteArray)) (E : Int) (h : rdp s = (G, l, E)) : E = 5 ↔ s.size < 48 := by
  have e4 : ∀ n s, (fl n s).2 ≠ 5 := by
    intro n
    induction n with
    | zero => intro s; unfold fl; split <;> decide
    | succ n ih =>
      intro s; unfold fl
      split
      · decide
      · split
        · unfold glue; split
          · exact (by decide : (0 : Int) ≠ 5)
          · exact ih _
        · decide
  unfold rdp at h
  split at h
  · rename_i c
    simp only [Prod.mk.injEq] at h
    exact ⟨fun _ => c, fun _ => h.2.2.symm⟩
  · rename_i c
    refine ⟨fun h5 => ?_, fun h5 => absurd h5 c⟩
    exfalso
    subst h5
    split at h
    · split at h
      · simp at h
      · simp only [Prod.mk.injEq] at h; exact e4 _ _ h.2.2
    · simp at h
end Go.Proofs.Yteieacamokoejaa
