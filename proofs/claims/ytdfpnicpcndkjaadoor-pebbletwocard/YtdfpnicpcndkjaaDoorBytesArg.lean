/- An array of bytes as an argument: opened, and shut again. Over any program. -/
import Derived.OpenShut
import Derived.ProofKit
import Derived.Test.YtdfpnicpcndkjaaDoorMath
namespace Go.Proofs.YtdfpnicpcndkjaaDoor
set_option maxRecDepth 10000
open Go Go.ChangeShapes Go.WideShapes
variable {H : Type} {enc : TypeId × Value → H} {P : Program} {w : World} {base : Nat} {spare : Nat → Bool} {held : Bool}
/-- Bytes as data. -/
def bd (l : List UInt8) : List (DataW H) := l.map fun b => .lit (.int .u8 b.toNat)
theorem wf_byte (b : UInt8) : (Lit.int .u8 (b.toNat : Int)).wf = true := by
  have := b.toNat_lt
  simp [Lit.wf, IntKind.min, IntKind.max, IntKind.signed, IntKind.bits]
  omega
theorem byte_of_wf (n : Int) (h : (Lit.int .u8 n).wf = true) : ∃ b : UInt8, n = b.toNat := by
  have h := bounds_u8 h
  refine ⟨UInt8.ofNat n.toNat, ?_⟩
  rw [UInt8.toNat_ofNat', Nat.mod_eq_of_lt (by omega)]; omega
theorem cells_bytes {t e : TypeId} {n : Nat} (hu : P.underlying t = some (.array n e)) (he : P.underlying e = some (.int .u8)) (hce : P.cellsOf e = 1) (hct : P.cellsOf t = n) {fuel : Nat} {cs : List Value} {x : DataW H × List MemPlace}
    (h : DataW.trod enc P w base spare held fuel t cs = some x) : ∃ l : List UInt8, l.length = n ∧ cs = bc l ∧ x = (.agg (bd l), []) := by
  obtain ⟨xs, m, _, hx, hl, hxl, hall⟩ := DataW.trod_array hu h
  rw [hce] at hall
  have hb : ∀ i, (hi : i < n) → ∃ b : UInt8, cs[i]? = some (.int .u8 (b.toNat : Int)) ∧ xs[i]? = some (.lit (.int .u8 (b.toNat : Int)), []) := by
    intro i hi
    have h1 := hall i hi
    have h2 : ∃ y, xs[i]? = some y := ⟨_, List.getElem?_eq_getElem (by omega)⟩
    obtain ⟨y, hy⟩ := h2
    rw [hy] at h1
    obtain ⟨k, hk, hyk, hw⟩ := DataW.trod_int he h1
    obtain ⟨b, rfl⟩ := byte_of_wf k hw
    refine ⟨b, ?_, by rw [hy, hyk]⟩
    have := congrArg (fun z => z[0]?) hk
    simpa using this
  have hf : ∃ f : Nat → UInt8, ∀ i, i < n → cs[i]? = some (.int .u8 ((f i).toNat : Int)) ∧ xs[i]? = some (.lit (.int .u8 ((f i).toNat : Int)), []) := by
    refine ⟨fun i => if hi : i < n then (hb i hi).choose else 0, fun i hi => ?_⟩
    have := (hb i hi).choose_spec
    simpa [hi] using this
  obtain ⟨f, hf⟩ := hf
  have hxs : xs = (List.range n).map fun i => ((.lit (.int .u8 ((f i).toNat : Int)) : DataW H), ([] : List MemPlace)) := by
    apply List.ext_getElem?
    intro i
    by_cases hi : i < n
    · rw [(hf i hi).2]
      simp [hi]
    · rw [List.getElem?_eq_none (by omega), List.getElem?_eq_none (by simp; omega)]
  refine ⟨(List.range n).map f, by simp, ?_, ?_⟩
  · apply List.ext_getElem?
    intro i
    by_cases hi : i < n
    · rw [(hf i hi).1]
      simp [bc, hi]
    · rw [List.getElem?_eq_none (by omega), List.getElem?_eq_none (by simp [bc]; omega)]
  · rw [hx, hxs]
    simp [bd, List.flatMap_map]
theorem open_bytes {r : Reach} {b0 : Nat} {t e : TypeId} {n : Nat} {v : Value} {d : DataW H} {p : List MemPlace} (hu : P.underlying t = some (.array n e)) (he : P.underlying e = some (.int .u8)) (hce : P.cellsOf e = 1) (hct : P.cellsOf t = n)
    (hv : Value.okWide P w r b0 t v) (h : DataW.Trod enc P w base spare held t v d p) : ∃ l : List UInt8, l.length = n ∧ v = .agg (bc l).toArray ∧ d = .agg (bd l) ∧ p = [] := by
  simp only [Value.okWide, hu] at hv
  obtain ⟨cs, rfl, _, _⟩ := hv
  obtain ⟨fuel, hf⟩ := h
  obtain ⟨l, hl, hc, hx⟩ := cells_bytes hu he hce hct hf
  simp only [Prod.mk.injEq] at hx
  refine ⟨l, hl, ?_, hx.1, hx.2⟩
  congr 1
  apply Array.toList_inj.1
  simpa [Value.cells] using hc
theorem shut_bytes {t e : TypeId} {n : Nat} {l : List UInt8} (hu : P.underlying t = some (.array n e)) (he : P.underlying e = some (.int .u8)) (hce : P.cellsOf e = 1) (hct : P.cellsOf t = n) (hl : l.length = n) :
    DataW.Trod enc P w base spare held t (.agg (bc l).toArray) (.agg (bd l)) [] := by
  refine ⟨2, ?_⟩
  have h1 : (Value.agg (bc l).toArray).cells.toList = bc l := by simp [Value.cells]
  rw [h1]
  unfold DataW.trod
  rw [hu]
  have hm : (List.range n).mapM (fun i => DataW.trod enc P w base spare held 1 e (((bc l).drop (i * P.cellsOf e)).take (P.cellsOf e))) = some (l.map fun b => ((.lit (.int .u8 (b.toNat : Int)) : DataW H), ([] : List MemPlace))) := by
    rw [hce]
    have key : ∀ (m : List UInt8) (k : Nat), l.drop k = m → (List.range' k m.length).mapM (fun i => DataW.trod enc P w base spare held 1 e (((bc l).drop (i * 1)).take 1)) = some (m.map fun b => ((.lit (.int .u8 (b.toNat : Int)) : DataW H), ([] : List MemPlace))) := by
      intro m
      induction m with
      | nil => intro k _; rfl
      | cons b m ih =>
        intro k hk
        have hb : ((bc l).drop (k * 1)).take 1 = [.int .u8 (b.toNat : Int)] := by
          rw [Nat.mul_one, bc, ← List.map_drop, hk]; rfl
        have hk2 : l.drop (k + 1) = m := by
          have := congrArg List.tail hk
          simpa using this
        rw [List.length_cons, List.range'_succ, List.mapM_cons, hb, ih (k + 1) hk2]
        have := trod_int_mk (enc := enc) (P := P) (w := w) (base := base) (spare := spare) (held := held) 0 he (wf_byte b)
        simp [this]
    have := key l 0 rfl
    rw [hl] at this
    rw [List.range_eq_range']
    exact this
  split
  all_goals first | (rename_i h2; cases h2) | skip
  all_goals simp_all [bc_length, bd, List.flatMap_map]
end Go.Proofs.YtdfpnicpcndkjaaDoor
