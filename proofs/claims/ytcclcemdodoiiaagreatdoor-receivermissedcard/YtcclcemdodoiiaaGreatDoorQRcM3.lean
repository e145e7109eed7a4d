/- What getting and learning answer, case by case; what every receiver keeps: no program. What the laws of receiver share. -/
import Derived.Test.YtcclcemdodoiiaaGreatDoorQRcL
import Derived.Test.YtcclcemdodoiiaaGreatDoorQRc5
import Derived.Test.YtcclcemdodoiiaaGreatDoorQRunG
import Derived.Test.YtcclcemdodoiiaaGreatDoorQSd3
import Derived.Test.YtcclcemdodoiiaaGreatDoorQPl2
import Derived.Test.YtcclcemdodoiiaaGreatDoorQLib
import Derived.WalkKit
import Derived.WalkSpells
import Derived.WalkLawsBesides
namespace Go.Proofs.YtcclcemdodoiiaaGreatDoor
set_option maxRecDepth 10000
open Go Go.RowKit
set_option linter.unusedVariables false
set_option linter.unusedSimpArgs false

section
variable {S S1 S2 : Rc} {q : Pk} {t i E : Int} {k : Ky} {T : List Thg}
theorem got_form (h : ¬ Fmd S.P q) : got S q t = (([], 2), S) := by unfold got; exact if_pos h
theorem got_ok (hf : Fmd S.P q) (hl : lnp S q = ((T, 0), S1)) (hw : wtg S1 q t = (E, S2)) : got S q t = ((T, E), S2) := by
  unfold got; rw [if_neg (fun h => h hf), hl]; rw [if_neg (fun h => h rfl), hw]
theorem lnp_none (h : ¬ 0 < q.t) : lnp S q = (([], 0), S) := by unfold lnp; exact if_neg h
theorem lnp_some (h : 0 < q.t) : lnp S q = lea S q.k q.t := by unfold lnp; exact if_pos h
theorem wtg_late (h : psf S.P q.i t = false) : wtg S q t = (14, S) := by unfold wtg; exact if_pos h
theorem wtg_put (hs : psf S.P q.i t = true) (h : hasT q.i q.x S.B = false) (he : bpE S.x S.y q.i (q.g ++ q.x) S.L = 0) : wtg S q t = (0, { S with L := S.L ++ [(q.i, q.g ++ q.x)] }) := by
  unfold wtg bpL bpD; rw [if_neg (by simp [hs]), if_neg (by simp [h]), he]; rfl
theorem wtg_err (hs : psf S.P q.i t = true) (h : hasT q.i q.x S.B = false) (he : bpE S.x S.y q.i (q.g ++ q.x) S.L = E) (h0 : E ≠ 0) (h4 : E ≠ 4) : wtg S q t = (E, S) := by
  unfold wtg bpL bpD; rw [if_neg (by simp [hs]), if_neg (by simp [h]), he, if_neg h0, if_neg h4]
theorem wtg_full (hs : psf S.P q.i t = true) (h : hasT q.i q.x S.B = false) (he : bpE S.x S.y q.i (q.g ++ q.x) S.L = 4) : wtg S q t = (4, { S with d := S.d + 1 }) := by
  unfold wtg bpL bpD; rw [if_neg (by simp [hs]), if_neg (by simp [h]), he]; rfl
theorem lea_known (h1 : 1 ≤ i) (h2 : i ≤ S.P.ct) (h3 : i ≤ S.n) (h4 : (wl (S.n - i).toNat S.k).l = k.l) : lea S k i = (([], 0), S) := by
  unfold lea; rw [if_neg (by omega), if_pos h3, if_pos h4]
theorem lea_other (h1 : 1 ≤ i) (h2 : i ≤ S.P.ct) (h3 : i ≤ S.n) (h4 : ¬ (wl (S.n - i).toNat S.k).l = k.l) : lea S k i = (([], 13), S) := by
  unfold lea; rw [if_neg (by omega), if_pos h3, if_neg h4]
theorem lea_go (h1 : 1 ≤ i) (h2 : i ≤ S.P.ct) (h3 : S.n < i) (h4 : i - S.n ≤ S.mo) (h5 : (wl (i - S.n).toNat k).l = S.k.l) : lea S k i = (((blv { S with k := k, n := i }).1, 0), (blv { S with k := k, n := i }).2) := by
  unfold lea; rw [if_neg (by omega), if_neg (by omega), if_neg (by omega), if_pos h5]
end
end Go.Proofs.YtcclcemdodoiiaaGreatDoor
namespace Go.Proofs.YtcclcemdodoiiaaGreatDoor
set_option maxRecDepth 10000
open Go Go.RowKit
set_option linter.unusedVariables false
set_option linter.unusedSimpArgs false

theorem known_v {w0 w : World} {R : List HP} {p : Nat} {s : Ky} {P : Pl} {l : Int} (hM : Ms w0 w (sn p s P l :: R)) (K : Ky) (h : Shut (kyk s P 0 = K)) : Calls Tryz.prog 26 #[.pointer (some ⟨p, 0, none⟩)] w fun e w' => e = .returned (.agg (kc K).toArray) ∧ Below w.heap.size w w' := by
  rw [← h.out]; exact known_any hM
theorem cell_on {u w : World} {L : List HP} (hM : Ms u w L) {b k : Nat} {v : Value} (h : u.cell? ⟨b, k, none⟩ = some v) : w.cell? ⟨b, k, none⟩ = some v :=
  (hM.below.cell (p := ⟨b, k, none⟩) (World.block_lt_of_cell? u _ h)).trans h
theorem rem_nat (n : Int) (q : Nat) (hq : 0 < q) (h : 0 ≤ n) : ∃ r : Nat, n.tmod ((q : Nat) : Int) = ((r : Nat) : Int) ∧ r < q := by
  rw [Int.tmod_eq_emod_of_nonneg h]
  have h1 := Int.emod_nonneg n (show ((q : Nat) : Int) ≠ 0 by omega)
  have h2 := Int.emod_lt_of_pos n (show (0 : Int) < ((q : Nat) : Int) by omega)
  exact ⟨(n % ((q : Nat) : Int)).toNat, by omega, by omega⟩
section
variable {a : Act} {w : World} {dst : Option Tmp} {ty : TypeId} {pos : String} {aft : Array Edge} {gd : Option (Nat × Bool)} {K : Value → World → Prop}
theorem g_cv_77_3 (x : Operand) (p r : Int) (hx : a.eval x = .int .u16 p) (hr : IntKind.i64.wrap p = r) (hk : K (.int .i64 r) w) : gives Tryz.prog ⟨dst, .convert 77 3 x, ty, pos, aft, gd⟩ a w K :=
  g_val (.int .i64 r) w (by simp only [execOp, hx]; go_simp) hk
theorem g_cv_77_2 (x : Operand) (p r : Int) (hx : a.eval x = .int .u16 p) (hr : IntKind.i64.wrap p = r) (hk : K (.int .i64 r) w) : gives Tryz.prog ⟨dst, .convert 77 2 x, ty, pos, aft, gd⟩ a w K :=
  g_val (.int .i64 r) w (by simp only [execOp, hx]; go_simp) hk
end
theorem sdA_ok (s : Ky) (P : Pl) (l t i T : Int) (x : ByteArray) (h1 : pat P t = (i, 0)) (h2 : l ≤ i) (h3 : x.size ≤ 1000) (h4 : pte P i = T) : sdA s P l t x = ((⟨i, x, tgs (kyk s P i) i x, T, if 0 < T then kyk s P T else zk⟩, 0), i) := by
  unfold sdA sdP
  rw [h1, h4, if_neg (by simp), if_neg (by show ¬ i < l; omega), if_neg (by omega)]
/-- Where nothing waits, nothing is believed. -/
theorem blv_nil {S : Rc} (hL : S.L = []) : blv S = ([], S) := by
  have e : blF S.k S.n S.B (ivs S.L) (([], S.wr), S.L) = (([], S.wr), []) := by rw [hL]; rfl
  unfold blv
  rw [e]
  obtain ⟨P, k, n, mo, x, y, d, L, B, wr⟩ := S
  subst hL
  simp
/-- A sender's own keys are a chain. -/
theorem kyk_back {s : Ky} {P : Pl} (hP : POk P) {i j : Int} (h0 : 0 ≤ i) (h1 : i ≤ j) (h2 : j ≤ P.ct) : wl (j - i).toNat (kyk s P j) = kyk s P i := by
  obtain ⟨c, hc⟩ : ∃ c : Nat, P.ct = (c : Int) := ⟨P.ct.toNat, by omega⟩
  have c1 : 1 ≤ c ∧ c ≤ 1024 := by omega
  have e1 := kyk_nat (s := s) c1.1 c1.2 hc i.toNat (by omega)
  have e2 := kyk_nat (s := s) c1.1 c1.2 hc j.toNat (by omega)
  rw [show ((i.toNat : Nat) : Int) = i by omega] at e1
  rw [show ((j.toNat : Nat) : Int) = j by omega] at e2
  rw [e1, e2, wl_add]
  congr 1
  omega
/-- A sender's own packet of the interval i has its form. -/
abbrev own (s : Ky) (P : Pl) (i : Int) (x : ByteArray) : Pk := ⟨i, x, tgs (kyk s P i) i x, pte P i, if 0 < pte P i then kyk s P (pte P i) else zk⟩
theorem own_form {s : Ky} {P : Pl} {i : Int} {x : ByteArray} (h1 : 1 ≤ i) (h2 : i ≤ P.ct) (hx : x.size ≤ 1000) : Fmd P (own s P i x) := by
  refine ⟨⟨h1, h2⟩, tgs_size _ _ _, hx, rfl, ?_⟩
  by_cases h : 0 < pte P i
  · exact .inl h
  · right
    show (if 0 < pte P i then kyk s P (pte P i) else zk).l = zk.l
    rw [if_neg h]
/-- What a sender's own packet tells is learnt by a receiver that knows an elder key of it, or knows it. -/
theorem own_lnp {s : Ky} {P : Pl} (hP : POk P) {S : Rc} (eP : S.P = P) (hk : S.k = kyk s P S.n) (h0 : 0 ≤ S.n) (hn : S.n ≤ P.ct) (hm : P.ct ≤ S.mo) {i : Int} (h1 : 1 ≤ i) (h2 : i ≤ P.ct) (x : ByteArray) :
    lnp S (own s P i x) = if S.n < pte P i then (((blv { S with k := kyk s P (pte P i), n := pte P i }).1, 0), (blv { S with k := kyk s P (pte P i), n := pte P i }).2) else (([], 0), S) := by
  have ht := pte_le hP h1 h2
  by_cases h : S.n < pte P i
  · rw [if_pos h, lnp_some (by show 0 < pte P i; omega)]
    show lea S (if 0 < pte P i then kyk s P (pte P i) else zk) (pte P i) = _
    rw [if_pos (by omega)]
    exact lea_go (by omega) (by rw [eP]; omega) h (by omega) (by rw [hk, kyk_back hP h0 (by omega) (by omega)])
  · rw [if_neg h]
    by_cases h3 : 0 < pte P i
    · rw [lnp_some (by show 0 < pte P i; omega)]
      show lea S (if 0 < pte P i then kyk s P (pte P i) else zk) (pte P i) = _
      rw [if_pos h3]
      exact lea_known (by omega) (by rw [eP]; omega) (by omega) (by rw [hk, kyk_back hP (by omega) (by omega) hn])
    · exact lnp_none (by show ¬ 0 < pte P i; omega)
end Go.Proofs.YtcclcemdodoiiaaGreatDoor
