/- What awake's calls tell, reckoned. awake: what the calls that each law asks first answer. -/
import Derived.Test.YtpenicjlpiechaaDoorQVo4
import Derived.Test.YtpenicjlpiechaaDoorQVo2
import Derived.WalkKit
import Derived.WalkSpells
import Derived.WalkLawsBesides
namespace Go.Proofs.YtpenicjlpiechaaDoor
set_option maxRecDepth 10000
open Go Go.RowKit
set_option linter.unusedVariables false
set_option linter.unusedSimpArgs false

def keyA_ : ByteArray := ⟨#[107, 101, 121]⟩
def keyB_ : ByteArray := ⟨#[111, 116, 104, 101, 114]⟩
def drawT : ByteArray := ⟨#[48, 49, 50, 51, 52, 53, 54, 55, 56, 57, 97, 98, 99, 100, 101, 102]⟩
def askT : ByteArray := ⟨#[48, 49, 50, 51, 52, 53, 54, 55, 56, 57, 97, 98, 99, 100, 101, 102, 0, 0, 0, 0, 0, 0, 0, 100]⟩
def toldT : ByteArray := ⟨#[48, 49, 50, 51, 52, 53, 54, 55, 56, 57, 97, 98, 99, 100, 101, 102, 0, 0, 0, 0, 0, 0, 0, 100, 0, 0, 0, 0, 0, 0, 0, 160, 0, 0, 0, 0, 0, 0, 0, 170]⟩
def tagA_ : ByteArray := ⟨#[43, 108, 104, 122, 5, 85, 7, 146, 67, 75, 239, 241, 137, 110, 32, 160]⟩
def tagB_ : ByteArray := ⟨#[188, 68, 17, 4, 91, 23, 213, 30, 151, 245, 223, 215, 101, 6, 214, 199]⟩
def ansA : ByteArray := ⟨#[48, 49, 50, 51, 52, 53, 54, 55, 56, 57, 97, 98, 99, 100, 101, 102, 0, 0, 0, 0, 0, 0, 0, 100, 0, 0, 0, 0, 0, 0, 0, 160, 0, 0, 0, 0, 0, 0, 0, 170, 43, 108, 104, 122, 5, 85, 7, 146, 67, 75, 239, 241, 137, 110, 32, 160]⟩
def ansB : ByteArray := ⟨#[48, 49, 50, 51, 52, 53, 54, 55, 56, 57, 97, 98, 99, 100, 101, 102, 0, 0, 0, 0, 0, 0, 0, 100, 0, 0, 0, 0, 0, 0, 0, 160, 0, 0, 0, 0, 0, 0, 0, 170, 188, 68, 17, 4, 91, 23, 213, 30, 151, 245, 223, 215, 101, 6, 214, 199]⟩
def S0 : Vy := ⟨keyA_, 1000, [], ⟨#[]⟩⟩
def S1 : Vy := ⟨keyA_, 1000, [dw drawT rfl], askT⟩
def S2 : Vy := ⟨keyA_, 1000, [dw drawT rfl], ⟨#[]⟩⟩
theorem ask_is : drawT ++ mb 100 = askT := by decide +kernel
theorem told_is : tld askT 160 170 = toldT := by decide +kernel
theorem is_gA : tag keyA_.data.toList toldT.data.toList = [43, 108, 104, 122, 5, 85, 7, 146, 67, 75, 239, 241, 137, 110, 32, 160, 208, 218, 241, 73, 29, 32, 47, 110, 189, 188, 224, 158, 222, 120, 61, 39] := by
  rw [tag, sum_dig, sum_dig]
  decide +kernel
theorem is_gB : tag keyB_.data.toList toldT.data.toList = [188, 68, 17, 4, 91, 23, 213, 30, 151, 245, 223, 215, 101, 6, 214, 199, 15, 67, 95, 80, 173, 44, 184, 30, 207, 24, 218, 140, 224, 118, 187, 181] := by
  rw [tag, sum_dig, sum_dig]
  decide +kernel
theorem fst_A : fst keyA_ toldT 16 = tagA_ := by
  unfold fst
  rw [is_gA]
  rfl
theorem fst_B : fst keyB_ toldT 16 = tagB_ := by
  unfold fst
  rw [is_gB]
  rfl
theorem ans_A : anw keyA_ askT 160 170 = ansA := by
  unfold anw
  rw [told_is, fst_A]
  decide +kernel
theorem ans_B : anw keyB_ askT 160 170 = ansB := by
  unfold anw
  rw [told_is, fst_B]
  decide +kernel
theorem take_0 : tk S0 ⟨#[]⟩ 0 = (((0, 0, 0), 10), S0) := rfl
theorem take_B : tk S1 ansB 130 = (((0, 0, 0), 12), S1) := by
  have e1 : ansB.extract 0 40 = toldT := by decide +kernel
  have e2 : ansB.extract 40 ansB.size = tagB_ := by decide +kernel
  have e3 : rgt S1.k toldT tagB_ = false := by
    unfold rgt
    refine decide_eq_false fun h => ?_
    have h2 := h.2
    rw [show fst S1.k toldT ((tagB_.size : Nat) : Int) = tagA_ from fst_A] at h2
    exact absurd h2 (by decide)
  unfold tk
  rw [if_neg (by decide), if_neg (by decide), if_neg (by decide +kernel), e1, e2, if_pos e3]
theorem take_A : tk S1 ansA 130 = (((50, 20, 13), 0), S2) := by
  have e1 : ansA.extract 0 40 = toldT := by decide +kernel
  have e2 : ansA.extract 40 ansA.size = tagA_ := by decide +kernel
  have e3 : rgt S1.k toldT tagA_ = true := by
    unfold rgt
    refine decide_eq_true ⟨by decide, ?_⟩
    rw [show fst S1.k toldT ((tagA_.size : Nat) : Int) = tagA_ from fst_A]
  have e4 : tkv S1 ansA 130 = ((50, 20, 13), 0) := by decide +kernel
  unfold tk
  rw [if_neg (by decide), if_neg (by decide), if_neg (by decide +kernel), e1, e2, e3, if_neg (by decide), e4]
  rfl
theorem take_2 : tk S2 ansA 130 = (((0, 0, 0), 10), S2) := rfl
theorem rd_1 : vrd 100 160 170 130 0 = ((50, 20, 12), 0) := by decide +kernel
theorem rd_2 : vrd 100 160 150 130 0 = ((0, 0, 0), 1) := by decide +kernel
end Go.Proofs.YtpenicjlpiechaaDoor
namespace Go.Proofs.YtpenicjlpiechaaDoor
set_option maxRecDepth 10000
open Go Go.RowKit
set_option linter.unusedVariables false
set_option linter.unusedSimpArgs false

theorem keep1 {P : Program} {f : FuncId} {args : Array Value} {v : Value} {w0 w : World} {A : HP} {L : List HP} (i : Nat) (hi : L[i]? = some A) (h : ∀ R, Ms w0 w (A :: R) → Calls P f args w (fun e w' => e = .returned v ∧ Ms w0 w' (A :: R))) (hM : Ms w0 w L) : Calls P f args w (fun e w' => e = .returned v ∧ Ms w0 w' L) :=
  (h _ (hM.up i hi)).mono fun e w' ⟨h1, h2⟩ => ⟨h1, Ms.down i hi h2⟩
theorem newv_e {w0 w : World} {R : List HP} (k : ByteArray) (r : Int) (hk : k ≠ ⟨#[]⟩) (hr : 0 ≤ r ∧ r ≤ 100000000) (S : Vy) (h : ⟨k, r, [], ⟨#[]⟩⟩ = S) (hM : Ms w0 w R) : Calls Tryd.prog 17 #[.string k, .int .i64 r] w fun e w' => ∃ p : Nat, e = .returned (.tuple #[.pointer (some ⟨p, 0, none⟩), .int .i64 0]) ∧ Ms w0 w' (vo p S :: R) := h ▸ new_y k r hk hr hM
theorem ask_e {w0 w : World} {R : List HP} {p : Nat} {S : Vy} (x : ByteArray) (t : Int) (hx : x.size = 16) (hd : dw x hx ∉ S.d) (v : ByteArray) (hv : x ++ mb t = v) (S2 : Vy) (h2 : ⟨S.k, S.r, S.d ++ [dw x hx], v⟩ = S2) (hM : Ms w0 w (vo p S :: R)) : Calls Tryd.prog 18 #[.pointer (some ⟨p, 0, none⟩), .string x, .int .i64 t] w fun e w' => e = .returned (.tuple #[.string v, .int .i64 0]) ∧ Ms w0 w' (vo p S2 :: R) := by
  subst hv h2
  exact ask_y x t hx hd hM
theorem answer_e (k a : ByteArray) (t2 t3 : Int) (w : World) (hT : Tabs w) (hk : k.size ≤ 3000) (ha : a.size = 24) (v : ByteArray) (hv : anw k a t2 t3 = v) : Calls Tryd.prog 19 #[.string k, .string a, .int .i64 t2, .int .i64 t3] w fun e w' => e = .returned (.tuple #[.string v, .int .i64 0]) ∧ Below w.heap.size w w' := by
  subst hv
  exact answer_y k a t2 t3 w hT hk ha
set_option maxHeartbeats 8000000 in
theorem awake_any (w : World) (hT : Tabs w) : Calls Tryd.prog 10 #[] w fun e w' => e = .returned (.bool true) ∧ Below w.heap.size w w' := by
  have hM := Ms.refl w
  go_enter Tryd.func10, Tryd.ntmps10
  refine wp_seq_k fun _ κ1 => wl_region (wl_fare kn ?_)
  simp (config := { maxSteps := 10000000 }) (disch := omega) only [fx, pv, kx]
  refine wl_nil (κ1 _ _ ?_)
  refine wp_seq_k fun _ κ2 => wl_region (wl_give rfl (g_cM hM (kf11 _ _) (round_any (100) (160) (170) (130) (0) w (⟨by decide, by decide⟩) (⟨by decide, by decide⟩) (⟨by decide, by decide⟩) (⟨by decide, by decide⟩) (50) (20) (12) (0) ⟨rd_1⟩) rfl ?_))
  intro w3 hM
  refine wl_fare kn ?_
  simp (config := { maxSteps := 10000000 }) (disch := omega) only [fx, pv, kx]
  refine wl_give rfl (g_alloc 23 (smc (0) (0) (0)) zeroSm fun w4 t_ b_ => ?_)
  replace hM := hM.new t_ b_
  clear t_ b_
  try simp only [nz]
  refine wl_give rfl (g_store_all 23 _ _ (w3.heap.size) (smc (50) (20) (12)) _ 23 rfl rfl (hM.get 0 rfl) (szSm _ _ _) (rfl) (one_smc _ _ _) fun w5 t_ b_ => ?_)
  replace hM : Ms w w5 [blk (w3.heap.size) (smc (50) (20) (12)) 23] := hM.put 0 rfl t_ b_
  clear t_ b_
  refine wl_fare kn ?_
  simp (config := { maxSteps := 10000000 }) (disch := omega) only [fx, pv, kx]
  refine wl_nil (κ2 _ _ ?_)
  refine wp_seq_k fun _ κ6 => wl_region (wl_give rfl (g_cM hM (kf11 _ _) (round_any (100) (160) (150) (130) (0) w5 (⟨by decide, by decide⟩) (⟨by decide, by decide⟩) (⟨by decide, by decide⟩) (⟨by decide, by decide⟩) (0) (0) (0) (1) ⟨rd_2⟩) rfl ?_))
  intro w7 hM
  refine wl_fare kn ?_
  simp (config := { maxSteps := 10000000 }) (disch := omega) only [fx, pv, kx]
  refine wl_give rfl (g_alloc 23 (smc (0) (0) (0)) zeroSm fun w8 t_ b_ => ?_)
  replace hM := hM.new t_ b_
  clear t_ b_
  try simp only [nz]
  refine wl_give rfl (g_store_all 23 _ _ (w7.heap.size) (smc (0) (0) (0)) _ 23 rfl rfl (hM.get 0 rfl) (szSm _ _ _) (rfl) (one_smc _ _ _) fun w9 t_ b_ => ?_)
  replace hM : Ms w w9 [blk (w7.heap.size) (smc (0) (0) (0)) 23, blk (w3.heap.size) (smc (50) (20) (12)) 23] := hM.put 0 rfl t_ b_
  clear t_ b_
  refine wl_fare kn ?_
  simp (config := { maxSteps := 10000000 }) (disch := omega) only [fx, pv, kx]
  refine wl_nil (κ6 _ _ ?_)
  refine wp_seq_k fun _ κ10 => wl_region (wl_give rfl (g_call 17 _ _ [.string (⟨#[107, 101, 121]⟩), .int .i64 (1000)] (kf17 _ _) rfl ((newv_e (⟨#[107, 101, 121]⟩) (1000) (by decide) (by decide) (S0) rfl hM).mono ?_)))
  rintro e w11 ⟨p12, rfl, h_⟩
  refine ⟨_, rfl, ?_⟩
  replace hM : Ms w w11 [vo p12 (S0), blk (w7.heap.size) (smc (0) (0) (0)) 23, blk (w3.heap.size) (smc (50) (20) (12)) 23] := h_
  clear h_
  refine wl_fare kn ?_
  simp (config := { maxSteps := 10000000 }) (disch := omega) only [fx, pv, kx]
  refine wl_nil (κ10 _ _ ?_)
  refine wp_seq_k fun _ κ13 => wl_region (wl_give rfl (g_cM hM (kf17 _ _) (new_n1 (⟨#[]⟩) 0 w11 rfl) rfl ?_))
  intro w14 hM
  refine wl_fare kn ?_
  simp (config := { maxSteps := 10000000 }) (disch := omega) only [fx, pv, kx]
  refine wl_nil (κ13 _ _ ?_)
  refine wp_seq_k fun _ κ15 => wp_seq_k fun _ κ16 => wl_region (wl_fare kn ?_)
  simp (config := { maxSteps := 10000000 }) (disch := omega) only [fx, pv, kx]
  refine wl_give rfl (g_peqV _ ((some ⟨p12, 0, none⟩)) false rfl rfl ?_)
  try simp only [nz]
  refine wl_nil (κ16 _ _ ?_)
  refine wp_cond_false rfl (wp_skip ?_)
  refine κ15 _ _ (wp_seq_k fun _ κ17 => ?_)
  refine wl_region (wl_fare kn ?_)
  simp (config := { maxSteps := 10000000 }) (disch := omega) only [fx, pv, kx]
  refine wl_give rfl (g_call 20 _ _ [.pointer (some ⟨p12, 0, none⟩), .string (⟨#[]⟩), .int .i64 (0)] (kf20 _ _) rfl ((take_any2 hT ⟨#[]⟩ 0 ⟨by decide, by decide⟩ (by decide) 0 0 0 10 S0 take_0 hM).mono ?_))
  rintro e w18 ⟨rfl, h_⟩
  refine ⟨_, rfl, ?_⟩
  replace hM : Ms w w18 [vo p12 (S0), blk (w7.heap.size) (smc (0) (0) (0)) 23, blk (w3.heap.size) (smc (50) (20) (12)) 23] := h_
  clear h_
  refine wl_fare kn ?_
  simp (config := { maxSteps := 10000000 }) (disch := omega) only [fx, pv, kx]
  refine wl_give rfl (g_alloc 23 (smc (0) (0) (0)) zeroSm fun w19 t_ b_ => ?_)
  replace hM := hM.new t_ b_
  clear t_ b_
  try simp only [nz]
  refine wl_give rfl (g_store_all 23 _ _ (w18.heap.size) (smc (0) (0) (0)) _ 23 rfl rfl (hM.get 0 rfl) (szSm _ _ _) (rfl) (one_smc _ _ _) fun w20 t_ b_ => ?_)
  replace hM : Ms w w20 [blk (w18.heap.size) (smc (0) (0) (0)) 23, vo p12 (S0), blk (w7.heap.size) (smc (0) (0) (0)) 23, blk (w3.heap.size) (smc (50) (20) (12)) 23] := hM.put 0 rfl t_ b_
  clear t_ b_
  refine wl_fare kn ?_
  simp (config := { maxSteps := 10000000 }) (disch := omega) only [fx, pv, kx]
  refine wl_nil (κ17 _ _ ?_)
  refine wp_seq_k fun _ κ21 => wl_region (wl_fare kn ?_)
  simp (config := { maxSteps := 10000000 }) (disch := omega) only [fx, pv, kx]
  refine wl_give rfl (g_call 18 _ _ [.pointer (some ⟨p12, 0, none⟩), .string (⟨#[48, 49, 50, 51, 52, 53, 54, 55, 56, 57, 97, 98, 99, 100, 101, 102]⟩), .int .i64 (100)] (kf18 _ _) rfl ((ask_e ⟨#[48, 49, 50, 51, 52, 53, 54, 55, 56, 57, 97, 98, 99, 100, 101, 102]⟩ 100 rfl (by decide) askT ask_is S1 rfl (show Ms w w20 [vo p12 (S0), blk (w18.heap.size) (smc (0) (0) (0)) 23, blk (w7.heap.size) (smc (0) (0) (0)) 23, blk (w3.heap.size) (smc (50) (20) (12)) 23] from (hM.up 1 rfl))).mono ?_))
  rintro e w22 ⟨rfl, h_⟩
  refine ⟨_, rfl, ?_⟩
  replace hM : Ms w w22 [vo p12 (S1), blk (w18.heap.size) (smc (0) (0) (0)) 23, blk (w7.heap.size) (smc (0) (0) (0)) 23, blk (w3.heap.size) (smc (50) (20) (12)) 23] := h_
  clear h_
  refine wl_fare kn ?_
  simp (config := { maxSteps := 10000000 }) (disch := omega) only [fx, pv, kx]
  refine wl_nil (κ21 _ _ ?_)
  refine wp_seq_k fun _ κ23 => wl_region (wl_fare kn ?_)
  simp (config := { maxSteps := 10000000 }) (disch := omega) only [fx, pv, kx]
  refine wl_give rfl (g_call 18 _ _ [.pointer (some ⟨p12, 0, none⟩), .string (⟨#[115, 104, 111, 114, 116]⟩), .int .i64 (100)] (kf18 _ _) rfl ((ask_n ⟨#[115, 104, 111, 114, 116]⟩ 100 (by decide) hM).mono ?_))
  rintro e w24 ⟨rfl, h_⟩
  refine ⟨_, rfl, ?_⟩
  replace hM : Ms w w24 [vo p12 (S1), blk (w18.heap.size) (smc (0) (0) (0)) 23, blk (w7.heap.size) (smc (0) (0) (0)) 23, blk (w3.heap.size) (smc (50) (20) (12)) 23] := h_
  clear h_
  refine wl_fare kn ?_
  simp (config := { maxSteps := 10000000 }) (disch := omega) only [fx, pv, kx]
  refine wl_nil (κ23 _ _ ?_)
  refine wp_seq_k fun _ κ25 => wl_region (wl_fare kn ?_)
  simp (config := { maxSteps := 10000000 }) (disch := omega) only [fx, pv, kx]
  refine wl_give rfl (g_call 18 _ _ [.pointer (some ⟨p12, 0, none⟩), .string (⟨#[48, 49, 50, 51, 52, 53, 54, 55, 56, 57, 97, 98, 99, 100, 101, 102]⟩), .int .i64 (101)] (kf18 _ _) rfl ((ask_t ⟨#[48, 49, 50, 51, 52, 53, 54, 55, 56, 57, 97, 98, 99, 100, 101, 102]⟩ 101 rfl (List.mem_cons_self) hM).mono ?_))
  rintro e w26 ⟨rfl, h_⟩
  refine ⟨_, rfl, ?_⟩
  replace hM : Ms w w26 [vo p12 (S1), blk (w18.heap.size) (smc (0) (0) (0)) 23, blk (w7.heap.size) (smc (0) (0) (0)) 23, blk (w3.heap.size) (smc (50) (20) (12)) 23] := h_
  clear h_
  refine wl_fare kn ?_
  simp (config := { maxSteps := 10000000 }) (disch := omega) only [fx, pv, kx]
  refine wl_nil (κ25 _ _ ?_)
  refine wp_seq_k fun _ κ27 => wl_region (wl_fare kn ?_)
  simp (config := { maxSteps := 10000000 }) (disch := omega) only [fx, pv, kx]
  refine wl_give rfl (g_call 22 _ _ [.pointer (some ⟨p12, 0, none⟩)] (kf22 _ _) rfl ((vopen_y (S := S1) (by decide) hM).mono ?_))
  rintro e w28 ⟨rfl, h_⟩
  refine ⟨_, rfl, ?_⟩
  replace hM : Ms w w28 [vo p12 (S1), blk (w18.heap.size) (smc (0) (0) (0)) 23, blk (w7.heap.size) (smc (0) (0) (0)) 23, blk (w3.heap.size) (smc (50) (20) (12)) 23] := h_
  clear h_
  refine wl_fare kn ?_
  simp (config := { maxSteps := 10000000 }) (disch := omega) only [fx, pv, kx]
  refine wl_nil (κ27 _ _ ?_)
  refine wp_seq_k fun _ κ29 => wl_region (wl_fare kn ?_)
  simp (config := { maxSteps := 10000000 }) (disch := omega) only [fx, pv, kx]
  refine wl_give rfl (g_cM hM (kf19 _ _) (answer_e (⟨#[107, 101, 121]⟩) (askT) (160) (170) w28 (hM.tabs hT) (by decide) rfl (ansA) ans_A) rfl fun w30 hM => wl_fare kn ?_)
  simp (config := { maxSteps := 10000000 }) (disch := omega) only [fx, pv, kx]
  refine wl_nil (κ29 _ _ ?_)
  refine wp_seq_k fun _ κ31 => wl_region (wl_fare kn ?_)
  simp (config := { maxSteps := 10000000 }) (disch := omega) only [fx, pv, kx]
  refine wl_give rfl (g_cM hM (kf19 _ _) (answer_e (⟨#[111, 116, 104, 101, 114]⟩) (askT) (160) (170) w30 (hM.tabs hT) (by decide) rfl (ansB) ans_B) rfl fun w32 hM => wl_fare kn ?_)
  simp (config := { maxSteps := 10000000 }) (disch := omega) only [fx, pv, kx]
  refine wl_nil (κ31 _ _ ?_)
  refine wp_seq_k fun _ κ33 => wl_region (wl_fare kn ?_)
  simp (config := { maxSteps := 10000000 }) (disch := omega) only [fx, pv, kx]
  refine wl_give rfl (g_call 20 _ _ [.pointer (some ⟨p12, 0, none⟩), .string (ansB), .int .i64 (130)] (kf20 _ _) rfl ((take_any2 hT ansB 130 ⟨by decide, by decide⟩ (by decide) 0 0 0 12 S1 take_B hM).mono ?_))
  rintro e w34 ⟨rfl, h_⟩
  refine ⟨_, rfl, ?_⟩
  replace hM : Ms w w34 [vo p12 (S1), blk (w18.heap.size) (smc (0) (0) (0)) 23, blk (w7.heap.size) (smc (0) (0) (0)) 23, blk (w3.heap.size) (smc (50) (20) (12)) 23] := h_
  clear h_
  refine wl_fare kn ?_
  simp (config := { maxSteps := 10000000 }) (disch := omega) only [fx, pv, kx]
  refine wl_give rfl (g_alloc 23 (smc (0) (0) (0)) zeroSm fun w35 t_ b_ => ?_)
  replace hM := hM.new t_ b_
  clear t_ b_
  try simp only [nz]
  refine wl_give rfl (g_store_all 23 _ _ (w34.heap.size) (smc (0) (0) (0)) _ 23 rfl rfl (hM.get 0 rfl) (szSm _ _ _) (rfl) (one_smc _ _ _) fun w36 t_ b_ => ?_)
  replace hM : Ms w w36 [blk (w34.heap.size) (smc (0) (0) (0)) 23, vo p12 (S1), blk (w18.heap.size) (smc (0) (0) (0)) 23, blk (w7.heap.size) (smc (0) (0) (0)) 23, blk (w3.heap.size) (smc (50) (20) (12)) 23] := hM.put 0 rfl t_ b_
  clear t_ b_
  refine wl_fare kn ?_
  simp (config := { maxSteps := 10000000 }) (disch := omega) only [fx, pv, kx]
  refine wl_nil (κ33 _ _ ?_)
  refine wp_seq_k fun _ κ37 => wl_region (wl_fare kn ?_)
  simp (config := { maxSteps := 10000000 }) (disch := omega) only [fx, pv, kx]
  refine wl_give rfl (g_call 20 _ _ [.pointer (some ⟨p12, 0, none⟩), .string (ansA), .int .i64 (130)] (kf20 _ _) rfl ((take_any2 hT ansA 130 ⟨by decide, by decide⟩ (by decide) 50 20 13 0 S2 take_A (show Ms w w36 [vo p12 (S1), blk (w34.heap.size) (smc (0) (0) (0)) 23, blk (w18.heap.size) (smc (0) (0) (0)) 23, blk (w7.heap.size) (smc (0) (0) (0)) 23, blk (w3.heap.size) (smc (50) (20) (12)) 23] from (hM.up 1 rfl))).mono ?_))
  rintro e w38 ⟨rfl, h_⟩
  refine ⟨_, rfl, ?_⟩
  replace hM : Ms w w38 [vo p12 (S2), blk (w34.heap.size) (smc (0) (0) (0)) 23, blk (w18.heap.size) (smc (0) (0) (0)) 23, blk (w7.heap.size) (smc (0) (0) (0)) 23, blk (w3.heap.size) (smc (50) (20) (12)) 23] := h_
  clear h_
  refine wl_fare kn ?_
  simp (config := { maxSteps := 10000000 }) (disch := omega) only [fx, pv, kx]
  refine wl_give rfl (g_alloc 23 (smc (0) (0) (0)) zeroSm fun w39 t_ b_ => ?_)
  replace hM := hM.new t_ b_
  clear t_ b_
  try simp only [nz]
  refine wl_give rfl (g_store_all 23 _ _ (w38.heap.size) (smc (50) (20) (13)) _ 23 rfl rfl (hM.get 0 rfl) (szSm _ _ _) (rfl) (one_smc _ _ _) fun w40 t_ b_ => ?_)
  replace hM : Ms w w40 [blk (w38.heap.size) (smc (50) (20) (13)) 23, vo p12 (S2), blk (w34.heap.size) (smc (0) (0) (0)) 23, blk (w18.heap.size) (smc (0) (0) (0)) 23, blk (w7.heap.size) (smc (0) (0) (0)) 23, blk (w3.heap.size) (smc (50) (20) (12)) 23] := hM.put 0 rfl t_ b_
  clear t_ b_
  refine wl_fare kn ?_
  simp (config := { maxSteps := 10000000 }) (disch := omega) only [fx, pv, kx]
  refine wl_nil (κ37 _ _ ?_)
  refine wp_seq_k fun _ κ41 => wl_region (wl_fare kn ?_)
  simp (config := { maxSteps := 10000000 }) (disch := omega) only [fx, pv, kx]
  refine wl_give rfl (g_call 20 _ _ [.pointer (some ⟨p12, 0, none⟩), .string (ansA), .int .i64 (130)] (kf20 _ _) rfl ((take_any2 hT ansA 130 ⟨by decide, by decide⟩ (by decide) 0 0 0 10 S2 take_2 (show Ms w w40 [vo p12 (S2), blk (w38.heap.size) (smc (50) (20) (13)) 23, blk (w34.heap.size) (smc (0) (0) (0)) 23, blk (w18.heap.size) (smc (0) (0) (0)) 23, blk (w7.heap.size) (smc (0) (0) (0)) 23, blk (w3.heap.size) (smc (50) (20) (12)) 23] from (hM.up 1 rfl))).mono ?_))
  rintro e w42 ⟨rfl, h_⟩
  refine ⟨_, rfl, ?_⟩
  replace hM : Ms w w42 [vo p12 (S2), blk (w38.heap.size) (smc (50) (20) (13)) 23, blk (w34.heap.size) (smc (0) (0) (0)) 23, blk (w18.heap.size) (smc (0) (0) (0)) 23, blk (w7.heap.size) (smc (0) (0) (0)) 23, blk (w3.heap.size) (smc (50) (20) (12)) 23] := h_
  clear h_
  refine wl_fare kn ?_
  simp (config := { maxSteps := 10000000 }) (disch := omega) only [fx, pv, kx]
  refine wl_give rfl (g_alloc 23 (smc (0) (0) (0)) zeroSm fun w43 t_ b_ => ?_)
  replace hM := hM.new t_ b_
  clear t_ b_
  try simp only [nz]
  refine wl_give rfl (g_store_all 23 _ _ (w42.heap.size) (smc (0) (0) (0)) _ 23 rfl rfl (hM.get 0 rfl) (szSm _ _ _) (rfl) (one_smc _ _ _) fun w44 t_ b_ => ?_)
  replace hM : Ms w w44 [blk (w42.heap.size) (smc (0) (0) (0)) 23, vo p12 (S2), blk (w38.heap.size) (smc (50) (20) (13)) 23, blk (w34.heap.size) (smc (0) (0) (0)) 23, blk (w18.heap.size) (smc (0) (0) (0)) 23, blk (w7.heap.size) (smc (0) (0) (0)) 23, blk (w3.heap.size) (smc (50) (20) (12)) 23] := hM.put 0 rfl t_ b_
  clear t_ b_
  refine wl_fare kn ?_
  simp (config := { maxSteps := 10000000 }) (disch := omega) only [fx, pv, kx]
  refine wl_nil (κ41 _ _ ?_)
  refine wp_seq_k fun _ κ45 => ?_
  (try simp only [List.append_eq, List.cons_append, List.nil_append])
  refine wl_text (C := fun wx => Ms w wx [blk (w42.heap.size) (smc (0) (0) (0)) 23, vo p12 (S2), blk (w38.heap.size) (smc (50) (20) (13)) 23, blk (w34.heap.size) (smc (0) (0) (0)) 23, blk (w18.heap.size) (smc (0) (0) (0)) 23, blk (w7.heap.size) (smc (0) (0) (0)) 23, blk (w3.heap.size) (smc (50) (20) (12)) 23]) (by kernel_rfl) [.agg (smc (50) (20) (12)).toArray, .agg (smc (50) (20) (12)).toArray, .bool true, .bool true, .int .i64 (0), .bool true, .bool true, .bool true, .int .i64 (1), .bool true, .bool true, .bool true, .int .i64 (0), .bool true, .bool true, .bool true, .int .i64 (1), .bool true, .bool true, .bool true, .int .i64 (10), .bool true, .bool true, .bool true, .int .i64 (0), .bool true, .bool true, .bool true, .string (askT), .int .i64 (24), .bool true, .bool true, .bool true, .int .i64 (5), .bool true, .bool true, .bool true, .int .i64 (11), .bool true, .bool true, .bool true, .bool true, .bool true, .bool true, .int .i64 (0), .bool true, .bool true, .bool true, .string (ansA), .int .i64 (56), .bool true, .bool true, .bool true, .int .i64 (0), .bool true, .bool true, .bool true, .int .i64 (12), .bool true, .bool true, .bool true, .agg (smc (50) (20) (13)).toArray, .agg (smc (50) (20) (13)).toArray, .bool true, .bool true, .bool true, .int .i64 (0), .bool true, .bool true, .bool true, .int .i64 (10), .bool true, .bool true, .bool true, .pointer (some ⟨p12, 0, none⟩), .bool false, .bool true, .bool true, .bool true, .agg (smc (50) (20) (12)).toArray, .agg (smc (50) (20) (13)).toArray, .bool true, .bool true, .bool true, .agg (smc (50) (20) (12)).toArray, .agg (smc (75) (0) (12)).toArray, .bool false, .bool true, .bool true, .bool true] (by rfl) hM (by simp only [fullL, Act.put, st_a, st_s, st_0]; exact ⟨fun _ hM => gw rfl (g_load_all 23 _ (w3.heap.size) (smc (50) (20) (12)) 23 _ rfl (hM.get 6 rfl) Tryd.underlying23 rfl (szSm _ _ _) ⟨rfl, hM⟩), fun _ hM => gw rfl (g_bldSm_012 _ _ _ (50) (20) (12) rfl rfl rfl ⟨rfl, hM⟩), fun _ hM => gw rfl (g_eqlSm _ _ (50) (20) (12) (50) (20) (12) true rfl rfl (decide_eq_true ⟨rfl, rfl, rfl⟩) ⟨rfl, hM⟩), mvL rfl rfl, mvL rfl rfl, fun _ hM => gw rfl (g_ieq 25 _ _ .i64 (0) (0) true rfl rfl (by decide) ⟨rfl, hM⟩), ptL rfl rfl rfl, mvL rfl rfl, mvL rfl rfl, fun _ hM => gw rfl (g_ieq 25 _ _ .i64 (1) (1) true rfl rfl (by decide) ⟨rfl, hM⟩), ptL rfl rfl rfl, mvL rfl rfl, mvL rfl rfl, fun _ hM => gw rfl (g_ieq 25 _ _ .i64 (0) (0) true rfl rfl (by decide) ⟨rfl, hM⟩), ptL rfl rfl rfl, mvL rfl rfl, mvL rfl rfl, fun _ hM => gw rfl (g_ieq 25 _ _ .i64 (1) (1) true rfl rfl (by decide) ⟨rfl, hM⟩), ptL rfl rfl rfl, mvL rfl rfl, mvL rfl rfl, fun _ hM => gw rfl (g_ieq 25 _ _ .i64 (10) (10) true rfl rfl (by decide) ⟨rfl, hM⟩), ptL rfl rfl rfl, mvL rfl rfl, mvL rfl rfl, fun _ hM => gw rfl (g_ieq 25 _ _ .i64 (0) (0) true rfl rfl (by decide) ⟨rfl, hM⟩), ptL rfl rfl rfl, mvL rfl rfl, mvL rfl rfl, fun _ hM => gw rfl (g_lenT _ (askT) (24) rfl (rfl) ⟨rfl, hM⟩), fun _ hM => gw rfl (g_ieq 3 _ _ .i64 (24) (24) true rfl rfl (by decide) ⟨rfl, hM⟩), ptL rfl rfl rfl, mvL rfl rfl, mvL rfl rfl, fun _ hM => gw rfl (g_ieq 25 _ _ .i64 (5) (5) true rfl rfl (by decide) ⟨rfl, hM⟩), ptL rfl rfl rfl, mvL rfl rfl, mvL rfl rfl, fun _ hM => gw rfl (g_ieq 25 _ _ .i64 (11) (11) true rfl rfl (by decide) ⟨rfl, hM⟩), ptL rfl rfl rfl, mvL rfl rfl, mvL rfl rfl, ptL rfl rfl rfl, mvL rfl rfl, mvL rfl rfl, fun _ hM => gw rfl (g_ieq 25 _ _ .i64 (0) (0) true rfl rfl (by decide) ⟨rfl, hM⟩), ptL rfl rfl rfl, mvL rfl rfl, mvL rfl rfl, fun _ hM => gw rfl (g_lenT _ (ansA) (56) rfl (rfl) ⟨rfl, hM⟩), fun _ hM => gw rfl (g_ieq 3 _ _ .i64 (56) (56) true rfl rfl (by decide) ⟨rfl, hM⟩), ptL rfl rfl rfl, mvL rfl rfl, mvL rfl rfl, fun _ hM => gw rfl (g_ieq 25 _ _ .i64 (0) (0) true rfl rfl (by decide) ⟨rfl, hM⟩), ptL rfl rfl rfl, mvL rfl rfl, mvL rfl rfl, fun _ hM => gw rfl (g_ieq 25 _ _ .i64 (12) (12) true rfl rfl (by decide) ⟨rfl, hM⟩), ptL rfl rfl rfl, mvL rfl rfl, fun _ hM => gw rfl (g_load_all 23 _ (w38.heap.size) (smc (50) (20) (13)) 23 _ rfl (hM.get 2 rfl) Tryd.underlying23 rfl (szSm _ _ _) ⟨rfl, hM⟩), fun _ hM => gw rfl (g_bldSm_012 _ _ _ (50) (20) (13) rfl rfl rfl ⟨rfl, hM⟩), fun _ hM => gw rfl (g_eqlSm _ _ (50) (20) (13) (50) (20) (13) true rfl rfl (decide_eq_true ⟨rfl, rfl, rfl⟩) ⟨rfl, hM⟩), ptL rfl rfl rfl, mvL rfl rfl, mvL rfl rfl, fun _ hM => gw rfl (g_ieq 25 _ _ .i64 (0) (0) true rfl rfl (by decide) ⟨rfl, hM⟩), ptL rfl rfl rfl, mvL rfl rfl, mvL rfl rfl, fun _ hM => gw rfl (g_ieq 25 _ _ .i64 (10) (10) true rfl rfl (by decide) ⟨rfl, hM⟩), ptL rfl rfl rfl, mvL rfl rfl, mvL rfl rfl, fun _ hM => gw rfl (g_call 22 _ _ [.pointer (some ⟨p12, 0, none⟩)] (kf22 _ _) rfl ((keep1 1 rfl (fun R_ h_ => vopen_n (S := S2) rfl h_) hM).mono (fun _ _ ⟨h1_, h2_⟩ => ⟨_, h1_, rfl, h2_⟩))), fun _ hM => gw rfl (g_unot 4 _ false rfl ⟨rfl, hM⟩), ptL rfl rfl rfl, mvL rfl rfl, fun _ hM => gw rfl (g_load_all 23 _ (w3.heap.size) (smc (50) (20) (12)) 23 _ rfl (hM.get 6 rfl) Tryd.underlying23 rfl (szSm _ _ _) ⟨rfl, hM⟩), fun _ hM => gw rfl (g_load_all 23 _ (w38.heap.size) (smc (50) (20) (13)) 23 _ rfl (hM.get 2 rfl) Tryd.underlying23 rfl (szSm _ _ _) ⟨rfl, hM⟩), fun wx hM => gw rfl (g_call 13 _ _ [.agg (smc (50) (20) (12)).toArray, .agg (smc (50) (20) (13)).toArray] (kf13 _ _) rfl ((within_any (50) (20) (12) (50) (20) (13) wx (⟨by decide, by decide⟩) (⟨by decide, by decide⟩) (⟨by decide, by decide⟩) (⟨by decide, by decide⟩) true ⟨rfl⟩).mono (fun _ _ ⟨h1_, h2_⟩ => ⟨_, h1_, rfl, hM.call h2_⟩))), ptL rfl rfl rfl, mvL rfl rfl, fun _ hM => gw rfl (g_load_all 23 _ (w3.heap.size) (smc (50) (20) (12)) 23 _ rfl (hM.get 6 rfl) Tryd.underlying23 rfl (szSm _ _ _) ⟨rfl, hM⟩), fun _ hM => gw rfl (g_bldSm_02 _ _ (75) (12) rfl rfl ⟨rfl, hM⟩), fun wx hM => gw rfl (g_call 13 _ _ [.agg (smc (50) (20) (12)).toArray, .agg (smc (75) (0) (12)).toArray] (kf13 _ _) rfl ((within_any (50) (20) (12) (75) (0) (12) wx (⟨by decide, by decide⟩) (⟨by decide, by decide⟩) (⟨by decide, by decide⟩) (⟨by decide, by decide⟩) false ⟨rfl⟩).mono (fun _ _ ⟨h1_, h2_⟩ => ⟨_, h1_, rfl, hM.call h2_⟩))), fun _ hM => gw rfl (g_unot 4 _ false rfl ⟨rfl, hM⟩), ptL rfl rfl rfl, asL rfl rfl, trivial⟩) ?_
  simp only [fullL, Act.put, st_a, st_s, st_0]
  intro w46 hM
  refine κ45 _ _ (wp_ret ?_)
  go_ret
  exact ⟨rfl, hM.below⟩
end Go.Proofs.YtpenicjlpiechaaDoor
