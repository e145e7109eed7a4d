/- What awake's calls tell, reckoned. -/
import Derived.Test.YtpenicjlpiechaaDoorVo4
namespace Go.Proofs.YtpenicjlpiechaaDoor
set_option maxRecDepth 10000
open Go Go.RowKit
set_option linter.unusedVariables false
set_option linter.unusedSimpArgs false

def keyA_ : ByteArray := ⟨#[107, 101, 121]⟩
def keyB_ : ByteArray := ⟨#[111, 116, 104, 101, 114]⟩
def drawT : ByteArray := ⟨#[48, 49, 50, 51, 52, 53, 54, 55, 56, 57, 97, 98, 99, 100, 101, 102]⟩
def askT : ByteArray := ⟨#[48, 49, 50, 51, 52, 53, 54, 55, 56, 57, 97, 98, 99, 100, 101, 102, 0, 0, 0, 0, 0, 0, 0, 100]⟩
def toldT : ByteArray := ⟨#[48, 49, 50, 51, 52, 53, 54, 55, 56, 57, 97, 98, 99, 100, 101, 102, 0, 0, 0, 0, 0, 0, 0, 100, 0, 0, 0, 0, 0, 0, 0, 160, 0, 0, 0, 0, 0, 0, 0, 170]⟩
def tagA_ : ByteArray := ⟨#[43, 108, 104, 122, 5, 85, 7, 146, 67, 75, 239, 241, 137, 110, 32, 160]⟩
def tagB_ : ByteArray := ⟨#[188, 68, 17, 4, 91, 23, 213, 30, 151, 245, 223, 215, 101, 6, 214, 199]⟩
def ansA : ByteArray := ⟨#[48, 49, 50, 51, 52, 53, 54, 55, 56, 57, 97, 98, 99, 100, 101, 102, 0, 0, 0, 0, 0, 0, 0, 100, 0, 0, 0, 0, 0, 0, 0, 160, 0, 0, 0, 0, 0, 0, 0, 170, 43, 108, 104, 122, 5, 85, 7, 146, 67, 75, 239, 241, 137, 110, 32, 160]⟩
def ansB : ByteArray := ⟨#[48, 49, 50, 51, 52, 53, 54, 55, 56, 57, 97, 98, 99, 100, 101, 102, 0, 0, 0, 0, 0, 0, 0, 100, 0, 0, 0, 0, 0, 0, 0, 160, 0, 0, 0, 0, 0, 0, 0, 170, 188, 68, 17, 4, 91, 23, 213, 30, 151, 245, 223, 215, 101, 6, 214, 199]⟩
def S0 : Vy := ⟨keyA_, 1000, [], ⟨#[]⟩⟩
def S1 : Vy := ⟨keyA_, 1000, [dw drawT rfl], askT⟩
def S2 : Vy := ⟨keyA_, 1000, [dw drawT rfl], ⟨#[]⟩⟩
theorem ask_is : drawT ++ mb 100 = askT := by decide +kernel
theorem told_is : tld askT 160 170 = toldT := by decide +kernel
theorem is_gA : tag keyA_.data.toList toldT.data.toList = [43, 108, 104, 122, 5, 85, 7, 146, 67, 75, 239, 241, 137, 110, 32, 160, 208, 218, 241, 73, 29, 32, 47, 110, 189, 188, 224, 158, 222, 120, 61, 39] := by
  rw [tag, sum_dig, sum_dig]
  decide +kernel
theorem is_gB : tag keyB_.data.toList toldT.data.toList = [188, 68, 17, 4, 91, 23, 213, 30, 151, 245, 223, 215, 101, 6, 214, 199, 15, 67, 95, 80, 173, 44, 184, 30, 207, 24, 218, 140, 224, 118, 187, 181] := by
  rw [tag, sum_dig, sum_dig]
  decide +kernel
theorem fst_A : fst keyA_ toldT 16 = tagA_ := by
  unfold fst
  rw [is_gA]
  rfl
theorem fst_B : fst keyB_ toldT 16 = tagB_ := by
  unfold fst
  rw [is_gB]
  rfl
theorem ans_A : anw keyA_ askT 160 170 = ansA := by
  unfold anw
  rw [told_is, fst_A]
  decide +kernel
theorem ans_B : anw keyB_ askT 160 170 = ansB := by
  unfold anw
  rw [told_is, fst_B]
  decide +kernel
theorem take_0 : tk S0 ⟨#[]⟩ 0 = (((0, 0, 0), 10), S0) := rfl
theorem take_B : tk S1 ansB 130 = (((0, 0, 0), 12), S1) := by
  have e1 : ansB.extract 0 40 = toldT := by decide +kernel
  have e2 : ansB.extract 40 ansB.size = tagB_ := by decide +kernel
  have e3 : rgt S1.k toldT tagB_ = false := by
    unfold rgt
    refine decide_eq_false fun h => ?_
    have h2 := h.2
    rw [show fst S1.k toldT ((tagB_.size : Nat) : Int) = tagA_ from fst_A] at h2
    exact absurd h2 (by decide)
  unfold tk
  rw [if_neg (by decide), if_neg (by decide), if_neg (by decide +kernel), e1, e2, if_pos e3]
theorem take_A : tk S1 ansA 130 = (((50, 20, 13), 0), S2) := by
  have e1 : ansA.extract 0 40 = toldT := by decide +kernel
  have e2 : ansA.extract 40 ansA.size = tagA_ := by decide +kernel
  have e3 : rgt S1.k toldT tagA_ = true := by
    unfold rgt
    refine decide_eq_true ⟨by decide, ?_⟩
    rw [show fst S1.k toldT ((tagA_.size : Nat) : Int) = tagA_ from fst_A]
  have e4 : tkv S1 ansA 130 = ((50, 20, 13), 0) := by decide +kernel
  unfold tk
  rw [if_neg (by decide), if_neg (by decide), if_neg (by decide +kernel), e1, e2, e3, if_neg (by decide), e4]
  rfl
theorem take_2 : tk S2 ansA 130 = (((0, 0, 0), 10), S2) := rfl
theorem rd_1 : vrd 100 160 170 130 0 = ((50, 20, 12), 0) := by decide +kernel
theorem rd_2 : vrd 100 160 150 130 0 = ((0, 0, 0), 1) := by decide +kernel
end Go.Proofs.YtpenicjlpiechaaDoor
