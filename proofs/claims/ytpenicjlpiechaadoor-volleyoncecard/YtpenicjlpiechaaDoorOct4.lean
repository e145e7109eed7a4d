/- What the program's octet.Pad answers; nothing that was there is changed. -/
import Derived.Test.YtpenicjlpiechaaDoorRows
import Derived.WalkKit
import Derived.WalkSpells
import Derived.WalkLawsBesides
import Derived.Laws.IdiomStrings
import Derived.Test.YtpenicjlpiechaaDoorBas
import Derived.Test.YtpenicjlpiechaaDoorShelf
namespace Go.Proofs.YtpenicjlpiechaaDoor
set_option maxRecDepth 10000
open Go.RowKit
set_option linter.unusedVariables false
theorem Tryd.info9 : (Tryd.prog.info? 9).map (fun i => (i.zero, i.size, i.bytes)) = some (some (.string ByteArray.empty), 1, 16) := by kernel_rfl

set_option maxHeartbeats 400000 in
theorem pad_low (s : ByteArray) (t : Int) (w : World) (h : t < 1) :
    Calls Tryd.prog 91 #[.string s, .int .i64 t] w fun e w' => e = .returned (.string s) ∧ w' = w := by
  go_enter Tryd.func91, Tryd.ntmps91
  go_wp2
  go_ret
  exact ⟨rfl, rfl⟩
set_option maxHeartbeats 400000 in
theorem pad_full (s : ByteArray) (t : Nat) (w : World) (h : 1 ≤ t) (hs : s.size ≤ 1099511627776) (h0 : s.size % t = 0) :
    Calls Tryd.prog 91 #[.string s, .int .i64 t] w fun e w' => e = .returned (.string s) ∧ w' = w := by
  have h1 : ((s.size : Int) % (t : Int)) = 0 := by omega
  have hne : ((t : Int) == 0) = false := by simp; omega
  go_enter Tryd.func91, Tryd.ntmps91
  go_wp2
  go_ret
  exact ⟨rfl, rfl⟩
theorem ret_string {a b : ByteArray} (h : a = b) : Ending.returned (.string a) = .returned (.string b) := by rw [h]
theorem pad_append (s : ByteArray) (c : Nat) : s ++ (⟨Array.replicate c 0⟩ : ByteArray) = ⟨(s.data.toList ++ List.replicate c 0).toArray⟩ := by
  apply ByteArray.ext
  rw [ByteArray.data_append]
  apply Array.toList_inj.1
  simp
theorem repeat_zero (c : Nat) : Lib.repeatL [0] c = List.replicate c 0 := by
  induction c with
  | zero => rfl
  | succ c ih => rw [Lib.repeatL, ih, List.replicate_succ]; rfl
theorem repeat_any (c : Nat) (w : World) (h : c ≤ 1099511627776) :
    Calls Tryd.prog 95 #[.string ⟨#[0]⟩, .int .i64 c] w fun e w' => e = .returned (.string ⟨(List.replicate c 0).toArray⟩) ∧ Below w.heap.size w w' := by
  have h1 : (⟨#[0]⟩ : ByteArray).size = 1 := rfl
  have hB : (⟨#[0]⟩ : ByteArray).size * c ≤ 140737488355328 := by rw [h1]; omega
  have h := Tryd.strings_Repeat ⟨#[0]⟩ c w (by omega) hB
  have e : Lib.repeatL (⟨#[0]⟩ : ByteArray).data.toList c = List.replicate c 0 := repeat_zero c
  rw [e] at h
  exact h
set_option maxHeartbeats 400000 in
theorem pad_more (s : ByteArray) (t r c : Nat) (w : World) (hr : s.size % t = r) (h1 : 1 ≤ r) (h2 : 1 ≤ c) (hc : r + c = t) (ht : t ≤ 1099511627776) (hs : s.size ≤ 1099511627776) :
    Calls Tryd.prog 91 #[.string s, .int .i64 t] w fun e w' => e = .returned (.string ⟨(s.data.toList ++ List.replicate c 0).toArray⟩) ∧ Below w.heap.size w w' := by
  have hr' : ((s.size : Int) % (t : Int)) = r := by omega
  have hr0 : ((r : Int) == 0) = false := by simp; omega
  have hne : ((t : Int) == 0) = false := by simp; omega
  have ht1 : 1 ≤ t := by omega
  clear hr
  have HC : Hid (r + c = t) := hc
  have hcm : c ≤ 1099511627776 := by omega
  have hrt : r ≤ t := by omega
  clear hc
  go_enter Tryd.func91, Tryd.ntmps91
  go_wp2_with fail
  rw [show ((t : Int) - (r : Int)) = ((c : Nat) : Int) from by have := HC.out; omega]
  refine (repeat_any c w hcm).mono ?_
  rintro e w1 ⟨rfl, hb⟩
  go_wp2
  go_ret
  exact ⟨ret_string (pad_append s c), hb⟩

end Go.Proofs.YtpenicjlpiechaaDoor
