/- What the library function Repeat of package strings answers in this program: so many copies of the text; nothing that was there is changed. Conditions: the count is at most 2^63 - 1, the copies together at most 2^47 bytes. What the program's octet.Pad answers; nothing that was there is changed. -/
import Derived.Shelf.Strings.Repeat
import Derived.Test.YtpenicjlpiechaaDoorProg
import Derived.Test.YtpenicjlpiechaaDoorRows
import Derived.WalkKit
import Derived.WalkSpells
import Derived.WalkLawsBesides
import Derived.Laws.IdiomStrings
import Derived.Test.YtpenicjlpiechaaDoorQBas
namespace Go.Proofs
open Go.Shelf
def Tryd.lays105_ren : Go.Shelf.Ren := ⟨fun | 105 => 95 | 212 => 97 | 99 => 98 | 165 => 99 | 166 => 100 | 170 => 101 | 169 => 102 | 263 => 103 | 264 => 80 | 206 => 104 | 240 => 105 | 241 => 106 | 276 => 107 | 277 => 108 | n => n, fun | 9 => 9 | 3 => 3 | 4 => 4 | 20 => 20 | 0 => 0 | 46 => 102 | 109 => 147 | 5 => 5 | 72 => 151 | 76 => 155 | 51 => 56 | 146 => 159 | 53 => 34 | 148 => 99 | 70 => 149 | 37 => 48 | 75 => 154 | 127 => 161 | 164 => 162 | 80 => 158 | n => n, fun | n => n⟩
theorem Tryd.lays105 : Go.Proofs.Lays.n105 Tryd.prog Tryd.lays105_ren := {
  mixed := by kernel_rfl
  f99 := Tryd.func98.trans (congrArg some (by kernel_rfl))
  f105 := Tryd.func95.trans (congrArg some (by kernel_rfl))
  f165 := Tryd.func99.trans (congrArg some (by kernel_rfl))
  f166 := Tryd.func100.trans (congrArg some (by kernel_rfl))
  f169 := Tryd.func102.trans (congrArg some (by kernel_rfl))
  f170 := Tryd.func101.trans (congrArg some (by kernel_rfl))
  f206 := Tryd.func104.trans (congrArg some (by kernel_rfl))
  f212 := Tryd.func97.trans (congrArg some (by kernel_rfl))
  f240 := Tryd.func105.trans (congrArg some (by kernel_rfl))
  f241 := Tryd.func106.trans (congrArg some (by kernel_rfl))
  f263 := Tryd.func103.trans (congrArg some (by kernel_rfl))
  f264 := Tryd.func80.trans (congrArg some (by kernel_rfl))
  f276 := Tryd.func107.trans (congrArg some (by kernel_rfl))
  f277 := Tryd.func108.trans (congrArg some (by kernel_rfl))
  t0 := Tryd.underlying0
  a0 := Tryd.isAgg0
  z0 := Tryd.sizeOf0
  v0 := Tryd.zeroValue0
  t3 := Tryd.underlying3
  a3 := Tryd.isAgg3
  z3 := Tryd.sizeOf3
  v3 := Tryd.zeroValue3
  t4 := Tryd.underlying4
  a4 := Tryd.isAgg4
  z4 := Tryd.sizeOf4
  v4 := Tryd.zeroValue4
  t5 := Tryd.underlying5
  a5 := Tryd.isAgg5
  z5 := Tryd.sizeOf5
  v5 := Tryd.zeroValue5
  t9 := Tryd.underlying9
  a9 := Tryd.isAgg9
  z9 := Tryd.sizeOf9
  v9 := Tryd.zeroValue9
  t20 := Tryd.underlying20
  a20 := Tryd.isAgg20
  z20 := Tryd.sizeOf20
  v20 := Tryd.zeroValue20
  t37 := Tryd.underlying48
  a37 := Tryd.isAgg48
  z37 := Tryd.sizeOf48
  v37 := Tryd.zeroValue48
  t46 := Tryd.underlying102
  a46 := Tryd.isAgg102
  z46 := Tryd.sizeOf102
  v46 := Tryd.zeroValue102
  t51 := Tryd.underlying56
  a51 := Tryd.isAgg56
  z51 := Tryd.sizeOf56
  v51 := Tryd.zeroValue56
  t53 := Tryd.underlying34
  a53 := Tryd.isAgg34
  z53 := Tryd.sizeOf34
  v53 := Tryd.zeroValue34
  t70 := Tryd.underlying149
  a70 := Tryd.isAgg149
  z70 := Tryd.sizeOf149
  v70 := Tryd.zeroValue149
  t72 := Tryd.underlying151
  a72 := Tryd.isAgg151
  z72 := Tryd.sizeOf151
  v72 := Tryd.zeroValue151
  t75 := Tryd.underlying154
  a75 := Tryd.isAgg154
  z75 := Tryd.sizeOf154
  v75 := Tryd.zeroValue154
  t76 := Tryd.underlying155
  a76 := Tryd.isAgg155
  z76 := Tryd.sizeOf155
  v76 := Tryd.zeroValue155
  t109 := Tryd.underlying147
  a109 := Tryd.isAgg147
  z109 := Tryd.sizeOf147
  v109 := Tryd.zeroValue147
  t127 := Tryd.underlying161
  a127 := Tryd.isAgg161
  z127 := Tryd.sizeOf161
  v127 := Tryd.zeroValue161
  t146 := Tryd.underlying159
  a146 := Tryd.isAgg159
  z146 := Tryd.sizeOf159
  v146 := Tryd.zeroValue159
  t148 := Tryd.underlying99
  a148 := Tryd.isAgg99
  z148 := Tryd.sizeOf99
  v148 := Tryd.zeroValue99
  t164 := Tryd.underlying162
  a164 := Tryd.isAgg162
  z164 := Tryd.sizeOf162
  v164 := Tryd.zeroValue162 }
theorem Tryd.Builder_Extra_105 : Builder.Extra Tryd.prog Tryd.lays105_ren := {
  sizeBuilder := by kernel_rfl
  liesBuilder := by kernel_rfl
  t5 := Tryd.underlying5
  a5 := Tryd.isAgg5
  z5 := Tryd.sizeOf5
  v5 := Tryd.zeroValue5
  infoByte := by kernel_rfl
  cellsByte := by kernel_rfl
  sizeByte := by kernel_rfl
  neB5 := by decide }
open Go.RowKit Go.Lib in
theorem Tryd.strings_Repeat (s : ByteArray) (c : Nat) (w : World) (hc : c ≤ 9223372036854775807) (hlen : s.size * c ≤ 140737488355328) :
    Calls Tryd.prog 95 #[.string s, .int .i64 c] w fun e w' => e = .returned (.string ⟨(Lib.repeatL s.data.toList c).toArray⟩) ∧ Below w.heap.size w w' := Any.strings_Repeat Tryd.lays105 Tryd.Builder_Extra_105 s c w hc hlen
end Go.Proofs
namespace Go.Proofs.YtpenicjlpiechaaDoor
set_option maxRecDepth 10000
open Go.RowKit
set_option linter.unusedVariables false
set_option maxHeartbeats 400000 in
theorem pad_full (s : ByteArray) (t : Nat) (w : World) (h : 1 ≤ t) (hs : s.size ≤ 1099511627776) (h0 : s.size % t = 0) :
    Calls Tryd.prog 91 #[.string s, .int .i64 t] w fun e w' => e = .returned (.string s) ∧ w' = w := by
  have h1 : ((s.size : Int) % (t : Int)) = 0 := by omega
  have hne : ((t : Int) == 0) = false := by simp; omega
  go_enter Tryd.func91, Tryd.ntmps91
  go_wp2
  go_ret
  exact ⟨rfl, rfl⟩
theorem ret_string {a b : ByteArray} (h : a = b) : Ending.returned (.string a) = .returned (.string b) := by rw [h]
theorem pad_append (s : ByteArray) (c : Nat) : s ++ (⟨Array.replicate c 0⟩ : ByteArray) = ⟨(s.data.toList ++ List.replicate c 0).toArray⟩ := by
  apply ByteArray.ext
  rw [ByteArray.data_append]
  apply Array.toList_inj.1
  simp
theorem repeat_zero (c : Nat) : Lib.repeatL [0] c = List.replicate c 0 := by
  induction c with
  | zero => rfl
  | succ c ih => rw [Lib.repeatL, ih, List.replicate_succ]; rfl
theorem repeat_any (c : Nat) (w : World) (h : c ≤ 1099511627776) :
    Calls Tryd.prog 95 #[.string ⟨#[0]⟩, .int .i64 c] w fun e w' => e = .returned (.string ⟨(List.replicate c 0).toArray⟩) ∧ Below w.heap.size w w' := by
  have h1 : (⟨#[0]⟩ : ByteArray).size = 1 := rfl
  have hB : (⟨#[0]⟩ : ByteArray).size * c ≤ 140737488355328 := by rw [h1]; omega
  have h := Tryd.strings_Repeat ⟨#[0]⟩ c w (by omega) hB
  have e : Lib.repeatL (⟨#[0]⟩ : ByteArray).data.toList c = List.replicate c 0 := repeat_zero c
  rw [e] at h
  exact h
set_option maxHeartbeats 400000 in
theorem pad_more (s : ByteArray) (t r c : Nat) (w : World) (hr : s.size % t = r) (h1 : 1 ≤ r) (h2 : 1 ≤ c) (hc : r + c = t) (ht : t ≤ 1099511627776) (hs : s.size ≤ 1099511627776) :
    Calls Tryd.prog 91 #[.string s, .int .i64 t] w fun e w' => e = .returned (.string ⟨(s.data.toList ++ List.replicate c 0).toArray⟩) ∧ Below w.heap.size w w' := by
  have hr' : ((s.size : Int) % (t : Int)) = r := by omega
  have hr0 : ((r : Int) == 0) = false := by simp; omega
  have hne : ((t : Int) == 0) = false := by simp; omega
  have ht1 : 1 ≤ t := by omega
  clear hr
  have HC : Hid (r + c = t) := hc
  have hcm : c ≤ 1099511627776 := by omega
  have hrt : r ≤ t := by omega
  clear hc
  go_enter Tryd.func91, Tryd.ntmps91
  go_wp2_with fail
  rw [show ((t : Int) - (r : Int)) = ((c : Nat) : Int) from by have := HC.out; omega]
  refine (repeat_any c w hcm).mono ?_
  rintro e w1 ⟨rfl, hb⟩
  go_wp2
  go_ret
  exact ⟨ret_string (pad_append s c), hb⟩

end Go.Proofs.YtpenicjlpiechaaDoor
