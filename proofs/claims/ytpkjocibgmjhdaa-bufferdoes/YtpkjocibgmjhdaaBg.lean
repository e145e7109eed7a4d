/- A buffer of which so many at most were dropped; what its functions answer. -/
import Derived.Test.YtpkjocibgmjhdaaLawC
namespace Go.Proofs.Ytpkjocibgmjhdaa
set_option maxRecDepth 10000
open Go Go.RowKit
set_option linter.unusedVariables false
set_option linter.unusedSimpArgs false
def bg (p : Nat) (each : Nat) (slots : Int) (k : Nat) (L : List Thg) : HP :=
  ex fun d : Int => [pu (0 ≤ d ∧ d ≤ ((k : Nat) : Int)), bf p each slots d L]
section
variable {w0 w : World} {R : List HP} {p x k : Nat} {y i : Int} {L : List Thg} {s : ByteArray} {f : FuncId} {args : Array Value} {v : Value}
theorem bg_mk {d : Int} (h : Ms w0 w (bf p x y d L :: R)) (h0 : 0 ≤ d) (h1 : d ≤ ((k : Nat) : Int)) : Ms w0 w (bg p x y k L :: R) := Ms.shut d (Ms.mkpu ⟨h0, h1⟩ h)
theorem bg_open (h : Ms w0 w (bg p x y k L :: R)) : ∃ d : Int, 0 ≤ d ∧ d ≤ ((k : Nat) : Int) ∧ Ms w0 w (bf p x y d L :: R) := by
  obtain ⟨d, h⟩ := h.opn
  obtain ⟨⟨h1, h2⟩, h3⟩ := h.unpu
  exact ⟨d, h1, h2, h3⟩
theorem bg_more {k' : Nat} (hk : k ≤ k') (h : Ms w0 w (bg p x y k L :: R)) : Ms w0 w (bg p x y k' L :: R) := by
  obtain ⟨d, h1, h2, h3⟩ := bg_open h
  exact bg_mk h3 h1 (by omega)
theorem bg_full (h : Ms w0 w (bg p x y k L :: R)) (i : Int) : (ofI i L).length ≤ x := by
  obtain ⟨d, _, _, h⟩ := bg_open h
  obtain ⟨m, E, hB, _⟩ := bf_open h
  exact hB.full i
theorem bg_low (h : Ms w0 w (bg p x y k L :: R)) : ∀ t ∈ L, 1 ≤ t.1 ∧ t.1 ≤ 9223372036854775807 := by
  obtain ⟨d, _, _, h⟩ := bg_open h
  obtain ⟨m, E, hB, _⟩ := bf_open h
  exact hB.low
theorem gput_0 (hM : Ms w0 w (bg p x y k L :: R)) (hx : 1 ≤ x) (hx2 : x ≤ 1000) (hi : i ≤ 9223372036854775807) (hk : k < 1000000) (hE : Shut (bpE x y i s L = 0)) :
    Calls Try.prog 14 #[.pointer (some ⟨p, 0, none⟩), .int .i64 i, .string s] w fun e' w' => e' = .returned (.int .i64 0) ∧ Ms w0 w' (bg p x y k (L ++ [(i, s)]) :: R) := by
  obtain ⟨d, h1, h2, hM⟩ := bg_open hM
  exact (put_0 hM hx hx2 hi h1 (by omega) hE).mono fun e w' ⟨h3, h4⟩ => ⟨h3, bg_mk h4 h1 h2⟩
theorem gput_n {e : Int} (hM : Ms w0 w (bg p x y k L :: R)) (hx : 1 ≤ x) (hx2 : x ≤ 1000) (hi : i ≤ 9223372036854775807) (hk : k < 1000000) (hE : Shut (bpE x y i s L = e)) (h0 : e ≠ 0) :
    Calls Try.prog 14 #[.pointer (some ⟨p, 0, none⟩), .int .i64 i, .string s] w fun e' w' => e' = .returned (.int .i64 e) ∧ Ms w0 w' (bg p x y (k + 1) L :: R) := by
  obtain ⟨d, h1, h2, hM⟩ := bg_open hM
  by_cases h4 : e = 4
  · subst h4
    exact (put_4 hM hx hx2 hi h1 (by omega) hE).mono fun e w' ⟨h5, h6⟩ => ⟨h5, bg_mk h6 (by omega) (by omega)⟩
  · exact (put_o hM hx hx2 hi h1 (by omega) hE h0 h4).mono fun e w' ⟨h5, h6⟩ => ⟨h5, bg_mk h6 h1 (by omega)⟩
theorem gtake (hM : Ms w0 w (bg p x y k L :: R)) (hL : L.length ≤ 10000) {ts : List ByteArray} {L' : List Thg} (hT : ofI i L = ts) (hN : notI i L = L') : Calls Try.prog 17 #[.pointer (some ⟨p, 0, none⟩), .int .i64 i] w fun e w' => ∃ v, e = .returned v ∧ Ms w0 w' (row 9 1 v ts.length (ts.map Value.string) :: bg p x y k L' :: R) := by
  obtain ⟨d, h1, h2, hM⟩ := bg_open hM
  exact (take_v hM hL hT hN).mono fun e w' ⟨v, h3, h4⟩ => ⟨v, h3, (bg_mk (h4.up 1 rfl) h1 h2).up 1 rfl⟩
theorem gdrop (hM : Ms w0 w (bg p x y k L :: R)) (hL : L.length ≤ 1000000) {n : Int} {L' : List Thg} (hN : ((bdN i L : Nat) : Int) = n) (h : notB i L = L') : Calls Try.prog 19 #[.pointer (some ⟨p, 0, none⟩), .int .i64 i] w fun e w' => e = .returned (.int .i64 n) ∧ Ms w0 w' (bg p x y k L' :: R) := by
  obtain ⟨d, h1, h2, hM⟩ := bg_open hM
  exact (drop_v hM hL hN h).mono fun e w' ⟨h3, h4⟩ => ⟨h3, bg_mk h4 h1 h2⟩
theorem gsize (hM : Ms w0 w (bg p x y k L :: R)) (hL : L.length ≤ 1000000) {n : Int} (h : ((L.length : Nat) : Int) = n) : Calls Try.prog 23 #[.pointer (some ⟨p, 0, none⟩)] w fun e w' => e = .returned (.int .i64 n) ∧ Ms w0 w' (bg p x y k L :: R) := by
  obtain ⟨d, h1, h2, hM⟩ := bg_open hM
  exact (size_v hM hL h).mono fun e w' ⟨h3, h4⟩ => ⟨h3, bg_mk h4 h1 h2⟩
theorem givals (hM : Ms w0 w (bg p x y k L :: R)) (hL : L.length ≤ 1000000) {l : List Int} (h : ivs L = l) : Calls Try.prog 21 #[.pointer (some ⟨p, 0, none⟩)] w fun e w' => ∃ v, e = .returned v ∧ Ms w0 w' (row 3 1 v l.length (l.map encZ) :: bg p x y k L :: R) := by
  obtain ⟨d, h1, h2, hM⟩ := bg_open hM
  exact (ivals_v hM hL h).mono fun e w' ⟨v, h3, h4⟩ => ⟨v, h3, (bg_mk (h4.up 1 rfl) h1 h2).up 1 rfl⟩
theorem gnew {w0 w : World} {R : List HP} (x : Nat) (y : Int) (hM : Ms w0 w R) (h1 : 1 ≤ x) (h2 : x ≤ 64) (h3 : 1 ≤ y) (h4 : y ≤ 64) : Calls Try.prog 11 #[.int .i64 ((x : Nat) : Int), .int .i64 y] w fun e w' => ∃ p, e = .returned (.tuple #[.pointer (some ⟨p, 0, none⟩), .int .i64 0]) ∧ Ms w0 w' (bg p x y 0 [] :: R) :=
  (new_any x y hM h1 h2 h3 h4).mono fun e w' ⟨p, h5, h6⟩ => ⟨p, h5, bg_mk h6 (Int.le_refl 0) (Int.le_refl 0)⟩
end
theorem ofI_all {i : Int} {L : List Thg} (h : ∀ t ∈ L, t.1 = i) : (ofI i L).length = L.length := by
  unfold ofI
  rw [List.length_map, List.filter_eq_self.2 (fun t ht => by simpa using h t ht)]
theorem notB_all {b : Int} {L : List Thg} (h : ∀ t ∈ L, ¬ t.1 < b) : notB b L = L := by
  unfold notB
  exact List.filter_eq_self.2 fun t ht => by simpa using h t ht
theorem bdN_none {b : Int} {L : List Thg} (h : ∀ t ∈ L, ¬ t.1 < b) : bdN b L = 0 := by unfold bdN; rw [notB_all h]; omega
theorem sub_length : ∀ {a b : List Int}, a.Nodup → (∀ z ∈ a, z ∈ b) → a.length ≤ b.length
  | [], b, _, _ => Nat.zero_le _
  | x :: a, b, hn, hs => by
    rw [List.nodup_cons] at hn
    have hx := hs x (by simp)
    have h1 := sub_length hn.2 (b := b.erase x) fun z hz => (List.mem_erase_of_ne (fun e => hn.1 (by rw [← e]; exact hz))).2 (hs z (List.mem_cons_of_mem _ hz))
    rw [List.length_erase_of_mem hx] at h1
    have := List.length_pos_of_mem hx
    rw [List.length_cons]; omega
/-- The buffer's intervals are among few: so many at most. -/
theorem ivs_few {L : List Thg} {l : List Int} (h : ∀ t ∈ L, t.1 ∈ l) : (ivs L).length ≤ l.length :=
  sub_length (nodup_rising (sorted_ivs L)) fun z hz => by
    obtain ⟨t, ht, rfl⟩ := mem_ivs.1 hz
    exact h t ht
end Go.Proofs.Ytpkjocibgmjhdaa
