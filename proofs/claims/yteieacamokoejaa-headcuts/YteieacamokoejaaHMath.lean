/- Heads and packets as lists of bytes: what is laid, what is read, there and back. No program. Conditions: as each says. -/
import Derived.Test.YteieacamokoejaaMath
namespace Go.Proofs.Yteieacamokoejaa
open Go
set_option linter.unusedVariables false
def In64 (n : Int) : Prop := -9223372036854775808 ≤ n ∧ n < 9223372036854775808
def InU32 (n : Int) : Prop := 0 ≤ n ∧ n < 4294967296
def InU64 (n : Int) : Prop := 0 ≤ n ∧ n < 18446744073709551616
/-- A head. -/
structure Hd where
  le : Int
  ve : Int
  mo : Int
  st : Int
  po : Int
  pr : Int
  de : Int
  di : Int
  ident : Int
  re : Int
  og : Int
  rc : Int
  tr : Int
def hz : Hd := ⟨0, 0, 0, 0, 0, 0, 0, 0, 0, 0, 0, 0, 0⟩
structure InH (h : Hd) : Prop where
  le : In64 h.le
  ve : In64 h.ve
  mo : In64 h.mo
  st : In64 h.st
  po : In64 h.po
  pr : In64 h.pr
  de : InU32 h.de
  di : InU32 h.di
  ident : InU32 h.ident
  re : InU64 h.re
  og : InU64 h.og
  rc : InU64 h.rc
  tr : InU64 h.tr
abbrev Mays (h : Hd) : Prop := h.ve = 4 ∧ (0 ≤ h.le ∧ h.le ≤ 3) ∧ (0 ≤ h.mo ∧ h.mo ≤ 7) ∧ (0 ≤ h.st ∧ h.st ≤ 255) ∧ (-128 ≤ h.po ∧ h.po ≤ 127) ∧ (-128 ≤ h.pr ∧ h.pr ≤ 127)
def may (h : Hd) : Bool := decide (Mays h)
/-- A number's lowest byte. -/
def ib (n : Int) : UInt8 := UInt8.ofNat (n % 256).toNat
/-- A byte as a number from -128 on. -/
def sg (c : UInt8) : Int := if 127 < c.toNat then (c.toNat : Int) - 256 else (c.toNat : Int)
theorem ib_nat (n : Int) : ((ib n).toNat : Int) = n % 256 := by
  unfold ib
  rw [UInt8.toNat_ofNat', Nat.mod_eq_of_lt (by omega)]
  omega
theorem ib_of (c : UInt8) (n : Int) (h : n % 256 = c.toNat) : ib n = c := by
  apply UInt8.toNat_inj.1
  have := ib_nat n
  omega
theorem sg_ib (n : Int) (h0 : -128 ≤ n) (h1 : n ≤ 127) : sg (ib n) = n := by
  have h := ib_nat n
  unfold sg
  split <;> omega
theorem ib_sg (c : UInt8) : ib (sg c) = c := by
  have := c.toNat_lt
  apply ib_of
  unfold sg
  split <;> omega
/-- The 48 bytes. -/
def hb (h : Hd) : List UInt8 :=
  ib (64 * h.le + 8 * h.ve + h.mo) :: ib h.st :: ib h.po :: ib h.pr :: (putL h.de.toNat 4 ++ (putL h.di.toNat 4 ++ (putL h.ident.toNat 4 ++ (putL h.re.toNat 8 ++ (putL h.og.toNat 8 ++ (putL h.rc.toNat 8 ++ putL h.tr.toNat 8))))))
/-- The number of some bytes. -/
def nm (l : List UInt8) (i n : Nat) : Nat := num ((l.drop i).take n)
/-- The head that bytes are. -/
def dec (l : List UInt8) : Hd :=
  ⟨((l.getD 0 0).toNat / 64 : Nat), ((l.getD 0 0).toNat / 8 % 8 : Nat), ((l.getD 0 0).toNat % 8 : Nat), (l.getD 1 0).toNat, sg (l.getD 2 0), sg (l.getD 3 0),
    nm l 4 4, nm l 8 4, nm l 12 4, nm l 16 8, nm l 24 8, nm l 32 8, nm l 40 8⟩
theorem hb_length (h : Hd) : (hb h).length = 48 := by simp [hb, putL_length]
theorem nm_lt (l : List UInt8) (i n : Nat) : nm l i n < 256 ^ n := by
  have h1 := num_lt ((l.drop i).take n)
  have h2 : ((l.drop i).take n).length ≤ n := List.length_take_le _ _
  exact Nat.lt_of_lt_of_le h1 (Nat.pow_le_pow_right (by decide) h2)
theorem dec_in (l : List UInt8) : InH (dec l) := by
  have h0 := (l.getD 0 0).toNat_lt
  have h1 := (l.getD 1 0).toNat_lt
  have h2 := (l.getD 2 0).toNat_lt
  have h3 := (l.getD 3 0).toNat_lt
  have a := nm_lt l 4 4
  have b := nm_lt l 8 4
  have c := nm_lt l 12 4
  have d := nm_lt l 16 8
  have e := nm_lt l 24 8
  have f := nm_lt l 32 8
  have g := nm_lt l 40 8
  constructor <;> simp only [dec, In64, InU32, InU64, sg] <;> first | omega | (split <;> omega)
theorem may_dec (l : List UInt8) : may (dec l) = decide ((dec l).ve = 4) := by
  have h0 := (l.getD 0 0).toNat_lt
  have h1 := (l.getD 1 0).toNat_lt
  have h2 := (l.getD 2 0).toNat_lt
  have h3 := (l.getD 3 0).toNat_lt
  have e2 : -128 ≤ sg (l.getD 2 0) ∧ sg (l.getD 2 0) ≤ 127 := by unfold sg; split <;> omega
  have e3 : -128 ≤ sg (l.getD 3 0) ∧ sg (l.getD 3 0) ≤ 127 := by unfold sg; split <;> omega
  unfold may
  by_cases h : (dec l).ve = 4
  · rw [decide_eq_true h, decide_eq_true]
    refine ⟨h, ?_, ?_, ?_, e2, e3⟩ <;> simp only [dec] <;> omega
  · rw [decide_eq_false h, decide_eq_false]
    exact fun hm => h hm.1
theorem nm_at (A B C : List UInt8) (i n : Nat) (hi : A.length = i) (hn : B.length = n) : nm (A ++ (B ++ C)) i n = num B := by
  subst hi; subst hn
  simp [nm]
theorem dec_hb (h : Hd) (hm : Mays h) (hi : InH h) : dec (hb h) = h := by
  obtain ⟨le, ve, mo, st, po, pr, de, di, ident, re, og, rc, tr⟩ := h
  obtain ⟨m1, m2, m3, m4, m5, m6⟩ := hm
  obtain ⟨i1, i2, i3, i4, i5, i6, i7, i8, i9, i10, i11, i12, i13⟩ := hi
  simp only [In64, InU32, InU64] at *
  have e0 := ib_nat (64 * le + 8 * ve + mo)
  have e1 := ib_nat st
  have k : ∀ (x : Int) (n : Nat) (b : Int), 0 ≤ x → x < (b : Int) → b = ((256 ^ n : Nat) : Int) → ((num (putL x.toNat n) : Nat) : Int) = x := by
    intro x n b h0 h1 h2
    rw [num_putL, Nat.mod_eq_of_lt (by omega)]; omega
  have n1 := nm_at [ib (64 * le + 8 * ve + mo), ib st, ib po, ib pr] (putL de.toNat 4) (putL di.toNat 4 ++ (putL ident.toNat 4 ++ (putL re.toNat 8 ++ (putL og.toNat 8 ++ (putL rc.toNat 8 ++ putL tr.toNat 8))))) 4 4 rfl (putL_length _ _)
  have n2 := nm_at ([ib (64 * le + 8 * ve + mo), ib st, ib po, ib pr] ++ putL de.toNat 4) (putL di.toNat 4) (putL ident.toNat 4 ++ (putL re.toNat 8 ++ (putL og.toNat 8 ++ (putL rc.toNat 8 ++ putL tr.toNat 8)))) 8 4 (by simp [putL_length]) (putL_length _ _)
  have n3 := nm_at ([ib (64 * le + 8 * ve + mo), ib st, ib po, ib pr] ++ putL de.toNat 4 ++ putL di.toNat 4) (putL ident.toNat 4) (putL re.toNat 8 ++ (putL og.toNat 8 ++ (putL rc.toNat 8 ++ putL tr.toNat 8))) 12 4 (by simp [putL_length]) (putL_length _ _)
  have n4 := nm_at ([ib (64 * le + 8 * ve + mo), ib st, ib po, ib pr] ++ putL de.toNat 4 ++ putL di.toNat 4 ++ putL ident.toNat 4) (putL re.toNat 8) (putL og.toNat 8 ++ (putL rc.toNat 8 ++ putL tr.toNat 8)) 16 8 (by simp [putL_length]) (putL_length _ _)
  have n5 := nm_at ([ib (64 * le + 8 * ve + mo), ib st, ib po, ib pr] ++ putL de.toNat 4 ++ putL di.toNat 4 ++ putL ident.toNat 4 ++ putL re.toNat 8) (putL og.toNat 8) (putL rc.toNat 8 ++ putL tr.toNat 8) 24 8 (by simp [putL_length]) (putL_length _ _)
  have n6 := nm_at ([ib (64 * le + 8 * ve + mo), ib st, ib po, ib pr] ++ putL de.toNat 4 ++ putL di.toNat 4 ++ putL ident.toNat 4 ++ putL re.toNat 8 ++ putL og.toNat 8) (putL rc.toNat 8) (putL tr.toNat 8) 32 8 (by simp [putL_length]) (putL_length _ _)
  have n7 := nm_at ([ib (64 * le + 8 * ve + mo), ib st, ib po, ib pr] ++ putL de.toNat 4 ++ putL di.toNat 4 ++ putL ident.toNat 4 ++ putL re.toNat 8 ++ putL og.toNat 8 ++ putL rc.toNat 8) (putL tr.toNat 8) [] 40 8 (by simp [putL_length]) (putL_length _ _)
  simp only [List.cons_append, List.nil_append, List.append_assoc, List.append_nil] at n1 n2 n3 n4 n5 n6 n7
  simp only [dec, hb, Hd.mk.injEq, List.getD_cons_zero, List.getD_cons_succ]
  rw [n1, n2, n3, n4, n5, n6, n7]
  refine ⟨by omega, by omega, by omega, by omega, sg_ib po m5.1 m5.2, sg_ib pr m6.1 m6.2, k de 4 _ i7.1 i7.2 (by decide), k di 4 _ i8.1 i8.2 (by decide), k ident 4 _ i9.1 i9.2 (by decide), k re 8 _ i10.1 i10.2 (by decide), k og 8 _ i11.1 i11.2 (by decide), k rc 8 _ i12.1 i12.2 (by decide), k tr 8 _ i13.1 i13.2 (by decide)⟩
theorem put_nm (l : List UInt8) (i n : Nat) (h : i + n ≤ l.length) : putL ((nm l i n : Nat) : Int).toNat n = (l.drop i).take n := by
  have e := putL_num ((l.drop i).take n)
  rw [List.length_take, List.length_drop, Nat.min_eq_left (by omega)] at e
  exact e
theorem take_drop (l : List UInt8) (i n : Nat) : (l.drop i).take n ++ l.drop (i + n) = l.drop i := by
  rw [← List.drop_drop]; exact List.take_append_drop n _
theorem hb_dec (l : List UInt8) (hl : l.length = 48) : hb (dec l) = l := by
  have h0 := (l.getD 0 0).toNat_lt
  have h1 := (l.getD 1 0).toNat_lt
  simp only [hb, dec]
  rw [put_nm l 4 4 (by omega), put_nm l 8 4 (by omega), put_nm l 12 4 (by omega), put_nm l 16 8 (by omega), put_nm l 24 8 (by omega), put_nm l 32 8 (by omega), put_nm l 40 8 (by omega)]
  rw [show (l.drop 40).take 8 = l.drop 40 from List.take_of_length_le (by rw [List.length_drop]; omega)]
  rw [take_drop l 32 8, take_drop l 24 8, take_drop l 16 8, take_drop l 12 4, take_drop l 8 4, take_drop l 4 4]
  rw [ib_of (l.getD 0 0) _ (by omega), ib_of (l.getD 1 0) _ (by omega), ib_sg, ib_sg]
  match l, hl with
  | a :: b :: c :: d :: r, _ => rfl

/-! ### Extensions -/
def pad4 (l : List UInt8) : List UInt8 := l ++ List.replicate ((4 - l.length % 4) % 4) 0
/-- An extension's bytes. -/
def fb (f : Int × ByteArray) : List UInt8 := pad4 (putL f.1.toNat 2 ++ (putL (4 + f.2.size) 2 ++ f.2.data.toList))
abbrev FMays (f : Int × ByteArray) : Prop := (1 ≤ f.1 ∧ f.1 ≤ 65535) ∧ f.2.size ≤ 1000
def fmay (f : Int × ByteArray) : Bool := decide (FMays f)
/-- What is laid: the bytes, and the error. -/
def pt (h : Hd) : ByteArray × Int := if may h then (⟨(hb h).toArray⟩, 0) else (ByteArray.empty, 2)
def wb (h : Hd) (l : List (Int × ByteArray)) : List UInt8 := hb h ++ l.flatMap fb
def wr (h : Hd) (l : List (Int × ByteArray)) : ByteArray × Int :=
  if may h then (if l.all fmay then (if 16 < l.length then (ByteArray.empty, 4) else (⟨(wb h l).toArray⟩, 0)) else (ByteArray.empty, 2)) else (ByteArray.empty, 2)
def tk (s : ByteArray) : Hd × Int := if s.size = 48 then (if (dec s.data.toList).ve = 4 then (dec s.data.toList, 0) else (hz, 2)) else (hz, 5)
/-- The extension with which bytes begin, as it seems. -/
def seem (s : List UInt8) : Int × ByteArray := ((nm s 0 2 : Nat), ⟨((s.drop 4).take (nm s 2 2 - 4)).toArray⟩)
/-- Is there one? -/
abbrev Cuts (s : List UInt8) : Prop := 4 ≤ s.length ∧ (4 ≤ nm s 2 2 ∧ nm s 2 2 ≤ s.length) ∧ FMays (seem s) ∧ fb (seem s) <+: s
def glue (f : List (Int × ByteArray)) (p : List (Int × ByteArray) × Int) : List (Int × ByteArray) × Int := if p.2 = 0 then (f ++ p.1, 0) else ([], p.2)
/-- Extensions that bytes are, n at most. -/
def fl : Nat → List UInt8 → List (Int × ByteArray) × Int
  | 0, s => if s = [] then ([], 0) else ([], 4)
  | n + 1, s => if s = [] then ([], 0) else if Cuts s then glue [seem s] (fl n (s.drop (fb (seem s)).length)) else ([], 2)
def rdp (s : ByteArray) : Hd × List (Int × ByteArray) × Int :=
  if s.size < 48 then (hz, [], 5) else
  if (dec (s.data.toList.take 48)).ve = 4 then (if (fl 16 (s.data.toList.drop 48)).2 = 0 then (dec (s.data.toList.take 48), (fl 16 (s.data.toList.drop 48)).1, 0) else (hz, [], (fl 16 (s.data.toList.drop 48)).2)) else (hz, [], 2)
theorem glue_glue (a b : List (Int × ByteArray)) (p : List (Int × ByteArray) × Int) : glue a (glue b p) = glue (a ++ b) p := by
  unfold glue
  by_cases h : p.2 = 0
  · simp [h]
  · simp [h]
theorem glue_nil (p : List (Int × ByteArray) × Int) (h : p.2 ≠ 0 → p.1 = []) : glue [] p = p := by
  obtain ⟨a, b⟩ := p
  unfold glue
  by_cases hb : b = 0
  · simp [hb]
  · have h2 : a = [] := h hb
    simp [hb, h2]
theorem fl_err (n : Nat) (s : List UInt8) (h : (fl n s).2 ≠ 0) : (fl n s).1 = [] := by
  cases n with
  | zero => unfold fl at *; split <;> rfl
  | succ n =>
    unfold fl at *
    split
    · rfl
    · split
      · rename_i h1 h2
        rw [if_neg h1, if_pos h2] at h
        unfold glue at *
        split
        · rename_i h3
          rw [if_pos h3] at h
          exact absurd rfl h
        · rfl
      · rfl
theorem pad4_len (l : List UInt8) : (pad4 l).length % 4 = 0 := by
  simp only [pad4, List.length_append, List.length_replicate]
  omega
theorem fb_len (f : Int × ByteArray) : (fb f).length % 4 = 0 := pad4_len _
theorem fb_ge (f : Int × ByteArray) : 4 + f.2.size ≤ (fb f).length := by
  simp only [fb, pad4, List.length_append, putL_length]
  have : f.2.data.toList.length = f.2.size := by simp
  omega
theorem fb_le (f : Int × ByteArray) : (fb f).length ≤ 7 + f.2.size := by
  simp only [fb, pad4, List.length_append, putL_length, List.length_replicate]
  have : f.2.data.toList.length = f.2.size := by simp
  omega
theorem nm_app (s r : List UInt8) (i n : Nat) (h : i + n ≤ s.length) : nm (s ++ r) i n = nm s i n := by
  unfold nm
  rw [List.drop_append_of_le_length (by omega), List.take_append_of_le_length (by rw [List.length_drop]; omega)]
theorem fb_shape (f : Int × ByteArray) : ∃ z, fb f = putL f.1.toNat 2 ++ (putL (4 + f.2.size) 2 ++ (f.2.data.toList ++ z)) := by
  refine ⟨List.replicate ((4 - (putL f.1.toNat 2 ++ (putL (4 + f.2.size) 2 ++ f.2.data.toList)).length % 4) % 4) 0, ?_⟩
  simp [fb, pad4]
theorem nm_fb (f : Int × ByteArray) (hf : FMays f) (r : List UInt8) : ((nm (fb f ++ r) 0 2 : Nat) : Int) = f.1 ∧ nm (fb f ++ r) 2 2 = 4 + f.2.size ∧ ((fb f ++ r).drop 4).take f.2.size = f.2.data.toList := by
  obtain ⟨z, hz⟩ := fb_shape f
  obtain ⟨⟨h1, h2⟩, h3⟩ := hf
  have hs : f.2.data.toList.length = f.2.size := by simp
  have a := nm_at [] (putL f.1.toNat 2) (putL (4 + f.2.size) 2 ++ (f.2.data.toList ++ (z ++ r))) 0 2 rfl (putL_length _ _)
  have b := nm_at (putL f.1.toNat 2) (putL (4 + f.2.size) 2) (f.2.data.toList ++ (z ++ r)) 2 2 (putL_length _ _) (putL_length _ _)
  rw [hz]
  simp only [List.nil_append, List.append_assoc] at a b ⊢
  rw [a, b, num_putL, num_putL]
  refine ⟨by omega, by omega, ?_⟩
  rw [← List.append_assoc, List.drop_left' (by simp [putL_length]), ← hs, List.take_left]
theorem seem_fb (f : Int × ByteArray) (hf : FMays f) (r : List UInt8) : seem (fb f ++ r) = f := by
  obtain ⟨a, b, c⟩ := nm_fb f hf r
  unfold seem
  rw [a, b, show 4 + f.2.size - 4 = f.2.size by omega, c]
theorem cuts_fb (f : Int × ByteArray) (hf : FMays f) (r : List UInt8) : Cuts (fb f ++ r) := by
  obtain ⟨a, b, c⟩ := nm_fb f hf r
  have h := fb_ge f
  unfold Cuts
  rw [seem_fb f hf r, b, List.length_append]
  exact ⟨by omega, ⟨by omega, by omega⟩, hf, List.prefix_append _ _⟩
theorem fb_ne (f : Int × ByteArray) (r : List UInt8) : fb f ++ r ≠ [] := by
  have h := fb_ge f
  intro e
  have := congrArg List.length e
  simp at this
  rw [this.1] at h
  simp at h
theorem fl_fb (n : Nat) (f : Int × ByteArray) (hf : FMays f) (r : List UInt8) : fl (n + 1) (fb f ++ r) = glue [f] (fl n r) := by
  rw [fl, if_neg (fb_ne f r), if_pos (cuts_fb f hf r), seem_fb f hf r, List.drop_left]
theorem fl_none (n : Nat) : fl n [] = ([], 0) := by cases n <;> simp [fl]
/-- There and back. -/
theorem fl_wb : ∀ (l : List (Int × ByteArray)) (n : Nat), (∀ f ∈ l, FMays f) → l.length ≤ n → fl n (l.flatMap fb) = (l, 0)
  | [], n, _, _ => fl_none n
  | f :: l, 0, _, h => by simp at h
  | f :: l, n + 1, hf, h => by
    rw [List.flatMap_cons, fl_fb n f (hf f (by simp)), fl_wb l n (fun g hg => hf g (by simp [hg])) (by simpa using h)]
    simp [glue]
theorem fl_back : ∀ (n : Nat) (s : List UInt8) (l : List (Int × ByteArray)), fl n s = (l, 0) → l.flatMap fb = s ∧ (∀ f ∈ l, FMays f) ∧ l.length ≤ n
  | 0, s, l, h => by
    unfold fl at h
    split at h
    · rename_i e
      cases h; subst e
      exact ⟨rfl, fun f hf => by simp at hf, Nat.le_refl _⟩
    · cases h
  | n + 1, s, l, h => by
    unfold fl at h
    split at h
    · rename_i e
      cases h; subst e
      exact ⟨rfl, fun f hf => by simp at hf, Nat.zero_le _⟩
    · split at h
      · rename_i hc
        obtain ⟨_, _, hf, t, ht⟩ := hc
        unfold glue at h
        split at h
        · rename_i h2
          have h3 : fl n (s.drop (fb (seem s)).length) = ((fl n (s.drop (fb (seem s)).length)).1, 0) := by rw [← h2]
          obtain ⟨a, b, c⟩ := fl_back n _ _ h3
          simp only [Prod.mk.injEq, and_true] at h
          subst h
          refine ⟨?_, ?_, ?_⟩
          · rw [List.flatMap_append, List.flatMap_cons, List.flatMap_nil, List.append_nil, a]
            conv => rhs; rw [← ht]
            rw [List.append_cancel_left_eq]
            conv => lhs; rw [← ht]
            rw [List.drop_left' (by rw [ht])]
          · intro f hfm
            rcases List.mem_append.1 hfm with hfm | hfm
            · rw [List.mem_singleton.1 hfm]; exact hf
            · exact b f hfm
          · simp; omega
        · rename_i h2
          simp only [Prod.mk.injEq] at h
          exact absurd h.2 h2
      · cases h
/-- Of two that are laid one behind the other, what begins as the other does are its first extensions. -/
theorem fb_prefix : ∀ (m l : List (Int × ByteArray)) (x : List UInt8), (∀ f ∈ m, FMays f) → (∀ f ∈ l, FMays f) → m.flatMap fb ++ x = l.flatMap fb → m = l.take m.length ∧ m.length ≤ l.length
  | [], l, x, _, _, _ => by simp
  | f :: m, [], x, hm, _, h => by
    rw [List.flatMap_cons, List.append_assoc] at h
    exact absurd h (fb_ne f _)
  | f :: m, g :: l, x, hm, hl, h => by
    rw [List.flatMap_cons, List.flatMap_cons, List.append_assoc] at h
    have e1 := seem_fb f (hm f (by simp)) (m.flatMap fb ++ x)
    have e2 := seem_fb g (hl g (by simp)) (l.flatMap fb)
    rw [h, e2] at e1
    subst e1
    have h2 := List.append_cancel_left h
    obtain ⟨a, b⟩ := fb_prefix m l x (fun f hf => hm f (by simp [hf])) (fun f hf => hl f (by simp [hf])) h2
    refine ⟨?_, by simp; omega⟩
    rw [List.length_cons, List.take_succ_cons, ← a]
theorem all_fmay (l : List (Int × ByteArray)) : l.all fmay = true ↔ ∀ f ∈ l, FMays f := by
  rw [List.all_eq_true]
  constructor
  · intro h f hf; exact of_decide_eq_true (h f hf)
  · intro h f hf; exact decide_eq_true (h f hf)
end Go.Proofs.Yteieacamokoejaa
