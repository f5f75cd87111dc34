/-
  Plain mathematics of addresses and their texts: hexadecimal digits there and back, the text of six bytes, the address of seventeen; no condition.
-/
import Derived.Test.YthknggabioadhaaRows
namespace Go.Proofs.Ythknggabioadhaa

/-- the letter of a digit -/
def hexN (v : Nat) : Nat := if v < 10 then 48 + v else 87 + v
/-- the digit of a letter, or -1 -/
def hexV (c : Nat) : Int := if 48 ≤ c ∧ c ≤ 57 then (c : Int) - 48 else if 97 ≤ c ∧ c ≤ 102 then (c : Int) - 87 else -1
theorem hexN_lt (v : Nat) (h : v < 16) : hexN v < 128 := by unfold hexN; split <;> omega
theorem hexV_hexN (v : Nat) (h : v < 16) : hexV (hexN v) = v := by unfold hexV hexN; repeat' split <;> omega
theorem hexV_range (c : Nat) : -1 ≤ hexV c ∧ hexV c < 16 := by unfold hexV; repeat' split <;> omega
theorem hexN_hexV (c v : Nat) (h : hexV c = v) : c = hexN v := by unfold hexV at h; unfold hexN; split at h <;> (try split at h) <;> split <;> omega
theorem hexV_ne (c k : Nat) (h : c ≠ hexN k) : hexV c ≠ k := fun e => h (hexN_hexV c k e)

def hexD (v : Nat) : UInt8 := UInt8.ofNat (hexN v)
theorem hexD_nat (v : Nat) (h : v < 16) : (hexD v).toNat = hexN v := by
  have := hexN_lt v h
  unfold hexD
  rw [UInt8.toNat_ofNat']
  omega

/-- a byte of a string -/
def bt (s : ByteArray) (i : Nat) : UInt8 := s.data.toList.getD i 0
theorem bt_in (s : ByteArray) (i : Nat) (h : i < s.size) : bt s i = s[i] := by
  have hl : i < s.data.toList.length := h
  unfold bt
  rw [List.getD_eq_getElem?_getD, List.getElem?_eq_getElem hl]
  rfl
theorem bt_lt (s : ByteArray) (i : Nat) : (bt s i).toNat < 256 := UInt8.toNat_lt _

/-- the text of the first k bytes -/
def txt (f : Nat → UInt8) : Nat → List UInt8
  | 0 => []
  | k + 1 => txt f k ++ (if 0 < k then [58] else []) ++ [hexD ((f k).toNat / 16), hexD ((f k).toNat % 16)]
theorem txt_length (f : Nat → UInt8) (k : Nat) : (txt f k).length = 3 * k - 1 := by
  induction k with
  | zero => rfl
  | succ k ih =>
    simp only [txt, List.length_append, ih]
    by_cases h : 0 < k
    · rw [if_pos h]; simp; omega
    · rw [if_neg h]; simp; omega
def six (f : Nat → UInt8) : List UInt8 := [f 0, f 1, f 2, f 3, f 4, f 5]
theorem size6 (a : ByteArray) (h : a.size = 6) : a.data.toList = six (bt a) := by
  have hl : a.data.toList.length = 6 := h
  unfold six bt
  match e : a.data.toList, hl with
  | [_, _, _, _, _, _], _ => rfl
theorem of_list (a : ByteArray) (l : List UInt8) (h : a.data.toList = l) : a = ⟨l.toArray⟩ := by
  subst h; rfl
theorem size17 (a : ByteArray) (h : a.size = 17) : a.data.toList = [bt a 0, bt a 1, bt a 2, bt a 3, bt a 4, bt a 5, bt a 6, bt a 7, bt a 8, bt a 9, bt a 10, bt a 11, bt a 12, bt a 13, bt a 14, bt a 15, bt a 16] := by
  have hl : a.data.toList.length = 17 := h
  unfold bt
  match e : a.data.toList, hl with
  | [_, _, _, _, _, _, _, _, _, _, _, _, _, _, _, _, _], _ => rfl
theorem txt6 (f : Nat → UInt8) : txt f 6 = [hexD ((f 0).toNat / 16), hexD ((f 0).toNat % 16), 58, hexD ((f 1).toNat / 16), hexD ((f 1).toNat % 16), 58, hexD ((f 2).toNat / 16), hexD ((f 2).toNat % 16), 58,
    hexD ((f 3).toNat / 16), hexD ((f 3).toNat % 16), 58, hexD ((f 4).toNat / 16), hexD ((f 4).toNat % 16), 58, hexD ((f 5).toNat / 16), hexD ((f 5).toNat % 16)] := by
  simp [txt]

/-- the byte that two digits make; others count 0 -/
def macB (s : ByteArray) (i : Nat) : UInt8 := UInt8.ofNat (16 * (hexV (bt s (3 * i)).toNat).toNat + (hexV (bt s (3 * i + 1)).toNat).toNat)
/-- whether there are two digits at 3i, and what follows them -/
def good1 (s : ByteArray) (i : Nat) : Bool := decide (0 ≤ hexV (bt s (3 * i)).toNat) && decide (0 ≤ hexV (bt s (3 * i + 1)).toNat) && (decide (i = 5) || decide (bt s (3 * i + 2) = 58))
def goodB (s : ByteArray) : Nat → Bool
  | 0 => true
  | k + 1 => goodB s k && good1 s k
theorem goodB_not (s : ByteArray) (k n : Nat) (h : good1 s k = false) (hk : k < n) : goodB s n = false := by
  induction n with
  | zero => omega
  | succ n ih =>
    simp only [goodB]
    by_cases e : k = n
    · subst e; rw [h]; simp
    · rw [ih (by omega)]; rfl
theorem hexD_digit (c : UInt8) (v : Nat) (h : hexD v = c) (hv : v < 16) : hexV c.toNat = v := by
  rw [← h, hexD_nat v hv, hexV_hexN v hv]
theorem digit_hexD (c : UInt8) (v : Nat) (h : hexV c.toNat = v) : hexD v = c := by
  have := hexN_hexV _ _ h
  unfold hexD
  rw [← this]
  simp
theorem byte_of (x : UInt8) (hi lo : UInt8) (h1 : hexD (x.toNat / 16) = hi) (h2 : hexD (x.toNat % 16) = lo) :
    0 ≤ hexV hi.toNat ∧ 0 ≤ hexV lo.toNat ∧ UInt8.ofNat (16 * (hexV hi.toNat).toNat + (hexV lo.toNat).toNat) = x := by
  have hx := UInt8.toNat_lt x
  have e1 := hexD_digit hi _ h1 (by omega)
  have e2 := hexD_digit lo _ h2 (by omega)
  rw [e1, e2]
  refine ⟨by omega, by omega, ?_⟩
  have e : 16 * ((x.toNat / 16 : Nat) : Int).toNat + ((x.toNat % 16 : Nat) : Int).toNat = x.toNat := by omega
  rw [e]
  simp
theorem byte_to (hi lo : UInt8) (h1 : 0 ≤ hexV hi.toNat) (h2 : 0 ≤ hexV lo.toNat) :
    hexD ((UInt8.ofNat (16 * (hexV hi.toNat).toNat + (hexV lo.toNat).toNat)).toNat / 16) = hi ∧ hexD ((UInt8.ofNat (16 * (hexV hi.toNat).toNat + (hexV lo.toNat).toNat)).toNat % 16) = lo := by
  have r1 := hexV_range hi.toNat
  have r2 := hexV_range lo.toNat
  rw [UInt8.toNat_ofNat']
  constructor
  · exact digit_hexD _ _ (by omega)
  · exact digit_hexD _ _ (by omega)
/-- a good text is that of its address -/
theorem txt_of (s : ByteArray) (h : s.size = 17) (hg : goodB s 6 = true) : txt (macB s) 6 = s.data.toList := by
  rw [size17 s h, txt6]
  simp only [goodB, good1, Bool.true_and, Bool.and_eq_true, Bool.or_eq_true, decide_eq_true_eq] at hg
  obtain ⟨⟨⟨⟨⟨⟨⟨a0, b0⟩, c0⟩, ⟨a1, b1⟩, c1⟩, ⟨a2, b2⟩, c2⟩, ⟨a3, b3⟩, c3⟩, ⟨a4, b4⟩, c4⟩, ⟨a5, b5⟩, c5⟩ := hg
  have c0 : bt s (3 * 0 + 2) = 58 := by simpa using c0
  have c1 : bt s (3 * 1 + 2) = 58 := by simpa using c1
  have c2 : bt s (3 * 2 + 2) = 58 := by simpa using c2
  have c3 : bt s (3 * 3 + 2) = 58 := by simpa using c3
  have c4 : bt s (3 * 4 + 2) = 58 := by simpa using c4
  have e0 := byte_to _ _ a0 b0
  have e1 := byte_to _ _ a1 b1
  have e2 := byte_to _ _ a2 b2
  have e3 := byte_to _ _ a3 b3
  have e4 := byte_to _ _ a4 b4
  have e5 := byte_to _ _ a5 b5
  simp only [macB, e0.1, e0.2, e1.1, e1.2, e2.1, e2.2, e3.1, e3.2, e4.1, e4.2, e5.1, e5.2, ← c0]
  simp only [c0, c1, c2, c3, c4]
/-- a text of six bytes is good, and tells them -/
theorem of_txt (s : ByteArray) (f : Nat → UInt8) (h : txt f 6 = s.data.toList) : s.size = 17 ∧ goodB s 6 = true ∧ six (macB s) = six f := by
  have hz : s.size = 17 := by
    have := txt_length f 6
    rw [h] at this
    exact this
  rw [txt6, size17 s hz] at h
  simp only [List.cons.injEq, and_true] at h
  obtain ⟨h0, h1, h2, h3, h4, h5, h6, h7, h8, h9, h10, h11, h12, h13, h14, h15, h16⟩ := h
  obtain ⟨a0, b0, c0⟩ := byte_of _ _ _ h0 h1
  obtain ⟨a1, b1, c1⟩ := byte_of _ _ _ h3 h4
  obtain ⟨a2, b2, c2⟩ := byte_of _ _ _ h6 h7
  obtain ⟨a3, b3, c3⟩ := byte_of _ _ _ h9 h10
  obtain ⟨a4, b4, c4⟩ := byte_of _ _ _ h12 h13
  obtain ⟨a5, b5, c5⟩ := byte_of _ _ _ h15 h16
  refine ⟨hz, ?_, ?_⟩
  · simp only [goodB, good1, Bool.true_and, Bool.and_eq_true, Bool.or_eq_true, decide_eq_true_eq]
    exact ⟨⟨⟨⟨⟨⟨⟨a0, b0⟩, .inr h2.symm⟩, ⟨a1, b1⟩, .inr h5.symm⟩, ⟨a2, b2⟩, .inr h8.symm⟩, ⟨a3, b3⟩, .inr h11.symm⟩, ⟨a4, b4⟩, .inr h14.symm⟩, ⟨a5, b5⟩, .inl trivial⟩
  · simp only [six, macB]
    rw [c0, c1, c2, c3, c4, c5]

/-! What the calls answer. -/
def printS (a : ByteArray) : ByteArray := if a.size = 6 then ⟨(txt (bt a) 6).toArray⟩ else ⟨#[]⟩
def printE (a : ByteArray) : Int := if a.size = 6 then 0 else 1
def parseS (s : ByteArray) : ByteArray := if s.size = 17 ∧ goodB s 6 = true then ⟨(six (macB s)).toArray⟩ else ⟨#[]⟩
def parseE (s : ByteArray) : Int := if s.size = 17 ∧ goodB s 6 = true then 0 else 50
def kindV (a : ByteArray) : Int := if a.size ≠ 6 then 0 else if a = ⟨#[255, 255, 255, 255, 255, 255]⟩ then 3 else if (bt a 0).toNat % 2 = 1 then 2 else 1
def portS (n : Int) : ByteArray := if 0 ≤ n ∧ n < 16 then ⟨#[2, 97, 113, 0, 0, UInt8.ofNat n.toNat]⟩ else ⟨#[]⟩
def byV (a : ByteArray) : Int := match (List.range 16).find? (fun n : Nat => decide (portS (n : Int) = a)) with | some n => n | none => -1
theorem byV_hit (k : Nat) (hk : k < 16) : byV (portS k) = k := by
  have h : ∀ j : Fin 16, byV (portS (j.val : Int)) = (j.val : Int) := by decide +kernel
  exact h ⟨k, hk⟩
theorem byV_none (a : ByteArray) (h : ∀ j < 16, portS (j : Nat) ≠ a) : byV a = -1 := by
  unfold byV
  have e : (List.range 16).find? (fun n : Nat => decide (portS (n : Int) = a)) = none := by
    rw [List.find?_eq_none]
    intro x hx
    simpa using h x (by simpa using hx)
  rw [e]
theorem portS_in (n : Int) (h1 : 0 ≤ n) (h2 : n < 16) : portS n = ⟨#[2, 97, 113, 0, 0, UInt8.ofNat n.toNat]⟩ := if_pos ⟨h1, h2⟩
theorem portS_out (n : Int) (h : n < 0 ∨ 16 ≤ n) : portS n = ⟨#[]⟩ := if_neg (by omega)

theorem print_size (a : ByteArray) (h : a.size = 6) : (printS a).size = 17 := by
  rw [printS, if_pos h]
  show (txt (bt a) 6).toArray.size = 17
  rw [List.size_toArray, txt_length]
theorem parse_print (a : ByteArray) (h : a.size = 6) : parseE (printS a) = 0 ∧ parseS (printS a) = a := by
  have e : printS a = ⟨(txt (bt a) 6).toArray⟩ := if_pos h
  obtain ⟨h1, h2, h3⟩ := of_txt (printS a) (bt a) (by rw [e])
  refine ⟨if_pos ⟨h1, h2⟩, ?_⟩
  rw [parseS, if_pos ⟨h1, h2⟩, h3, ← size6 a h]
theorem print_parse (s : ByteArray) (h : parseE s = 0) : printE (parseS s) = 0 ∧ printS (parseS s) = s := by
  by_cases hg : s.size = 17 ∧ goodB s 6 = true
  · have e : parseS s = ⟨(six (macB s)).toArray⟩ := if_pos hg
    have z : (parseS s).size = 6 := by rw [e]; rfl
    refine ⟨if_pos z, ?_⟩
    have e2 : txt (bt (parseS s)) 6 = txt (macB s) 6 := by
      rw [txt6, txt6, e]; rfl
    rw [printS, if_pos z, e2, txt_of s hg.1 hg.2]
  · rw [parseE, if_neg hg] at h
    omega
theorem print_inj (a b : ByteArray) (ha : a.size = 6) (hb : b.size = 6) (h : printS a = printS b) : a = b := by
  have h1 := (parse_print a ha).2
  have h2 := (parse_print b hb).2
  rw [h] at h1
  rw [← h1, h2]
end Go.Proofs.Ythknggabioadhaa
