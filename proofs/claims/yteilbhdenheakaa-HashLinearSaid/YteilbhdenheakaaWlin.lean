/-
  For every input the law HashLinear returns true, and its arguments read afterwards as before; no condition beyond the form's own reach.
-/
import Derived.Test.YteilbhdenheakaaLaw
import Derived.Test.YteilbhdenheakaaBytes
namespace Go.Proofs.Yteilbhdenheakaa
open Go.Joins Go.ChangeShapes Go.WideShapes Go.ChangeAt Go.RowKit Go.Deep
open Go.ChangeMaps (open_string)


theorem bytes_in (w : World) (s : ByteArray) : ∃ (cap : Nat) (w1 : World), (convert 9 29 (.string s)).run Try.prog w = .ok (.slice (some ⟨w.heap.size, 0, none⟩) s.size cap) w1 ∧
    Cells w.heap.size s.data.toList w1 ∧ (∀ j, j < s.size → w1.frozen? ⟨w.heap.size, j, none⟩ = false) ∧ Below w.heap.size w w1 ∧ w.heap.size < w1.heap.size := by
  refine ⟨_, _, run_bytes_of_string w 9 29 5 s Try.underlying9 Try.underlying29 Try.underlying5, ?_, ?_, (Below.refl _ _).drew.alloc (Nat.le_refl _) _, by rw [World.size_alloc]; show w.heap.size < w.heap.size + 1; omega⟩
  · intro j hj
    have hj' : j < s.data.size := by simpa using hj
    have h := World.cell?_alloc_mark w.drew (bytesRow s (grownCap w s.size 0 5)) 5 ((bytesRow s (grownCap w s.size 0 5)).size, (bytesRow s (grownCap w s.size 0 5)).size + 1) j
    rw [bytesRow_at s _ j hj'] at h
    exact h
  · intro j hj
    have h := World.frozen?_alloc_mark w.drew (bytesRow s (grownCap w s.size 0 5)) 5 (bytesRow s (grownCap w s.size 0 5)).size ((bytesRow s (grownCap w s.size 0 5)).size + 1) j
    have hb : s.size ≤ (bytesRow s (grownCap w s.size 0 5)).size := by unfold bytesRow; simp
    rw [decide_eq_false (by omega), Bool.false_and] at h
    exact h
/-- the first k bytes with the others', the rest as they were -/
def mixL (n : Nat) (f g : Nat → UInt8) (k : Nat) : List UInt8 := (List.range n).map (fun j => if j < k then f j else g j)
theorem mixL_length (n : Nat) (f g : Nat → UInt8) (k : Nat) : (mixL n f g k).length = n := by simp [mixL]
theorem mixL_get (n : Nat) (f g : Nat → UInt8) (k j : Nat) (hj : j < (mixL n f g k).length) : (mixL n f g k)[j] = if j < k then f j else g j := by simp [mixL]
theorem mixL_set (n : Nat) (f g : Nat → UInt8) (k : Nat) : (mixL n f g k).set k (f k) = mixL n f g (k + 1) := by
  apply List.ext_getElem
  · simp [mixL]
  · intro i h1 h2
    rw [mixL_get, List.getElem_set, mixL_get]
    by_cases e : k = i
    · subst e; simp
    · rw [if_neg e]
      by_cases e2 : i < k
      · rw [if_pos e2, if_pos (by omega)]
      · rw [if_neg e2, if_neg (by omega)]
/-- The row while the loop runs. -/
def Mix (n : Nat) (f g : Nat → UInt8) (k : Nat) (w wr : World) : Prop :=
  Cells w.heap.size (mixL n f g k) wr ∧ (∀ j, j < n → wr.frozen? ⟨w.heap.size, j, none⟩ = false) ∧ Below w.heap.size w wr ∧ w.heap.size < wr.heap.size
def byteN (s : ByteArray) (j : Nat) : UInt8 := UInt8.ofNat (byteZ s j)
theorem byteN_in (s : ByteArray) (j : Nat) (h : j < s.size) : byteN s j = s[j] := by unfold byteN; rw [byteZ_in s j h]; simp
theorem Mix.start {w w1 : World} (s : ByteArray) (f : Nat → UInt8) (h1 : Cells w.heap.size s.data.toList w1) (h2 : ∀ j, j < s.size → w1.frozen? ⟨w.heap.size, j, none⟩ = false) (h3 : Below w.heap.size w w1) (h4 : w.heap.size < w1.heap.size) : Mix s.size f (byteN s) 0 w w1 := by
  refine ⟨?_, h2, h3, h4⟩
  intro j hj
  have hj2 : j < s.size := by rw [mixL_length] at hj; exact hj
  rw [h1 j hj2, mixL_get]
  simp only [Nat.not_lt_zero, if_false]
  rw [byteN_in s j hj2]; rfl
theorem Mix.cell {n k : Nat} {f g : Nat → UInt8} {w wr : World} (h : Mix n f g k w wr) (hk : k < n) : wr.cell? ⟨w.heap.size, k, none⟩ = some (.int .u8 ((g k).toNat : Int)) := by
  have := h.1 k (by rw [mixL_length]; exact hk)
  rw [mixL_get, if_neg (by omega)] at this
  exact this
theorem Mix.step {n k : Nat} {f g : Nat → UInt8} {w wr : World} (h : Mix n f g k w wr) (hk : k < n) : Mix n f g (k + 1) w (wr.setCell ⟨w.heap.size, k, none⟩ (byteV (f k))) := by
  obtain ⟨h1, h2, h3, h4⟩ := h
  refine ⟨?_, fun j hj => (World.frozen?_setCell _ _ _ _).trans (h2 j hj), h3.setCell (Nat.le_refl _) _, by simpa using h4⟩
  rw [← mixL_set]
  intro j hj
  rw [List.getElem_set]
  by_cases e : k = j
  · subst e
    rw [if_pos rfl]
    exact World.cell?_setCell_same _ _ _ (h1 k (by rw [mixL_length]; exact hk))
  · rw [if_neg e, World.cell?_setCell_other _ _ _ _ (by intro h; injection h; contradiction)]
    exact h1 j (by simpa using hj)
theorem Mix.drew {n k : Nat} {f g : Nat → UInt8} {w wr : World} (h : Mix n f g k w wr) : Mix n f g k w wr.drew := ⟨h.1, h.2.1, h.2.2.1.drew, h.2.2.2⟩

/-- the exclusive or of two strings -/
def xorS (A B : ByteArray) (n : Nat) : ByteArray := ⟨(mixL n (fun j => byteN A j ^^^ byteN B j) (byteN A) n).toArray⟩
def zeroS (n : Nat) : ByteArray := ⟨(List.replicate n (0 : UInt8)).toArray⟩
theorem xorS_size (A B : ByteArray) (n : Nat) : (xorS A B n).size = n := by
  show (mixL n _ _ n).toArray.size = n
  simp [mixL_length]
theorem zeroS_size (n : Nat) : (zeroS n).size = n := by
  show (List.replicate n (0 : UInt8)).toArray.size = n
  simp
theorem xorS_byte (A B : ByteArray) (n j : Nat) (hj : j < n) : byteZ (xorS A B n) j = byteZ A j ^^^ byteZ B j := by
  rw [byteZ_in _ _ (by rw [xorS_size]; exact hj)]
  have e : (xorS A B n)[j]'(by rw [xorS_size]; exact hj) = byteN A j ^^^ byteN B j := by
    show (mixL n (fun j => byteN A j ^^^ byteN B j) (byteN A) n)[j]'(by rw [mixL_length]; exact hj) = _
    rw [mixL_get, if_pos hj]
  rw [e, UInt8.toNat_xor]
  unfold byteN
  have h1 := byteZ_lt A j
  have h2 := byteZ_lt B j
  rw [UInt8.toNat_ofNat', UInt8.toNat_ofNat', Nat.mod_eq_of_lt h1, Nat.mod_eq_of_lt h2]
theorem div_xor (a b t : Nat) : (a ^^^ b) / 2 ^ t = a / 2 ^ t ^^^ b / 2 ^ t := by
  rw [← Nat.shiftRight_eq_div_pow, ← Nat.shiftRight_eq_div_pow, ← Nat.shiftRight_eq_div_pow, Nat.shiftRight_xor_distrib]
theorem xor_bit (a b : Nat) : (((a ^^^ b) % 2) == 1) = ((a % 2 == 1) != (b % 2 == 1)) := by
  have := Nat.xor_mod_two_pow (a := a) (b := b) (n := 1)
  rw [Nat.pow_one] at this
  rw [this]
  rcases Nat.mod_two_eq_zero_or_one a with h | h <;> rcases Nat.mod_two_eq_zero_or_one b with k | k <;> rw [h, k] <;> rfl
theorem xorS_bit (A B : ByteArray) (n i : Nat) (hi : i < 8 * n) : bitB (xorS A B n) i = (bitB A i != bitB B i) := by
  unfold bitB bitZ
  have e : (i : Int) / 8 = ((i / 8 : Nat) : Int) := by omega
  rw [e, xorS_byte A B n (i / 8) (by omega), div_xor, xor_bit]
theorem zeroS_bit (n i : Nat) : bitB (zeroS n) i = false := by
  unfold bitB bitZ
  have e : (i : Int) / 8 = ((i / 8 : Nat) : Int) := by omega
  have h0 : byteZ (zeroS n) ((i / 8 : Nat) : Int) = 0 := by
    by_cases h : i / 8 < n
    · rw [byteZ_in _ _ (by rw [zeroS_size]; exact h)]
      have : (zeroS n)[i / 8]'(by rw [zeroS_size]; exact h) = 0 := by
        show (List.replicate n (0 : UInt8))[i / 8]'(by simpa using h) = 0
        simp
      rw [this]; rfl
    · exact byteZ_out _ _ (.inr (by rw [zeroS_size]; omega))
  rw [e, h0]
  simp
theorem hash_xor (key A B : ByteArray) (n : Nat) (hA : A.size = n) (hB : B.size = n) : hashV key (xorS A B n) = hashV key A ^^^ hashV key B := by
  unfold hashV
  rw [xorS_size, hA, hB]
  exact hashN_linear _ _ _ _ _ (fun i hi => xorS_bit A B n i hi)
theorem hash_zero (key : ByteArray) (n : Nat) : hashV key (zeroS n) = 0 := by
  unfold hashV
  exact hashN_zero _ _ _ (fun i _ => zeroS_bit n i)
theorem zero_text {w w1 : World} (n : Nat)
    (h : w1.ownsRow w.heap.size 5 1 (.slice (some ⟨w.heap.size, 0, none⟩) n n) n (madeCells (Value.cells (.int .u8 0)) (n * 1)).toList) :
    (convert 29 9 (.slice (some ⟨w.heap.size, 0, none⟩) n n)).run Try.prog w1 = .ok (.string (zeroS n)) w1 := by
  have ht := (Row.zero h).cells.text n
  rw [List.length_replicate] at ht
  exact ht
theorem Mix.text {n : Nat} {A B : ByteArray} {w wr : World} (h : Mix n (fun j => byteN A j ^^^ byteN B j) (byteN A) n w wr) (cap : Nat) (w2 : World) (hb : Below wr.heap.size wr w2) :
    (convert 29 9 (.slice (some ⟨w.heap.size, 0, none⟩) n cap)).run Try.prog w2 = .ok (.string (xorS A B n)) w2 := by
  have ht := (h.1.kept hb h.2.2.2).text cap
  rw [mixL_length] at ht
  exact ht

theorem Mix.round {n k : Nat} {A B : ByteArray} {w wr : World} (h : Mix n (fun j => byteN A j ^^^ byteN B j) (byteN A) k w wr) (hk : k < n) (c : UInt8) (hc : byteN B k = c) :
    ∃ P R : Nat, wr.cell? ⟨w.heap.size, k, none⟩ = some (.int .u8 (P : Int)) ∧ bits .xor .u8 (P : Int) (c.toNat : Int) = (R : Int) ∧ Hid (byteV (byteN A k ^^^ byteN B k) = .int .u8 (R : Int)) := by
  refine ⟨(byteN A k).toNat, (byteN A k ^^^ byteN B k).toNat, h.cell hk, ?_, Lib.hid rfl⟩
  rw [hc, UInt8.toNat_xor]
  exact u8_xor_nat _ _ (UInt8.toNat_lt _) (UInt8.toNat_lt _)
theorem cut_byte (b : ByteArray) (n k : Nat) (hk : k < n) (hb : k < b.size) : byteN (b.extract 0 n) k = b[k] := by
  have hq : k < (b.extract 0 n).size := by simp; omega
  rw [byteN_in _ k hq, ByteArray.getElem_extract]
  simp

/-- What the law asks of its calls, of two strings of one length. -/
theorem linear_calls (key A B : ByteArray) (n : Nat) (hA : A.size = n) (hB : B.size = n) :
    ∃ (x y E : Nat), bits .xor .u32 (x : Int) (y : Int) = ((x ^^^ y : Nat) : Int) ∧ (E = 0 ∧ 4 ≤ key.size ∧ key.size ≤ 52 ∨ E = 30 ∧ (key.size < 4 ∨ 52 < key.size)) ∧
      (∀ w, Calls Try.prog 7 #[.string key, .string A] w fun e w' => e = .returned (.tuple #[.int .u32 x, .int .i64 E]) ∧ Below w.heap.size w w') ∧
      (∀ w, Calls Try.prog 7 #[.string key, .string B] w fun e w' => e = .returned (.tuple #[.int .u32 y, .int .i64 E]) ∧ Below w.heap.size w w') ∧
      (∀ w, Calls Try.prog 7 #[.string key, .string (xorS A B n)] w fun e w' => e = .returned (.tuple #[.int .u32 (x ^^^ y : Nat), .int .i64 E]) ∧ Below w.heap.size w w') ∧
      (∀ w, Calls Try.prog 7 #[.string key, .string (zeroS n)] w fun e w' => e = .returned (.tuple #[.int .u32 0, .int .i64 E]) ∧ Below w.heap.size w w') := by
  by_cases h : key.size < 4 ∨ 52 < key.size
  · refine ⟨0, 0, 30, by decide, .inr ⟨rfl, h⟩, fun w => ?_, fun w => ?_, fun w => ?_, fun w => ?_⟩
    · have := hash_any key A w; rw [hashE, if_pos h] at this; exact this
    · have := hash_any key B w; rw [hashE, if_pos h] at this; exact this
    · have := hash_any key (xorS A B n) w; rw [hashE, if_pos h] at this; exact this
    · have := hash_any key (zeroS n) w; rw [hashE, if_pos h] at this; exact this
  · refine ⟨hashV key A, hashV key B, 0, u32_xor_nat _ _ (hashV_lt _ _) (hashV_lt _ _), .inl ⟨rfl, by omega, by omega⟩, fun w => ?_, fun w => ?_, fun w => ?_, fun w => ?_⟩
    · have := hash_any key A w; rw [hashE, if_neg h] at this; exact this
    · have := hash_any key B w; rw [hashE, if_neg h] at this; exact this
    · have := hash_any key (xorS A B n) w; rw [hashE, if_neg h, hash_xor key A B n hA hB] at this; exact this
    · have := hash_any key (zeroS n) w; rw [hashE, if_neg h, hash_zero] at this; exact this

set_option maxHeartbeats 1600000 in
theorem hashLinear_any (key a b : ByteArray) (w : World) (hk : key.size ≤ 140737488351232) (ha : a.size ≤ 140737488351232) (hb : b.size ≤ 140737488351232) :
    Calls Try.prog 4 #[.string key, .string a, .string b] w fun e w' => e = .returned (.bool true) ∧ Below w.heap.size w w' := by
  obtain ⟨i0, hi, hz0, hz1, hz2⟩ := info_parts Try.info5
  have HI := Lib.hid hi
  have HZ0 := Lib.hid hz0
  have HZ1 := Lib.hid hz1
  have HZ2 := Lib.hid hz2
  clear hi hz0 hz1 hz2
  by_cases k1 : a.size ≤ 100 ∧ a.size ≤ b.size
  · obtain ⟨k1, k2⟩ := k1
    obtain ⟨T, hT, eT⟩ : ∃ T : ByteArray, T.size = a.size ∧ b.extract 0 a.size = T := ⟨_, by simp; omega, rfl⟩
    obtain ⟨x, y, E, hxor, hE, g1, g2, g3, g4⟩ := linear_calls key a T (a.size) rfl hT
    have G1 := Lib.hid g1
    have G2 := Lib.hid g2
    have G3 := Lib.hid g3
    have G4 := Lib.hid g4
    have HE := Lib.hid hE
    have HX := Lib.hid hxor
    clear g1 g2 g3 g4 hE hxor
    obtain ⟨cap, w1, hcv, hc1, hc2, hc3, hc4⟩ := bytes_in w a
    have hst := Mix.start a (fun j => byteN a j ^^^ byteN T j) hc1 hc2 hc3 hc4
    clear hc1 hc2 hc3 hc4
    go_enter Try.func4, Try.ntmps4
    go_wp2_with fail
    go_loopw [9] (fun i wr => ∃ k : Nat, k ≤ a.size ∧ i = .int .i64 k ∧ Mix (a.size) (fun j => byteN a j ^^^ byteN T j) (byteN a) k w wr) (fun i _ => a.size - (intOf i).toNat)
    case atStart => exact ⟨0, Nat.zero_le _, rfl, hst⟩
    case round =>
      obtain ⟨k, hk, rfl, hmix⟩ := hrel
      clear hst hcv
      by_cases hlt : k < a.size
      · have hkb : k < b.size := by omega
        obtain ⟨P, R, hcell, hxk, HR⟩ := Mix.round hmix hlt b[k] (by rw [← eT]; exact cut_byte b a.size k hlt hkb)
        have hfree := hmix.2.1 k hlt
        have e7 : (0 : Int) ≤ (k : Int) := by omega
        have e8 : (k : Int) < (a.size : Nat) := by omega
        have e9 : (k : Int) < b.size := by omega
        go_wp2_with fail
        go_region
        go_wp2_with fail
        go_roundw
        case rel => exact ⟨k + 1, by omega, by go_num, HR.out ▸ (hmix.step hlt).drew⟩
        case measure => simp [intOf]; omega
      · obtain rfl : k = a.size := by omega
        have HC := Lib.hid (fun w2 hb => hmix.text cap w2 hb)
        have hB := hmix.2.2.1
        have hW := Below.refl wr.heap.size wr
        have hxor := HX.out
        clear hmix HX
        rcases HE.out with ⟨rfl, q1, q2⟩ | ⟨rfl, q⟩
        all_goals go_wp2_with (first
          | (go_at_call 9; refine (fixed_any _).mono ?_; rintro e w9 ⟨rfl, hq⟩; replace hB := bl hB hq; clear hq)
          | (at_make; refine wpList_make_full _ rfl _ _ 29 rfl _ 5 i0 (.int .u8 0) 1 Try.underlying29 HI.out HZ0.out HZ1.out .i64 .i64 a.size a.size a.size rfl rfl rfl rfl (by rw [HZ2.out]; omega) (by unfold maxLen; omega) (Nat.le_refl _) ?_; intro w5 hrow hgrow; have hcz := zero_text a.size hrow; replace hB := bl hB ((Below.refl _ _).grown hgrow (Nat.le_refl _) (by simp)); clear hrow hgrow)
          | (go_at_call 7; ((with_reducible refine (G1.out _).mono ?_); rintro e w2 ⟨rfl, hq⟩; replace hB := bl hB hq; replace hW := bl hW hq; clear hq))
          | (go_at_call 7; ((with_reducible refine (G2.out _).mono ?_); rintro e w2 ⟨rfl, hq⟩; replace hB := bl hB hq; replace hW := bl hW hq; clear hq; have hcx := HC.out _ hW; clear hW))
          | (go_at_call 7; ((with_reducible refine (G3.out _).mono ?_); rintro e w2 ⟨rfl, hq⟩; replace hB := bl hB hq; clear hq hcx))
          | (go_at_call 7; ((with_reducible refine (G4.out _).mono ?_); rintro e w2 ⟨rfl, hq⟩; replace hB := bl hB hq; clear hq hcz)))
        all_goals (go_ret; refine ⟨?_, hB⟩; first | rfl | (show Ending.returned (Value.bool _) = Ending.returned (Value.bool true); congr 2; first | exact decide_eq_true (by omega) | (rw [decide_eq_false (by omega)]; rfl)))
  · by_cases k2 : b.size ≤ 100
    · have k3 : b.size < a.size := by omega
      obtain ⟨A, hA, eA⟩ : ∃ A : ByteArray, A.size = b.size ∧ a.extract 0 b.size = A := ⟨_, by simp; omega, rfl⟩
      obtain ⟨x, y, E, hxor, hE, g1, g2, g3, g4⟩ := linear_calls key A b (b.size) hA rfl
      have G1 := Lib.hid g1
      have G2 := Lib.hid g2
      have G3 := Lib.hid g3
      have G4 := Lib.hid g4
      have HE := Lib.hid hE
      have HX := Lib.hid hxor
      clear g1 g2 g3 g4 hE hxor
      obtain ⟨cap, w1, hcv, hc1, hc2, hc3, hc4⟩ := bytes_in w A
      have hst := Mix.start A (fun j => byteN A j ^^^ byteN b j) hc1 hc2 hc3 hc4
      clear hc1 hc2 hc3 hc4
      rw [hA] at hcv hst
      go_enter Try.func4, Try.ntmps4
      go_wp2_with fail
      go_loopw [9] (fun i wr => ∃ k : Nat, k ≤ b.size ∧ i = .int .i64 k ∧ Mix (b.size) (fun j => byteN A j ^^^ byteN b j) (byteN A) k w wr) (fun i _ => b.size - (intOf i).toNat)
      case atStart => exact ⟨0, Nat.zero_le _, rfl, hst⟩
      case round =>
        obtain ⟨k, hk, rfl, hmix⟩ := hrel
        clear hst hcv
        by_cases hlt : k < b.size
        · have hkb : k < b.size := by omega
          obtain ⟨P, R, hcell, hxk, HR⟩ := Mix.round hmix hlt b[k] (byteN_in b k hkb)
          have hfree := hmix.2.1 k hlt
          have e7 : (0 : Int) ≤ (k : Int) := by omega
          have e8 : (k : Int) < (b.size : Nat) := by omega
          have e9 : (k : Int) < b.size := by omega
          go_wp2_with fail
          go_region
          go_wp2_with fail
          go_roundw
          case rel => exact ⟨k + 1, by omega, by go_num, HR.out ▸ (hmix.step hlt).drew⟩
          case measure => simp [intOf]; omega
        · obtain rfl : k = b.size := by omega
          have HC := Lib.hid (fun w2 hb => hmix.text cap w2 hb)
          have hB := hmix.2.2.1
          have hW := Below.refl wr.heap.size wr
          have hxor := HX.out
          clear hmix HX
          rcases HE.out with ⟨rfl, q1, q2⟩ | ⟨rfl, q⟩
          all_goals go_wp2_with (first
            | (go_at_call 9; refine (fixed_any _).mono ?_; rintro e w9 ⟨rfl, hq⟩; replace hB := bl hB hq; clear hq)
            | (at_make; refine wpList_make_full _ rfl _ _ 29 rfl _ 5 i0 (.int .u8 0) 1 Try.underlying29 HI.out HZ0.out HZ1.out .i64 .i64 b.size b.size b.size rfl rfl rfl rfl (by rw [HZ2.out]; omega) (by unfold maxLen; omega) (Nat.le_refl _) ?_; intro w5 hrow hgrow; have hcz := zero_text b.size hrow; replace hB := bl hB ((Below.refl _ _).grown hgrow (Nat.le_refl _) (by simp)); clear hrow hgrow)
            | (go_at_call 7; ((with_reducible refine (G1.out _).mono ?_); rintro e w2 ⟨rfl, hq⟩; replace hB := bl hB hq; replace hW := bl hW hq; clear hq))
            | (go_at_call 7; ((with_reducible refine (G2.out _).mono ?_); rintro e w2 ⟨rfl, hq⟩; replace hB := bl hB hq; replace hW := bl hW hq; clear hq; have hcx := HC.out _ hW; clear hW))
            | (go_at_call 7; ((with_reducible refine (G3.out _).mono ?_); rintro e w2 ⟨rfl, hq⟩; replace hB := bl hB hq; clear hq hcx))
            | (go_at_call 7; ((with_reducible refine (G4.out _).mono ?_); rintro e w2 ⟨rfl, hq⟩; replace hB := bl hB hq; clear hq hcz)))
          all_goals (go_ret; refine ⟨?_, hB⟩; first | rfl | (show Ending.returned (Value.bool _) = Ending.returned (Value.bool true); congr 2; first | exact decide_eq_true (by omega) | (rw [decide_eq_false (by omega)]; rfl)))
    · have k3 : 100 < b.size := by omega
      have k4 : 100 < a.size := by omega
      clear k1 k2
      rcases Nat.lt_or_ge b.size a.size with k5 | k5
      · skip
        obtain ⟨A, hA, eA⟩ : ∃ A : ByteArray, A.size = 100 ∧ a.extract 0 100 = A := ⟨_, by simp; omega, rfl⟩
        obtain ⟨T, hT, eT⟩ : ∃ T : ByteArray, T.size = 100 ∧ b.extract 0 100 = T := ⟨_, by simp; omega, rfl⟩
        obtain ⟨x, y, E, hxor, hE, g1, g2, g3, g4⟩ := linear_calls key A T (100) hA hT
        have G1 := Lib.hid g1
        have G2 := Lib.hid g2
        have G3 := Lib.hid g3
        have G4 := Lib.hid g4
        have HE := Lib.hid hE
        have HX := Lib.hid hxor
        clear g1 g2 g3 g4 hE hxor
        obtain ⟨cap, w1, hcv, hc1, hc2, hc3, hc4⟩ := bytes_in w A
        have hst := Mix.start A (fun j => byteN A j ^^^ byteN T j) hc1 hc2 hc3 hc4
        clear hc1 hc2 hc3 hc4
        rw [hA] at hcv hst
        go_enter Try.func4, Try.ntmps4
        go_wp2_with fail
        go_loopw [9] (fun i wr => ∃ k : Nat, k ≤ 100 ∧ i = .int .i64 k ∧ Mix (100) (fun j => byteN A j ^^^ byteN T j) (byteN A) k w wr) (fun i _ => 100 - (intOf i).toNat)
        case atStart => exact ⟨0, Nat.zero_le _, rfl, hst⟩
        case round =>
          obtain ⟨k, hk, rfl, hmix⟩ := hrel
          clear hst hcv
          by_cases hlt : k < 100
          · have hkb : k < b.size := by omega
            obtain ⟨P, R, hcell, hxk, HR⟩ := Mix.round hmix hlt b[k] (by rw [← eT]; exact cut_byte b 100 k hlt hkb)
            have hfree := hmix.2.1 k hlt
            have e7 : (0 : Int) ≤ (k : Int) := by omega
            have e8 : (k : Int) < (100 : Nat) := by omega
            have e9 : (k : Int) < b.size := by omega
            go_wp2_with fail
            go_region
            go_wp2_with fail
            go_roundw
            case rel => exact ⟨k + 1, by omega, by go_num, HR.out ▸ (hmix.step hlt).drew⟩
            case measure => simp [intOf]; omega
          · obtain rfl : k = 100 := by omega
            have HC := Lib.hid (fun w2 hb => hmix.text cap w2 hb)
            have hB := hmix.2.2.1
            have hW := Below.refl wr.heap.size wr
            have hxor := HX.out
            clear hmix HX
            rcases HE.out with ⟨rfl, q1, q2⟩ | ⟨rfl, q⟩
            all_goals go_wp2_with (first
              | (go_at_call 9; refine (fixed_any _).mono ?_; rintro e w9 ⟨rfl, hq⟩; replace hB := bl hB hq; clear hq)
              | (at_make; refine wpList_make_full _ rfl _ _ 29 rfl _ 5 i0 (.int .u8 0) 1 Try.underlying29 HI.out HZ0.out HZ1.out .i64 .i64 100 100 100 rfl rfl rfl rfl (by rw [HZ2.out]; omega) (by unfold maxLen; omega) (Nat.le_refl _) ?_; intro w5 hrow hgrow; have hcz := zero_text 100 hrow; replace hB := bl hB ((Below.refl _ _).grown hgrow (Nat.le_refl _) (by simp)); clear hrow hgrow)
              | (go_at_call 7; ((with_reducible refine (G1.out _).mono ?_); rintro e w2 ⟨rfl, hq⟩; replace hB := bl hB hq; replace hW := bl hW hq; clear hq))
              | (go_at_call 7; ((with_reducible refine (G2.out _).mono ?_); rintro e w2 ⟨rfl, hq⟩; replace hB := bl hB hq; replace hW := bl hW hq; clear hq; have hcx := HC.out _ hW; clear hW))
              | (go_at_call 7; ((with_reducible refine (G3.out _).mono ?_); rintro e w2 ⟨rfl, hq⟩; replace hB := bl hB hq; clear hq hcx))
              | (go_at_call 7; ((with_reducible refine (G4.out _).mono ?_); rintro e w2 ⟨rfl, hq⟩; replace hB := bl hB hq; clear hq hcz)))
            all_goals (go_ret; refine ⟨?_, hB⟩; first | rfl | (show Ending.returned (Value.bool _) = Ending.returned (Value.bool true); congr 2; first | exact decide_eq_true (by omega) | (rw [decide_eq_false (by omega)]; rfl)))
      · skip
        obtain ⟨A, hA, eA⟩ : ∃ A : ByteArray, A.size = 100 ∧ a.extract 0 100 = A := ⟨_, by simp; omega, rfl⟩
        obtain ⟨T, hT, eT⟩ : ∃ T : ByteArray, T.size = 100 ∧ b.extract 0 100 = T := ⟨_, by simp; omega, rfl⟩
        obtain ⟨x, y, E, hxor, hE, g1, g2, g3, g4⟩ := linear_calls key A T (100) hA hT
        have G1 := Lib.hid g1
        have G2 := Lib.hid g2
        have G3 := Lib.hid g3
        have G4 := Lib.hid g4
        have HE := Lib.hid hE
        have HX := Lib.hid hxor
        clear g1 g2 g3 g4 hE hxor
        obtain ⟨cap, w1, hcv, hc1, hc2, hc3, hc4⟩ := bytes_in w A
        have hst := Mix.start A (fun j => byteN A j ^^^ byteN T j) hc1 hc2 hc3 hc4
        clear hc1 hc2 hc3 hc4
        rw [hA] at hcv hst
        go_enter Try.func4, Try.ntmps4
        go_wp2_with fail
        go_loopw [9] (fun i wr => ∃ k : Nat, k ≤ 100 ∧ i = .int .i64 k ∧ Mix (100) (fun j => byteN A j ^^^ byteN T j) (byteN A) k w wr) (fun i _ => 100 - (intOf i).toNat)
        case atStart => exact ⟨0, Nat.zero_le _, rfl, hst⟩
        case round =>
          obtain ⟨k, hk, rfl, hmix⟩ := hrel
          clear hst hcv
          by_cases hlt : k < 100
          · have hkb : k < b.size := by omega
            obtain ⟨P, R, hcell, hxk, HR⟩ := Mix.round hmix hlt b[k] (by rw [← eT]; exact cut_byte b 100 k hlt hkb)
            have hfree := hmix.2.1 k hlt
            have e7 : (0 : Int) ≤ (k : Int) := by omega
            have e8 : (k : Int) < (100 : Nat) := by omega
            have e9 : (k : Int) < b.size := by omega
            go_wp2_with fail
            go_region
            go_wp2_with fail
            go_roundw
            case rel => exact ⟨k + 1, by omega, by go_num, HR.out ▸ (hmix.step hlt).drew⟩
            case measure => simp [intOf]; omega
          · obtain rfl : k = 100 := by omega
            have HC := Lib.hid (fun w2 hb => hmix.text cap w2 hb)
            have hB := hmix.2.2.1
            have hW := Below.refl wr.heap.size wr
            have hxor := HX.out
            clear hmix HX
            rcases HE.out with ⟨rfl, q1, q2⟩ | ⟨rfl, q⟩
            all_goals go_wp2_with (first
              | (go_at_call 9; refine (fixed_any _).mono ?_; rintro e w9 ⟨rfl, hq⟩; replace hB := bl hB hq; clear hq)
              | (at_make; refine wpList_make_full _ rfl _ _ 29 rfl _ 5 i0 (.int .u8 0) 1 Try.underlying29 HI.out HZ0.out HZ1.out .i64 .i64 100 100 100 rfl rfl rfl rfl (by rw [HZ2.out]; omega) (by unfold maxLen; omega) (Nat.le_refl _) ?_; intro w5 hrow hgrow; have hcz := zero_text 100 hrow; replace hB := bl hB ((Below.refl _ _).grown hgrow (Nat.le_refl _) (by simp)); clear hrow hgrow)
              | (go_at_call 7; ((with_reducible refine (G1.out _).mono ?_); rintro e w2 ⟨rfl, hq⟩; replace hB := bl hB hq; replace hW := bl hW hq; clear hq))
              | (go_at_call 7; ((with_reducible refine (G2.out _).mono ?_); rintro e w2 ⟨rfl, hq⟩; replace hB := bl hB hq; replace hW := bl hW hq; clear hq; have hcx := HC.out _ hW; clear hW))
              | (go_at_call 7; ((with_reducible refine (G3.out _).mono ?_); rintro e w2 ⟨rfl, hq⟩; replace hB := bl hB hq; clear hq hcx))
              | (go_at_call 7; ((with_reducible refine (G4.out _).mono ?_); rintro e w2 ⟨rfl, hq⟩; replace hB := bl hB hq; clear hq hcz)))
            all_goals (go_ret; refine ⟨?_, hB⟩; first | rfl | (show Ending.returned (Value.bool _) = Ending.returned (Value.bool true); congr 2; first | exact decide_eq_true (by omega) | (rw [decide_eq_false (by omega)]; rfl)))

set_option maxRecDepth 100000 in
theorem hashLinear_lifted (os : Os) (started : os.Started) (H : Type) (enc : TypeId × Value → H) :
    ReturnsInHanded {} Try.checked os 4 .any (Rows.hashLinearSpec.pre6 enc Try.prog Try.f4 Rows.hashLinearRow.domain false) (Rows.hashLinearSpec.post enc Try.prog Try.f4 false true false false) := by
  have e : Try.f4.params.toList = [9, 9, 9] := by rw [Try.params4]
  refine law_of_walk (C := Try.checked) (tb := 4) H enc Try.own started (by kernel_rfl) Try.func4 Try.laidOut rfl rfl Try.underlying4 ?_ ?_
    (ChangeSpec.witness6 (enc := enc) (C := Try.checked) false ⟨#[], #[.string ByteArray.empty, .string ByteArray.empty, .string ByteArray.empty], []⟩ 8 (by kernel_rfl) (by kernel_rfl) (by kernel_rfl) (by kernel_rfl)) ?_
  · rw [e]
    intro t ht
    simp only [List.mem_cons, List.not_mem_nil, or_false] at ht
    rcases ht with rfl | rfl | rfl <;> exact ⟨by kernel_rfl, of_decide_eq_true (by kernel_rfl)⟩
  · intro ds hds
    rw [e] at hds
    match ds, hds with
    | [d0, d1, d2], _ => rfl
  · intro W base args ds p hval0 hA0 hsz0
    have hval : ∀ (j : Nat) t v, Try.f4.params[j]? = some t → args[j]? = some v → Value.okWide Try.prog W .any base t v := hval0
    have hA : DataW.TrodAll enc Try.prog W 0 (fun _ => true) true Try.f4.params.toList args.toList ds p := hA0
    have hsz : (DataW.weightsEach Try.prog Try.f4.params.toList ds).all (· ≤ reachBytes) = true := hsz0
    rw [Try.params4] at hA hval hsz
    obtain ⟨v0, v1, v2, d0, d1, d2, p0, p1, p2, rfl, rfl, rfl, h0, h1, h2⟩ := trodAll_three hA
    obtain ⟨x0, rfl, rfl, rfl, _⟩ := open_string Try.underlying9 (hval 0 9 v0 rfl rfl) h0
    obtain ⟨x1, rfl, rfl, rfl, _⟩ := open_string Try.underlying9 (hval 1 9 v1 rfl rfl) h1
    obtain ⟨x2, rfl, rfl, rfl, _⟩ := open_string Try.underlying9 (hval 2 9 v2 rfl rfl) h2
    have s0 := sized_string hsz (j := 0) (t := 9) rfl rfl
    have s1 := sized_string hsz (j := 1) (t := 9) rfl rfl
    have s2 := sized_string hsz (j := 2) (t := 9) rfl rfl
    simp only [reachBytes] at s0 s1 s2
    exact hashLinear_any x0 x1 x2 W s0 s1 s2

theorem hashLinear_holds : Rows.HashLinearSaid :=
  OpenClaim.holds_of_wide 4 Try.f4 rfl rfl rfl rfl rfl rfl rfl ⟨rfl, rfl, rfl, rfl, rfl⟩ rfl rfl rfl rfl rfl (by kernel_rfl) Try.func4 (by kernel_rfl)
    (of_decide_eq_true (by kernel_rfl)) (by unfold Func.isWrapper; first | (rw [if_pos (by decide +kernel)]; kernel_rfl) | (rw [if_neg (by decide +kernel)]; exact ⟨rfl, rfl⟩))
    (fun os started H enc _ => hashLinear_lifted os started H enc)
end Go.Proofs.Yteilbhdenheakaa
