/-
  For every input the law HdrOnly returns true, and its arguments read afterwards as before; no condition beyond the form's own reach.
-/
import Derived.Test.YtalkpllmcigjnaaMk
import Derived.Test.YtalkpllmcigjnaaMv
import Derived.Test.YtalkpllmcigjnaaMu
import Derived.Deep.QuietTactic
import Derived.BigQuiet
namespace Go.Proofs.Ytalkpllmcigjnaa
open Go.Joins Go.ChangeShapes Go.WideShapes Go.ChangeAt Go.RowKit Go.Deep
open Go.ChangeMaps (open_string)

/-- How many of the first k bytes of two strings differ. -/
def difs (s t : ByteArray) : Nat → Nat
  | 0 => 0
  | k + 1 => difs s t k + (if s.data.toList[k]? = t.data.toList[k]? then 0 else 1)
theorem difs_same (s : ByteArray) (k : Nat) : difs s s k = 0 := by
  induction k with
  | zero => rfl
  | succ k ih => rw [difs, ih, if_pos rfl]
theorem with_get (s : ByteArray) (a : Nat) (v : Int) (h : a + 2 ≤ s.size) (j : Nat) (h1 : j ≠ a) (h2 : j ≠ a + 1) : (lst (withS s a v))[j]? = (lst s)[j]? := by
  rw [lst_withS]
  have l1 : ((lst s).take a).length = a := by rw [List.length_take, lst_len]; omega
  have l2 : (lst (bs v 2)).length = 2 := bs_len v 2
  rcases Nat.lt_or_ge j a with hj | hj
  · rw [List.getElem?_append_left (by omega), List.getElem?_take_of_lt hj]
  · rw [List.getElem?_append_right (by omega), l1, List.getElem?_append_right (by omega), l2, List.getElem?_drop]
    congr 1
    omega
theorem difs_a (s : ByteArray) (a : Nat) (v : Int) (h : a + 2 ≤ s.size) (k : Nat) (hk : k ≤ a) : difs s (withS s a v) k = 0 := by
  induction k with
  | zero => rfl
  | succ k ih =>
    have e := with_get s a v h k (by omega) (by omega)
    unfold lst at e
    rw [difs, ih (by omega), if_pos e.symm]
theorem difs_1 (s : ByteArray) (a : Nat) (v : Int) (h : a + 2 ≤ s.size) : difs s (withS s a v) (a + 1) ≤ 1 := by
  rw [difs, difs_a s a v h a (Nat.le_refl _)]
  split <;> omega
theorem difs_2 (s : ByteArray) (a : Nat) (v : Int) (h : a + 2 ≤ s.size) (j : Nat) : difs s (withS s a v) (a + 2 + j) ≤ 2 := by
  induction j with
  | zero =>
    have := difs_1 s a v h
    show difs s (withS s a v) (a + 1 + 1) ≤ 2
    rw [difs]
    split <;> omega
  | succ j ih =>
    have e := with_get s a v h (a + 2 + j) (by omega) (by omega)
    unfold lst at e
    show difs s (withS s a v) (a + 2 + j + 1) ≤ 2
    rw [difs, if_pos e.symm]
    omega
theorem difs_two (s : ByteArray) (a : Nat) (v : Int) (h : a + 2 ≤ s.size) (k : Nat) : difs s (withS s a v) k ≤ 2 := by
  rcases (by omega : k ≤ a ∨ k = a + 1 ∨ a + 2 ≤ k) with hk | rfl | hk
  · rw [difs_a s a v h k hk]; omega
  · have := difs_1 s a v h; omega
  · have := difs_2 s a v h (k - (a + 2))
    rw [show a + 2 + (k - (a + 2)) = k by omega] at this
    exact this
theorem get_toList (s : ByteArray) (k : Nat) (h : k < s.size) : s.data.toList[k]? = some s[k] := by
  have h' : k < s.data.toList.length := h
  rw [List.getElem?_eq_getElem h']
  rfl
theorem difs_le (s t : ByteArray) (k : Nat) : difs s t k ≤ k := by
  induction k with
  | zero => exact Nat.le_refl _
  | succ k ih => rw [difs]; split <;> omega
set_option maxRecDepth 100000 in
set_option maxHeartbeats 3200000 in
theorem hdrOnly_short0 (s : ByteArray) (E : Int) (h0 h1 h2 h3 h4 h5 h6 : Int) (w : World) (h : s.size ≤ 1600) (hE : (E != 0) = true)
    (A15 : ∀ W, Calls Try.prog 15 #[.agg #[.int .i64 h0, .int .i64 h1, .int .i64 h2, .int .i64 h3, .int .i64 h4, .int .i64 h5, .int .i64 h6], .string s] W fun e w' => e = .returned (.tuple #[.string ⟨#[]⟩, .int .i64 E]) ∧ Below W.heap.size W w')
    (A14 : ∀ W, Calls Try.prog 14 #[] W fun e w' => e = .returned (.bool true) ∧ Below W.heap.size W w') :
    Calls Try.prog 7 #[.agg #[.int .i64 h0, .int .i64 h1, .int .i64 h2, .int .i64 h3, .int .i64 h4, .int .i64 h5, .int .i64 h6], .string s] w fun e w' => e = .returned (.bool true) ∧ Below w.heap.size w w' := by
  have H14 := Lib.hid A14
  have H15 := Lib.hid A15
  clear A14 A15
  go_enter Try.func7, Try.ntmps7
  go_wp2_with fail
  refine (H15.out _).mono ?_
  rintro e w1 ⟨rfl, hq⟩
  have hb0_1 : Blk w1 w.heap.size 23 #[.int .i64 h0, .int .i64 h1, .int .i64 h2, .int .i64 h3, .int .i64 h4, .int .i64 h5, .int .i64 h6] := (Blk.new w 23 _).same (hq.block _ (by simp))
  have hB1 := ((Below.refl w.heap.size w).alloc (Nat.le_refl _) _).trans (hq.mono (by simp))
  clear hq
  have c0_0 : w1.cell? ⟨w.heap.size, 0, none⟩ = some (.int .i64 h0) := hb0_1.cell 0
  have c0_1 : w1.cell? ⟨w.heap.size, 1, none⟩ = some (.int .i64 h1) := hb0_1.cell 1
  have c0_2 : w1.cell? ⟨w.heap.size, 2, none⟩ = some (.int .i64 h2) := hb0_1.cell 2
  have c0_3 : w1.cell? ⟨w.heap.size, 3, none⟩ = some (.int .i64 h3) := hb0_1.cell 3
  have c0_4 : w1.cell? ⟨w.heap.size, 4, none⟩ = some (.int .i64 h4) := hb0_1.cell 4
  have c0_5 : w1.cell? ⟨w.heap.size, 5, none⟩ = some (.int .i64 h5) := hb0_1.cell 5
  have c0_6 : w1.cell? ⟨w.heap.size, 6, none⟩ = some (.int .i64 h6) := hb0_1.cell 6
  have z0 : w.heap.size < w1.heap.size := hb0_1.lt
  have n0 : w.heap.size ≠ w1.heap.size := by omega
  go_wp2_with fail
  refine (H14.out _).mono ?_
  rintro e w2 ⟨rfl, hq⟩
  have hb0_2 : Blk w2 w.heap.size 23 #[.int .i64 h0, .int .i64 h1, .int .i64 h2, .int .i64 h3, .int .i64 h4, .int .i64 h5, .int .i64 h6] := hb0_1.same (hq.block _ hb0_1.lt)
  have hB2 := hB1.trans (hq.mono hB1.size)
  clear hq hb0_1 hB1 c0_0 c0_1 c0_2 c0_3 c0_4 c0_5 c0_6 n0 z0
  have c0_0 : w2.cell? ⟨w.heap.size, 0, none⟩ = some (.int .i64 h0) := hb0_2.cell 0
  have c0_1 : w2.cell? ⟨w.heap.size, 1, none⟩ = some (.int .i64 h1) := hb0_2.cell 1
  have c0_2 : w2.cell? ⟨w.heap.size, 2, none⟩ = some (.int .i64 h2) := hb0_2.cell 2
  have c0_3 : w2.cell? ⟨w.heap.size, 3, none⟩ = some (.int .i64 h3) := hb0_2.cell 3
  have c0_4 : w2.cell? ⟨w.heap.size, 4, none⟩ = some (.int .i64 h4) := hb0_2.cell 4
  have c0_5 : w2.cell? ⟨w.heap.size, 5, none⟩ = some (.int .i64 h5) := hb0_2.cell 5
  have c0_6 : w2.cell? ⟨w.heap.size, 6, none⟩ = some (.int .i64 h6) := hb0_2.cell 6
  have z0 : w.heap.size < w2.heap.size := hb0_2.lt
  have n0 : w.heap.size ≠ w2.heap.size := by omega
  go_wp2_with fail
  go_ret
  exact ⟨rfl, hB2⟩
set_option maxRecDepth 100000 in
set_option maxHeartbeats 3200000 in
theorem hdrOnly_short1 (s T : ByteArray) (h0 h1 h2 h3 h4 h5 h6 : Int) (w : World) (h : s.size ≤ 1600) (hf : bits .and .i64 h0 1 = 0) (hT : T = s) (hz : T.size = (s).size) (hd : ∀ k, difs (s) T k ≤ 2)
    (A15 : ∀ W, Calls Try.prog 15 #[.agg #[.int .i64 h0, .int .i64 h1, .int .i64 h2, .int .i64 h3, .int .i64 h4, .int .i64 h5, .int .i64 h6], .string s] W fun e w' => e = .returned (.tuple #[.string T, .int .i64 0]) ∧ Below W.heap.size W w')
    (A14 : ∀ W, Calls Try.prog 14 #[] W fun e w' => e = .returned (.bool true) ∧ Below W.heap.size W w') :
    Calls Try.prog 7 #[.agg #[.int .i64 h0, .int .i64 h1, .int .i64 h2, .int .i64 h3, .int .i64 h4, .int .i64 h5, .int .i64 h6], .string s] w fun e w' => e = .returned (.bool true) ∧ Below w.heap.size w w' := by
  have H14 := Lib.hid A14
  have H15 := Lib.hid A15
  clear A14 A15
  obtain ⟨S, hS⟩ : ∃ S, s = S := ⟨_, rfl⟩
  subst hS
  have hzi : ((T.size : Int) != (s.size : Int)) = false := by rw [hz]; simp
  have hT2 := hT.symm
  subst hT2
  go_enter Try.func7, Try.ntmps7
  go_wp2_with fail
  refine (H15.out _).mono ?_
  rintro e w1 ⟨rfl, hq⟩
  have hb0_1 : Blk w1 w.heap.size 23 #[.int .i64 h0, .int .i64 h1, .int .i64 h2, .int .i64 h3, .int .i64 h4, .int .i64 h5, .int .i64 h6] := (Blk.new w 23 _).same (hq.block _ (by simp))
  have hB1 := ((Below.refl w.heap.size w).alloc (Nat.le_refl _) _).trans (hq.mono (by simp))
  clear hq
  have c0_0 : w1.cell? ⟨w.heap.size, 0, none⟩ = some (.int .i64 h0) := hb0_1.cell 0
  have c0_1 : w1.cell? ⟨w.heap.size, 1, none⟩ = some (.int .i64 h1) := hb0_1.cell 1
  have c0_2 : w1.cell? ⟨w.heap.size, 2, none⟩ = some (.int .i64 h2) := hb0_1.cell 2
  have c0_3 : w1.cell? ⟨w.heap.size, 3, none⟩ = some (.int .i64 h3) := hb0_1.cell 3
  have c0_4 : w1.cell? ⟨w.heap.size, 4, none⟩ = some (.int .i64 h4) := hb0_1.cell 4
  have c0_5 : w1.cell? ⟨w.heap.size, 5, none⟩ = some (.int .i64 h5) := hb0_1.cell 5
  have c0_6 : w1.cell? ⟨w.heap.size, 6, none⟩ = some (.int .i64 h6) := hb0_1.cell 6
  have z0 : w.heap.size < w1.heap.size := hb0_1.lt
  have n0 : w.heap.size ≠ w1.heap.size := by omega
  go_wp2_with fail
  go_loopw [7, 8] (fun x i wr => ∃ k : Nat, k ≤ s.size ∧ i = .int .i64 k ∧ x = .int .i64 (difs s s k) ∧ Below w.heap.size w wr) (fun _ i _ => s.size - (intOf i).toNat)
  case atStart => exact ⟨0, Nat.zero_le _, rfl, rfl, hB1⟩
  case round =>
    obtain ⟨k, hk, rfl, rfl, hbl⟩ := hrel
    have hdk := hd k
    have hle := difs_le s s k
    by_cases hlt : k < s.size
    · have u1 : (k : Int) < s.size := by omega
      have u2 : k < s.size := by omega
      have u3 : (k : Int) < s.size := by omega
      have u4 : k < s.size := by omega
      have e1 := get_toList s k (by omega)
      have e2 := get_toList s k (by omega)
      have hN : difs s s (k + 1) = difs s s k + (if s.data.toList[k]? = s.data.toList[k]? then 0 else 1) := rfl
      rw [e1] at hN
      try rw [e2] at hN
      by_cases hc : s[k] = s[k]
      · have hc2 : ((s[k].toNat : Int) != (s[k].toNat : Int)) = false := by rw [hc]; simp
        rw [if_pos (by rw [hc])] at hN
        have HN := Lib.hid hN
        clear hN e1 e2
        go_wp2_with fail
        go_quiet (fail)
        go_wp2_with fail
        exact ⟨⟨k + 1, by omega, by go_num, by rw [HN.out, Nat.add_zero], below_drewN hbl _⟩, by simp [intOf]; omega⟩
      · exact absurd rfl hc
    · obtain rfl : k = s.size := by omega
      have hd2 : decide ((difs s s s.size : Int) ≤ 2) = true := decide_eq_true (by omega)
      go_wp2_with fail
      refine (H14.out _).mono ?_
      rintro e w9 ⟨rfl, hq⟩
      go_wp2_with fail
      go_ret
      exact ⟨rfl, hbl.trans (hq.mono hbl.size)⟩
set_option maxRecDepth 100000 in
set_option maxHeartbeats 3200000 in
theorem hdrOnly_short2 (s T : ByteArray) (h0 h1 h2 h3 h4 h5 h6 : Int) (w : World) (h : s.size ≤ 1600) (hf : bits .and .i64 h0 1 = 1) (hz : T.size = (s).size) (hd : ∀ k, difs (s) T k ≤ 2)
    (A15 : ∀ W, Calls Try.prog 15 #[.agg #[.int .i64 h0, .int .i64 h1, .int .i64 h2, .int .i64 h3, .int .i64 h4, .int .i64 h5, .int .i64 h6], .string s] W fun e w' => e = .returned (.tuple #[.string T, .int .i64 0]) ∧ Below W.heap.size W w')
    (A14 : ∀ W, Calls Try.prog 14 #[] W fun e w' => e = .returned (.bool true) ∧ Below W.heap.size W w') :
    Calls Try.prog 7 #[.agg #[.int .i64 h0, .int .i64 h1, .int .i64 h2, .int .i64 h3, .int .i64 h4, .int .i64 h5, .int .i64 h6], .string s] w fun e w' => e = .returned (.bool true) ∧ Below w.heap.size w w' := by
  have H14 := Lib.hid A14
  have H15 := Lib.hid A15
  clear A14 A15
  obtain ⟨S, hS⟩ : ∃ S, s = S := ⟨_, rfl⟩
  subst hS
  have hzi : ((T.size : Int) != (s.size : Int)) = false := by rw [hz]; simp
  go_enter Try.func7, Try.ntmps7
  go_wp2_with fail
  refine (H15.out _).mono ?_
  rintro e w1 ⟨rfl, hq⟩
  have hb0_1 : Blk w1 w.heap.size 23 #[.int .i64 h0, .int .i64 h1, .int .i64 h2, .int .i64 h3, .int .i64 h4, .int .i64 h5, .int .i64 h6] := (Blk.new w 23 _).same (hq.block _ (by simp))
  have hB1 := ((Below.refl w.heap.size w).alloc (Nat.le_refl _) _).trans (hq.mono (by simp))
  clear hq
  have c0_0 : w1.cell? ⟨w.heap.size, 0, none⟩ = some (.int .i64 h0) := hb0_1.cell 0
  have c0_1 : w1.cell? ⟨w.heap.size, 1, none⟩ = some (.int .i64 h1) := hb0_1.cell 1
  have c0_2 : w1.cell? ⟨w.heap.size, 2, none⟩ = some (.int .i64 h2) := hb0_1.cell 2
  have c0_3 : w1.cell? ⟨w.heap.size, 3, none⟩ = some (.int .i64 h3) := hb0_1.cell 3
  have c0_4 : w1.cell? ⟨w.heap.size, 4, none⟩ = some (.int .i64 h4) := hb0_1.cell 4
  have c0_5 : w1.cell? ⟨w.heap.size, 5, none⟩ = some (.int .i64 h5) := hb0_1.cell 5
  have c0_6 : w1.cell? ⟨w.heap.size, 6, none⟩ = some (.int .i64 h6) := hb0_1.cell 6
  have z0 : w.heap.size < w1.heap.size := hb0_1.lt
  have n0 : w.heap.size ≠ w1.heap.size := by omega
  go_wp2_with fail
  go_loopw [7, 8] (fun x i wr => ∃ k : Nat, k ≤ s.size ∧ i = .int .i64 k ∧ x = .int .i64 (difs s T k) ∧ Below w.heap.size w wr) (fun _ i _ => s.size - (intOf i).toNat)
  case atStart => exact ⟨0, Nat.zero_le _, rfl, rfl, hB1⟩
  case round =>
    obtain ⟨k, hk, rfl, rfl, hbl⟩ := hrel
    have hdk := hd k
    have hle := difs_le s T k
    by_cases hlt : k < s.size
    · have u1 : (k : Int) < s.size := by omega
      have u2 : k < s.size := by omega
      have u3 : (k : Int) < T.size := by omega
      have u4 : k < T.size := by omega
      have e1 := get_toList s k (by omega)
      have e2 := get_toList T k (by omega)
      have hN : difs s T (k + 1) = difs s T k + (if s.data.toList[k]? = T.data.toList[k]? then 0 else 1) := rfl
      rw [e1] at hN
      try rw [e2] at hN
      by_cases hc : s[k] = T[k]
      · have hc2 : ((s[k].toNat : Int) != (T[k].toNat : Int)) = false := by rw [hc]; simp
        rw [if_pos (by rw [hc])] at hN
        have HN := Lib.hid hN
        clear hN e1 e2
        go_wp2_with fail
        go_quiet (fail)
        go_wp2_with fail
        exact ⟨⟨k + 1, by omega, by go_num, by rw [HN.out, Nat.add_zero], below_drewN hbl _⟩, by simp [intOf]; omega⟩
      · have hc2 : ((s[k].toNat : Int) != (T[k].toNat : Int)) = true := by
          have : (s[k].toNat : Int) ≠ (T[k].toNat : Int) := fun e => hc (UInt8.toNat_inj.1 (by omega))
          simpa using this
        rw [if_neg (fun e => hc (Option.some.inj e))] at hN
        have HN := Lib.hid hN
        clear hN e1 e2
        go_wp2_with fail
        go_quiet (fail)
        go_wp2_with fail
        exact ⟨⟨k + 1, by omega, by go_num, by rw [HN.out]; go_num, below_drewN hbl _⟩, by simp [intOf]; omega⟩
    · obtain rfl : k = s.size := by omega
      have hd2 : decide ((difs s T s.size : Int) ≤ 2) = true := decide_eq_true (by omega)
      go_wp2_with fail
      refine (H14.out _).mono ?_
      rintro e w9 ⟨rfl, hq⟩
      go_wp2_with fail
      go_ret
      exact ⟨rfl, hbl.trans (hq.mono hbl.size)⟩
set_option maxRecDepth 100000 in
set_option maxHeartbeats 3200000 in
theorem hdrOnly_long0 (s : ByteArray) (E : Int) (h0 h1 h2 h3 h4 h5 h6 : Int) (w : World) (h : 1600 < s.size) (hE : (E != 0) = true)
    (A15 : ∀ W, Calls Try.prog 15 #[.agg #[.int .i64 h0, .int .i64 h1, .int .i64 h2, .int .i64 h3, .int .i64 h4, .int .i64 h5, .int .i64 h6], .string (s.extract 0 1600)] W fun e w' => e = .returned (.tuple #[.string ⟨#[]⟩, .int .i64 E]) ∧ Below W.heap.size W w')
    (A14 : ∀ W, Calls Try.prog 14 #[] W fun e w' => e = .returned (.bool true) ∧ Below W.heap.size W w') :
    Calls Try.prog 7 #[.agg #[.int .i64 h0, .int .i64 h1, .int .i64 h2, .int .i64 h3, .int .i64 h4, .int .i64 h5, .int .i64 h6], .string s] w fun e w' => e = .returned (.bool true) ∧ Below w.heap.size w w' := by
  have H14 := Lib.hid A14
  have H15 := Lib.hid A15
  clear A14 A15
  go_enter Try.func7, Try.ntmps7
  go_wp2_with fail
  refine (H15.out _).mono ?_
  rintro e w1 ⟨rfl, hq⟩
  have hb0_1 : Blk w1 w.heap.size 23 #[.int .i64 h0, .int .i64 h1, .int .i64 h2, .int .i64 h3, .int .i64 h4, .int .i64 h5, .int .i64 h6] := (Blk.new w 23 _).same (hq.block _ (by simp))
  have hB1 := ((Below.refl w.heap.size w).alloc (Nat.le_refl _) _).trans (hq.mono (by simp))
  clear hq
  have c0_0 : w1.cell? ⟨w.heap.size, 0, none⟩ = some (.int .i64 h0) := hb0_1.cell 0
  have c0_1 : w1.cell? ⟨w.heap.size, 1, none⟩ = some (.int .i64 h1) := hb0_1.cell 1
  have c0_2 : w1.cell? ⟨w.heap.size, 2, none⟩ = some (.int .i64 h2) := hb0_1.cell 2
  have c0_3 : w1.cell? ⟨w.heap.size, 3, none⟩ = some (.int .i64 h3) := hb0_1.cell 3
  have c0_4 : w1.cell? ⟨w.heap.size, 4, none⟩ = some (.int .i64 h4) := hb0_1.cell 4
  have c0_5 : w1.cell? ⟨w.heap.size, 5, none⟩ = some (.int .i64 h5) := hb0_1.cell 5
  have c0_6 : w1.cell? ⟨w.heap.size, 6, none⟩ = some (.int .i64 h6) := hb0_1.cell 6
  have z0 : w.heap.size < w1.heap.size := hb0_1.lt
  have n0 : w.heap.size ≠ w1.heap.size := by omega
  go_wp2_with fail
  refine (H14.out _).mono ?_
  rintro e w2 ⟨rfl, hq⟩
  have hb0_2 : Blk w2 w.heap.size 23 #[.int .i64 h0, .int .i64 h1, .int .i64 h2, .int .i64 h3, .int .i64 h4, .int .i64 h5, .int .i64 h6] := hb0_1.same (hq.block _ hb0_1.lt)
  have hB2 := hB1.trans (hq.mono hB1.size)
  clear hq hb0_1 hB1 c0_0 c0_1 c0_2 c0_3 c0_4 c0_5 c0_6 n0 z0
  have c0_0 : w2.cell? ⟨w.heap.size, 0, none⟩ = some (.int .i64 h0) := hb0_2.cell 0
  have c0_1 : w2.cell? ⟨w.heap.size, 1, none⟩ = some (.int .i64 h1) := hb0_2.cell 1
  have c0_2 : w2.cell? ⟨w.heap.size, 2, none⟩ = some (.int .i64 h2) := hb0_2.cell 2
  have c0_3 : w2.cell? ⟨w.heap.size, 3, none⟩ = some (.int .i64 h3) := hb0_2.cell 3
  have c0_4 : w2.cell? ⟨w.heap.size, 4, none⟩ = some (.int .i64 h4) := hb0_2.cell 4
  have c0_5 : w2.cell? ⟨w.heap.size, 5, none⟩ = some (.int .i64 h5) := hb0_2.cell 5
  have c0_6 : w2.cell? ⟨w.heap.size, 6, none⟩ = some (.int .i64 h6) := hb0_2.cell 6
  have z0 : w.heap.size < w2.heap.size := hb0_2.lt
  have n0 : w.heap.size ≠ w2.heap.size := by omega
  go_wp2_with fail
  go_ret
  exact ⟨rfl, hB2⟩
set_option maxRecDepth 100000 in
set_option maxHeartbeats 3200000 in
theorem hdrOnly_long1 (s T : ByteArray) (h0 h1 h2 h3 h4 h5 h6 : Int) (w : World) (h : 1600 < s.size) (hf : bits .and .i64 h0 1 = 0) (hT : T = (s.extract 0 1600)) (hz : T.size = ((s.extract 0 1600)).size) (hd : ∀ k, difs ((s.extract 0 1600)) T k ≤ 2)
    (A15 : ∀ W, Calls Try.prog 15 #[.agg #[.int .i64 h0, .int .i64 h1, .int .i64 h2, .int .i64 h3, .int .i64 h4, .int .i64 h5, .int .i64 h6], .string (s.extract 0 1600)] W fun e w' => e = .returned (.tuple #[.string T, .int .i64 0]) ∧ Below W.heap.size W w')
    (A14 : ∀ W, Calls Try.prog 14 #[] W fun e w' => e = .returned (.bool true) ∧ Below W.heap.size W w') :
    Calls Try.prog 7 #[.agg #[.int .i64 h0, .int .i64 h1, .int .i64 h2, .int .i64 h3, .int .i64 h4, .int .i64 h5, .int .i64 h6], .string s] w fun e w' => e = .returned (.bool true) ∧ Below w.heap.size w w' := by
  have H14 := Lib.hid A14
  have H15 := Lib.hid A15
  clear A14 A15
  have hzs : (s.extract 0 1600).size = 1600 := by rw [ByteArray.size_extract]; omega
  obtain ⟨S, hS⟩ : ∃ S, (s.extract 0 1600) = S := ⟨_, rfl⟩
  rw [hS] at H15 hz hd hT hzs
  have hzb : S.size ≤ 1600 := by omega
  clear hzs
  have hzi : ((T.size : Int) != (S.size : Int)) = false := by rw [hz]; simp
  have hT2 := hT.symm
  subst hT2
  go_enter Try.func7, Try.ntmps7
  go_wp2_with fail
  refine (H15.out _).mono ?_
  rintro e w1 ⟨rfl, hq⟩
  have hb0_1 : Blk w1 w.heap.size 23 #[.int .i64 h0, .int .i64 h1, .int .i64 h2, .int .i64 h3, .int .i64 h4, .int .i64 h5, .int .i64 h6] := (Blk.new w 23 _).same (hq.block _ (by simp))
  have hB1 := ((Below.refl w.heap.size w).alloc (Nat.le_refl _) _).trans (hq.mono (by simp))
  clear hq
  have c0_0 : w1.cell? ⟨w.heap.size, 0, none⟩ = some (.int .i64 h0) := hb0_1.cell 0
  have c0_1 : w1.cell? ⟨w.heap.size, 1, none⟩ = some (.int .i64 h1) := hb0_1.cell 1
  have c0_2 : w1.cell? ⟨w.heap.size, 2, none⟩ = some (.int .i64 h2) := hb0_1.cell 2
  have c0_3 : w1.cell? ⟨w.heap.size, 3, none⟩ = some (.int .i64 h3) := hb0_1.cell 3
  have c0_4 : w1.cell? ⟨w.heap.size, 4, none⟩ = some (.int .i64 h4) := hb0_1.cell 4
  have c0_5 : w1.cell? ⟨w.heap.size, 5, none⟩ = some (.int .i64 h5) := hb0_1.cell 5
  have c0_6 : w1.cell? ⟨w.heap.size, 6, none⟩ = some (.int .i64 h6) := hb0_1.cell 6
  have z0 : w.heap.size < w1.heap.size := hb0_1.lt
  have n0 : w.heap.size ≠ w1.heap.size := by omega
  go_wp2_with fail
  go_loopw [7, 8] (fun x i wr => ∃ k : Nat, k ≤ S.size ∧ i = .int .i64 k ∧ x = .int .i64 (difs S S k) ∧ Below w.heap.size w wr) (fun _ i _ => S.size - (intOf i).toNat)
  case atStart => exact ⟨0, Nat.zero_le _, rfl, rfl, hB1⟩
  case round =>
    obtain ⟨k, hk, rfl, rfl, hbl⟩ := hrel
    have hdk := hd k
    have hle := difs_le S S k
    by_cases hlt : k < S.size
    · have u1 : (k : Int) < S.size := by omega
      have u2 : k < S.size := by omega
      have u3 : (k : Int) < S.size := by omega
      have u4 : k < S.size := by omega
      have e1 := get_toList S k (by omega)
      have e2 := get_toList S k (by omega)
      have hN : difs S S (k + 1) = difs S S k + (if S.data.toList[k]? = S.data.toList[k]? then 0 else 1) := rfl
      rw [e1] at hN
      try rw [e2] at hN
      by_cases hc : S[k] = S[k]
      · have hc2 : ((S[k].toNat : Int) != (S[k].toNat : Int)) = false := by rw [hc]; simp
        rw [if_pos (by rw [hc])] at hN
        have HN := Lib.hid hN
        clear hN e1 e2
        go_wp2_with fail
        go_quiet (fail)
        go_wp2_with fail
        exact ⟨⟨k + 1, by omega, by go_num, by rw [HN.out, Nat.add_zero], below_drewN hbl _⟩, by simp [intOf]; omega⟩
      · exact absurd rfl hc
    · obtain rfl : k = S.size := by omega
      have hd2 : decide ((difs S S S.size : Int) ≤ 2) = true := decide_eq_true (by omega)
      go_wp2_with fail
      refine (H14.out _).mono ?_
      rintro e w9 ⟨rfl, hq⟩
      go_wp2_with fail
      go_ret
      exact ⟨rfl, hbl.trans (hq.mono hbl.size)⟩
set_option maxRecDepth 100000 in
set_option maxHeartbeats 3200000 in
theorem hdrOnly_long2 (s T : ByteArray) (h0 h1 h2 h3 h4 h5 h6 : Int) (w : World) (h : 1600 < s.size) (hf : bits .and .i64 h0 1 = 1) (hz : T.size = ((s.extract 0 1600)).size) (hd : ∀ k, difs ((s.extract 0 1600)) T k ≤ 2)
    (A15 : ∀ W, Calls Try.prog 15 #[.agg #[.int .i64 h0, .int .i64 h1, .int .i64 h2, .int .i64 h3, .int .i64 h4, .int .i64 h5, .int .i64 h6], .string (s.extract 0 1600)] W fun e w' => e = .returned (.tuple #[.string T, .int .i64 0]) ∧ Below W.heap.size W w')
    (A14 : ∀ W, Calls Try.prog 14 #[] W fun e w' => e = .returned (.bool true) ∧ Below W.heap.size W w') :
    Calls Try.prog 7 #[.agg #[.int .i64 h0, .int .i64 h1, .int .i64 h2, .int .i64 h3, .int .i64 h4, .int .i64 h5, .int .i64 h6], .string s] w fun e w' => e = .returned (.bool true) ∧ Below w.heap.size w w' := by
  have H14 := Lib.hid A14
  have H15 := Lib.hid A15
  clear A14 A15
  have hzs : (s.extract 0 1600).size = 1600 := by rw [ByteArray.size_extract]; omega
  obtain ⟨S, hS⟩ : ∃ S, (s.extract 0 1600) = S := ⟨_, rfl⟩
  rw [hS] at H15 hz hd hzs
  have hzb : S.size ≤ 1600 := by omega
  clear hzs
  have hzi : ((T.size : Int) != (S.size : Int)) = false := by rw [hz]; simp
  go_enter Try.func7, Try.ntmps7
  go_wp2_with fail
  refine (H15.out _).mono ?_
  rintro e w1 ⟨rfl, hq⟩
  have hb0_1 : Blk w1 w.heap.size 23 #[.int .i64 h0, .int .i64 h1, .int .i64 h2, .int .i64 h3, .int .i64 h4, .int .i64 h5, .int .i64 h6] := (Blk.new w 23 _).same (hq.block _ (by simp))
  have hB1 := ((Below.refl w.heap.size w).alloc (Nat.le_refl _) _).trans (hq.mono (by simp))
  clear hq
  have c0_0 : w1.cell? ⟨w.heap.size, 0, none⟩ = some (.int .i64 h0) := hb0_1.cell 0
  have c0_1 : w1.cell? ⟨w.heap.size, 1, none⟩ = some (.int .i64 h1) := hb0_1.cell 1
  have c0_2 : w1.cell? ⟨w.heap.size, 2, none⟩ = some (.int .i64 h2) := hb0_1.cell 2
  have c0_3 : w1.cell? ⟨w.heap.size, 3, none⟩ = some (.int .i64 h3) := hb0_1.cell 3
  have c0_4 : w1.cell? ⟨w.heap.size, 4, none⟩ = some (.int .i64 h4) := hb0_1.cell 4
  have c0_5 : w1.cell? ⟨w.heap.size, 5, none⟩ = some (.int .i64 h5) := hb0_1.cell 5
  have c0_6 : w1.cell? ⟨w.heap.size, 6, none⟩ = some (.int .i64 h6) := hb0_1.cell 6
  have z0 : w.heap.size < w1.heap.size := hb0_1.lt
  have n0 : w.heap.size ≠ w1.heap.size := by omega
  go_wp2_with fail
  go_loopw [7, 8] (fun x i wr => ∃ k : Nat, k ≤ S.size ∧ i = .int .i64 k ∧ x = .int .i64 (difs S T k) ∧ Below w.heap.size w wr) (fun _ i _ => S.size - (intOf i).toNat)
  case atStart => exact ⟨0, Nat.zero_le _, rfl, rfl, hB1⟩
  case round =>
    obtain ⟨k, hk, rfl, rfl, hbl⟩ := hrel
    have hdk := hd k
    have hle := difs_le S T k
    by_cases hlt : k < S.size
    · have u1 : (k : Int) < S.size := by omega
      have u2 : k < S.size := by omega
      have u3 : (k : Int) < T.size := by omega
      have u4 : k < T.size := by omega
      have e1 := get_toList S k (by omega)
      have e2 := get_toList T k (by omega)
      have hN : difs S T (k + 1) = difs S T k + (if S.data.toList[k]? = T.data.toList[k]? then 0 else 1) := rfl
      rw [e1] at hN
      try rw [e2] at hN
      by_cases hc : S[k] = T[k]
      · have hc2 : ((S[k].toNat : Int) != (T[k].toNat : Int)) = false := by rw [hc]; simp
        rw [if_pos (by rw [hc])] at hN
        have HN := Lib.hid hN
        clear hN e1 e2
        go_wp2_with fail
        go_quiet (fail)
        go_wp2_with fail
        exact ⟨⟨k + 1, by omega, by go_num, by rw [HN.out, Nat.add_zero], below_drewN hbl _⟩, by simp [intOf]; omega⟩
      · have hc2 : ((S[k].toNat : Int) != (T[k].toNat : Int)) = true := by
          have : (S[k].toNat : Int) ≠ (T[k].toNat : Int) := fun e => hc (UInt8.toNat_inj.1 (by omega))
          simpa using this
        rw [if_neg (fun e => hc (Option.some.inj e))] at hN
        have HN := Lib.hid hN
        clear hN e1 e2
        go_wp2_with fail
        go_quiet (fail)
        go_wp2_with fail
        exact ⟨⟨k + 1, by omega, by go_num, by rw [HN.out]; go_num, below_drewN hbl _⟩, by simp [intOf]; omega⟩
    · obtain rfl : k = S.size := by omega
      have hd2 : decide ((difs S T S.size : Int) ≤ 2) = true := decide_eq_true (by omega)
      go_wp2_with fail
      refine (H14.out _).mono ?_
      rintro e w9 ⟨rfl, hq⟩
      go_wp2_with fail
      go_ret
      exact ⟨rfl, hbl.trans (hq.mono hbl.size)⟩
theorem fin_only (h : Hd) (s : ByteArray) (e : finE h s = 0) : (finS h s).size = s.size ∧ (∀ k, difs s (finS h s) k ≤ 2) ∧ (h.flags % 2 = 0 → finS h s = s) := by
  unfold finE at e
  split at e
  · rename_i hg
    split at e
    · rename_i hf
      have e1 : finS h s = s := by rw [finS, if_pos hg, if_pos hf]
      rw [e1]
      exact ⟨rfl, fun k => by rw [difs_same]; omega, fun _ => rfl⟩
    · rename_i hf
      split at e
      · rename_i hc
        obtain ⟨c1, c2, c3, c4, c5⟩ := comB2_iff.1 hc
        have e1 : finS h s = withS s (h.start + h.off).toNat (segSum (s.extract h.start.toNat s.size)) := by rw [finS, if_pos hg, if_neg hf, comS, if_pos hc]
        rw [e1]
        exact ⟨withS_size _ _ _ (by omega), fun k => difs_two _ _ _ (by omega) k, fun x => absurd x hf⟩
      · cases e
  · cases e
theorem fin_refused (h : Hd) (s : ByteArray) (e : finE h s ≠ 0) : finS h s = ⟨#[]⟩ := by
  unfold finE at e
  unfold finS
  split at e
  · rename_i hg
    rw [if_pos hg]
    split at e
    · exact absurd rfl e
    · rename_i hf
      rw [if_neg hf]
      split at e
      · exact absurd rfl e
      · rename_i hc
        rw [comS, if_neg hc]
  · rename_i hg
    rw [if_neg hg]
theorem hdrOnly_any (h : Hd) (s : ByteArray) (w : World) :
    Calls Try.prog 7 #[.agg (hdL h), .string s] w fun e w' => e = .returned (.bool true) ∧ Below w.heap.size w w' := by
  by_cases hl : s.size ≤ 1600
  · have A := fun W => fin_any h s W (by omega)
    by_cases e : finE h s = 0
    · obtain ⟨k1, k2, k3⟩ := fin_only h s e
      rw [e] at A
      by_cases hf : h.flags % 2 = 0
      · exact hdrOnly_short1 s (finS h s) _ _ _ _ _ _ _ w hl (by rw [low1]; exact hf) (k3 hf) k1 k2 A (fun W => fixed_any W)
      · exact hdrOnly_short2 s (finS h s) _ _ _ _ _ _ _ w hl (by rw [low1]; omega) k1 k2 A (fun W => fixed_any W)
    · rw [fin_refused h s e] at A
      exact hdrOnly_short0 s _ _ _ _ _ _ _ _ w hl (by simpa using e) A (fun W => fixed_any W)
  · have hz : (s.extract 0 1600).size = 1600 := by rw [ByteArray.size_extract]; omega
    have A := fun W => fin_any h (s.extract 0 1600) W (by omega)
    by_cases e : finE h (s.extract 0 1600) = 0
    · obtain ⟨k1, k2, k3⟩ := fin_only h (s.extract 0 1600) e
      rw [e] at A
      by_cases hf : h.flags % 2 = 0
      · exact hdrOnly_long1 s (finS h (s.extract 0 1600)) _ _ _ _ _ _ _ w (by omega) (by rw [low1]; exact hf) (k3 hf) k1 k2 A (fun W => fixed_any W)
      · exact hdrOnly_long2 s (finS h (s.extract 0 1600)) _ _ _ _ _ _ _ w (by omega) (by rw [low1]; omega) k1 k2 A (fun W => fixed_any W)
    · rw [fin_refused h (s.extract 0 1600) e] at A
      exact hdrOnly_long0 s _ _ _ _ _ _ _ _ w (by omega) (by simpa using e) A (fun W => fixed_any W)

set_option maxRecDepth 100000 in
theorem hdrOnly_lifted (os : Os) (started : os.Started) (H : Type) (enc : TypeId × Value → H) :
    ReturnsInHanded {} Try.checked os 7 .any (Rows.hdrOnlySpec.pre6 enc Try.prog Try.f7 Rows.hdrOnlyRow.domain false) (Rows.hdrOnlySpec.post enc Try.prog Try.f7 false true false false) := by
  have e : Try.f7.params.toList = [23, 9] := by rw [Try.params7]
  refine law_of_walk (C := Try.checked) (tb := 4) H enc Try.own started (by kernel_rfl) Try.func7 Try.laidOut rfl rfl Try.underlying4 ?_ ?_
    (ChangeSpec.witness6 (enc := enc) (C := Try.checked) false ⟨#[], #[.agg #[.int .i64 0, .int .i64 0, .int .i64 0, .int .i64 0, .int .i64 0, .int .i64 0, .int .i64 0], .string ByteArray.empty], []⟩ 8 (by kernel_rfl) (by kernel_rfl) (by kernel_rfl) (by kernel_rfl)) ?_
  · rw [e]
    intro t ht
    simp only [List.mem_cons, List.not_mem_nil, or_false] at ht
    rcases ht with rfl | rfl <;> exact ⟨by kernel_rfl, of_decide_eq_true (by kernel_rfl)⟩
  · intro ds hds
    rw [e] at hds
    match ds, hds with
    | [d0, d1], _ => rfl
  · intro W base args ds p hval0 hA0 hsz0
    have hval : ∀ (j : Nat) t v, Try.f7.params[j]? = some t → args[j]? = some v → Value.okWide Try.prog W .any base t v := hval0
    have hA : DataW.TrodAll enc Try.prog W 0 (fun _ => true) true Try.f7.params.toList args.toList ds p := hA0
    have hsz : (DataW.weightsEach Try.prog Try.f7.params.toList ds).all (· ≤ reachBytes) = true := hsz0
    rw [Try.params7] at hA hval hsz
    obtain ⟨v0, v1, d0, d1, p0, p1, rfl, rfl, rfl, h0, h1⟩ := trodAll_two hA
    obtain ⟨x0, rfl, rfl, k0⟩ := open_hdr (hval 0 23 v0 rfl rfl) h0
    obtain ⟨x1, rfl, rfl, rfl, _⟩ := open_string Try.underlying9 (hval 1 9 v1 rfl rfl) h1
    have s1 := sized_string hsz (j := 1) (t := 9) rfl rfl
    simp only [reachBytes] at s1
    exact hdrOnly_any x0 x1 W

theorem hdrOnly_holds : Rows.HdrOnlySaid :=
  OpenClaim.holds_of_wide 7 Try.f7 rfl rfl rfl rfl rfl rfl rfl ⟨rfl, rfl, rfl, rfl, rfl⟩ rfl rfl rfl rfl rfl (by kernel_rfl) Try.func7 (by kernel_rfl)
    (of_decide_eq_true (by kernel_rfl)) (by unfold Func.isWrapper; first | (rw [if_pos (by decide +kernel)]; kernel_rfl) | (rw [if_neg (by decide +kernel)]; exact ⟨rfl, rfl⟩))
    (fun os started H enc _ => hdrOnly_lifted os started H enc)
end Go.Proofs.Ytalkpllmcigjnaa
