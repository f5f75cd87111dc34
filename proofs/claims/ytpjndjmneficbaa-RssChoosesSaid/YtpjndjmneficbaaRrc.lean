/-
  What the document's Check answers: for all rules with a table of at most 300.
-/
import Derived.Test.YtpjndjmneficbaaRck
namespace Go.Proofs.Ytpjndjmneficbaa
open Go.RowKit

/-- is a table's size one of the first j? -/
def szB (n j : Nat) : Bool := (List.range j).any fun i => decide (n = 2 ^ i)
theorem szB_next (n j : Nat) : szB n (j + 1) = (szB n j || decide (n = 2 ^ j)) := by simp [szB, List.range_succ]
theorem pow_low {j P : Nat} (h : j < 8) (hP : P = 2 ^ j) : 1 ≤ P ∧ P ≤ 128 := by
  have : j = 0 ∨ j = 1 ∨ j = 2 ∨ j = 3 ∨ j = 4 ∨ j = 5 ∨ j = 6 ∨ j = 7 := by omega
  rcases this with rfl | rfl | rfl | rfl | rfl | rfl | rfl | rfl <;> subst hP <;> decide
theorem all_next (L : List Int) (m : Nat) (h : m < L.length) : (L.take (m + 1)).all quB = ((L.take m).all quB && quB L[m]) := by
  rw [List.take_succ_eq_append_getElem h, List.all_append]; simp
set_option maxRecDepth 100000 in
set_option maxHeartbeats 1600000 in
theorem rcheck_0 (k : Int) (A : Option Addr) (c : Nat) (L : List Int) (x : ByteArray) (d : Int) (w : World) (hl : L.length ≤ 300) (h0 : szB L.length 8 = false) :
    Calls Try.prog 15 #[.agg #[.int .i64 k, .slice A L.length c, .string x, .int .i64 d]] w fun e w' => e = .returned (.int .i64 110) ∧ Below w.heap.size w w' := by
  have _ := hl
  go_enter Try.func15, Try.ntmps15
  go_wp2_with fail
  go_loopw [3, 4] (fun t i wr => ∃ j P : Nat, j ≤ 8 ∧ P = 2 ^ j ∧ i = .int .i64 P ∧ t = .bool (szB L.length j) ∧ w.alloc (.cells #[.int .i64 k, .slice A L.length c, .string x, .int .i64 d] 24) = wr) (fun _ i _ => 256 - (intOf i).toNat)
  case atStart => exact ⟨0, 1, by omega, rfl, rfl, rfl, rfl⟩
  case round =>
    obtain ⟨j, P, hj, hP, rfl, rfl, rfl⟩ := hrel
    by_cases hlt : j < 8
    · have hP2 : P * 2 = 2 ^ (j + 1) := by rw [hP, Nat.pow_succ]
      have hP1 : 1 ≤ P ∧ P ≤ 128 := pow_low hlt hP
      have hn := Lib.hid (szB_next L.length j)
      rw [← hP] at hn
      have g1 : (P : Int) ≤ 128 := by omega
      have g2 : IntKind.i64.wrap ((P : Int) * 2) = (P : Int) * 2 := IntWalk.i64_in _ (by omega)
      have HP2 := Lib.hid hP2
      clear hP2 hP
      cases hz : szB L.length j with
      | true =>
        have hn2 : szB L.length (j + 1) = true := by rw [hn.out, hz, Bool.true_or]
        have HN := Lib.hid hn2
        clear hn2
        go_wp2_with fail
        go_roundw
        case rel => exact ⟨j + 1, P * 2, by omega, HP2.out, by go_num, by rw [HN.out], trivial⟩
        case measure => simp [intOf]; omega
      | false =>
        by_cases he : L.length = P
        · have hn2 : szB L.length (j + 1) = true := by rw [hn.out, hz, decide_eq_true he]; rfl
          have HN := Lib.hid hn2
          have e1 : ((L.length : Int) == (P : Int)) = true := by rw [he]; simp
          clear hn2 he
          go_wp2_with fail
          go_roundw
          case rel => exact ⟨j + 1, P * 2, by omega, HP2.out, by go_num, by rw [HN.out], trivial⟩
          case measure => simp [intOf]; omega
        · have hn2 : szB L.length (j + 1) = false := by rw [hn.out, hz, decide_eq_false he]; rfl
          have HN := Lib.hid hn2
          have e1 : ((L.length : Int) == (P : Int)) = false := by simp; omega
          clear hn2 he
          go_wp2_with fail
          go_roundw
          case rel => exact ⟨j + 1, P * 2, by omega, HP2.out, by go_num, by rw [HN.out], trivial⟩
          case measure => simp [intOf]; omega
    · obtain rfl : j = 8 := by omega
      obtain rfl : P = 256 := hP
      rw [h0]
      clear hj hlt
      go_wp2_with fail
      go_loopw [5, 6] (fun t i wr => ∃ m : Nat, m ≤ L.length ∧ i = .int .i64 m ∧ t = .bool false ∧ w.alloc (.cells #[.int .i64 k, .slice A L.length c, .string x, .int .i64 d] 24) = wr) (fun _ i _ => L.length - (intOf i).toNat)
      case atStart => exact ⟨0, by omega, rfl, by first | rfl | rw [decide_eq_false (by omega)], rfl⟩
      case round =>
        obtain ⟨m, hm, rfl, rfl, rfl⟩ := hrel
        by_cases hlt : m < L.length
        · have g1 : (m : Int) < (L.length : Int) := by omega
          go_wp2_with fail
          go_roundw
          case rel => exact ⟨m + 1, by omega, by go_num, rfl, trivial⟩
          case measure => simp [intOf]; omega
        · have g1 : ¬ (m : Int) < (L.length : Int) := by omega
          go_wp2_with fail
          go_ret
          exact ⟨rfl, (Below.refl _ _).alloc (Nat.le_refl _) _⟩
set_option maxRecDepth 100000 in
set_option maxHeartbeats 1600000 in
theorem rcheck_1 (k : Int) (A : Option Addr) (c : Nat) (L : List Int) (x : ByteArray) (d : Int) (w : World) (hl : L.length ≤ 300) (h0 : szB L.length 8 = true) (h1 : ¬ 0 ≤ k) :
    Calls Try.prog 15 #[.agg #[.int .i64 k, .slice A L.length c, .string x, .int .i64 d]] w fun e w' => e = .returned (.int .i64 110) ∧ Below w.heap.size w w' := by
  have _ := hl
  go_enter Try.func15, Try.ntmps15
  go_wp2_with fail
  go_loopw [3, 4] (fun t i wr => ∃ j P : Nat, j ≤ 8 ∧ P = 2 ^ j ∧ i = .int .i64 P ∧ t = .bool (szB L.length j) ∧ w.alloc (.cells #[.int .i64 k, .slice A L.length c, .string x, .int .i64 d] 24) = wr) (fun _ i _ => 256 - (intOf i).toNat)
  case atStart => exact ⟨0, 1, by omega, rfl, rfl, rfl, rfl⟩
  case round =>
    obtain ⟨j, P, hj, hP, rfl, rfl, rfl⟩ := hrel
    by_cases hlt : j < 8
    · have hP2 : P * 2 = 2 ^ (j + 1) := by rw [hP, Nat.pow_succ]
      have hP1 : 1 ≤ P ∧ P ≤ 128 := pow_low hlt hP
      have hn := Lib.hid (szB_next L.length j)
      rw [← hP] at hn
      have g1 : (P : Int) ≤ 128 := by omega
      have g2 : IntKind.i64.wrap ((P : Int) * 2) = (P : Int) * 2 := IntWalk.i64_in _ (by omega)
      have HP2 := Lib.hid hP2
      clear hP2 hP
      cases hz : szB L.length j with
      | true =>
        have hn2 : szB L.length (j + 1) = true := by rw [hn.out, hz, Bool.true_or]
        have HN := Lib.hid hn2
        clear hn2
        go_wp2_with fail
        go_roundw
        case rel => exact ⟨j + 1, P * 2, by omega, HP2.out, by go_num, by rw [HN.out], trivial⟩
        case measure => simp [intOf]; omega
      | false =>
        by_cases he : L.length = P
        · have hn2 : szB L.length (j + 1) = true := by rw [hn.out, hz, decide_eq_true he]; rfl
          have HN := Lib.hid hn2
          have e1 : ((L.length : Int) == (P : Int)) = true := by rw [he]; simp
          clear hn2 he
          go_wp2_with fail
          go_roundw
          case rel => exact ⟨j + 1, P * 2, by omega, HP2.out, by go_num, by rw [HN.out], trivial⟩
          case measure => simp [intOf]; omega
        · have hn2 : szB L.length (j + 1) = false := by rw [hn.out, hz, decide_eq_false he]; rfl
          have HN := Lib.hid hn2
          have e1 : ((L.length : Int) == (P : Int)) = false := by simp; omega
          clear hn2 he
          go_wp2_with fail
          go_roundw
          case rel => exact ⟨j + 1, P * 2, by omega, HP2.out, by go_num, by rw [HN.out], trivial⟩
          case measure => simp [intOf]; omega
    · obtain rfl : j = 8 := by omega
      obtain rfl : P = 256 := hP
      rw [h0]
      clear hj hlt
      go_wp2_with fail
      go_loopw [5, 6] (fun t i wr => ∃ m : Nat, m ≤ L.length ∧ i = .int .i64 m ∧ t = .bool false ∧ w.alloc (.cells #[.int .i64 k, .slice A L.length c, .string x, .int .i64 d] 24) = wr) (fun _ i _ => L.length - (intOf i).toNat)
      case atStart => exact ⟨0, by omega, rfl, by first | rfl | rw [decide_eq_false (by omega)], rfl⟩
      case round =>
        obtain ⟨m, hm, rfl, rfl, rfl⟩ := hrel
        by_cases hlt : m < L.length
        · have g1 : (m : Int) < (L.length : Int) := by omega
          go_wp2_with fail
          go_roundw
          case rel => exact ⟨m + 1, by omega, by go_num, rfl, trivial⟩
          case measure => simp [intOf]; omega
        · have g1 : ¬ (m : Int) < (L.length : Int) := by omega
          go_wp2_with fail
          go_ret
          exact ⟨rfl, (Below.refl _ _).alloc (Nat.le_refl _) _⟩
set_option maxRecDepth 100000 in
set_option maxHeartbeats 1600000 in
theorem rcheck_2 (k : Int) (A : Option Addr) (c : Nat) (L : List Int) (x : ByteArray) (d : Int) (w : World) (hl : L.length ≤ 300) (h0 : szB L.length 8 = true) (h1 : 0 ≤ k) (h2 : ¬ k ≤ 126) :
    Calls Try.prog 15 #[.agg #[.int .i64 k, .slice A L.length c, .string x, .int .i64 d]] w fun e w' => e = .returned (.int .i64 110) ∧ Below w.heap.size w w' := by
  have _ := hl
  go_enter Try.func15, Try.ntmps15
  go_wp2_with fail
  go_loopw [3, 4] (fun t i wr => ∃ j P : Nat, j ≤ 8 ∧ P = 2 ^ j ∧ i = .int .i64 P ∧ t = .bool (szB L.length j) ∧ w.alloc (.cells #[.int .i64 k, .slice A L.length c, .string x, .int .i64 d] 24) = wr) (fun _ i _ => 256 - (intOf i).toNat)
  case atStart => exact ⟨0, 1, by omega, rfl, rfl, rfl, rfl⟩
  case round =>
    obtain ⟨j, P, hj, hP, rfl, rfl, rfl⟩ := hrel
    by_cases hlt : j < 8
    · have hP2 : P * 2 = 2 ^ (j + 1) := by rw [hP, Nat.pow_succ]
      have hP1 : 1 ≤ P ∧ P ≤ 128 := pow_low hlt hP
      have hn := Lib.hid (szB_next L.length j)
      rw [← hP] at hn
      have g1 : (P : Int) ≤ 128 := by omega
      have g2 : IntKind.i64.wrap ((P : Int) * 2) = (P : Int) * 2 := IntWalk.i64_in _ (by omega)
      have HP2 := Lib.hid hP2
      clear hP2 hP
      cases hz : szB L.length j with
      | true =>
        have hn2 : szB L.length (j + 1) = true := by rw [hn.out, hz, Bool.true_or]
        have HN := Lib.hid hn2
        clear hn2
        go_wp2_with fail
        go_roundw
        case rel => exact ⟨j + 1, P * 2, by omega, HP2.out, by go_num, by rw [HN.out], trivial⟩
        case measure => simp [intOf]; omega
      | false =>
        by_cases he : L.length = P
        · have hn2 : szB L.length (j + 1) = true := by rw [hn.out, hz, decide_eq_true he]; rfl
          have HN := Lib.hid hn2
          have e1 : ((L.length : Int) == (P : Int)) = true := by rw [he]; simp
          clear hn2 he
          go_wp2_with fail
          go_roundw
          case rel => exact ⟨j + 1, P * 2, by omega, HP2.out, by go_num, by rw [HN.out], trivial⟩
          case measure => simp [intOf]; omega
        · have hn2 : szB L.length (j + 1) = false := by rw [hn.out, hz, decide_eq_false he]; rfl
          have HN := Lib.hid hn2
          have e1 : ((L.length : Int) == (P : Int)) = false := by simp; omega
          clear hn2 he
          go_wp2_with fail
          go_roundw
          case rel => exact ⟨j + 1, P * 2, by omega, HP2.out, by go_num, by rw [HN.out], trivial⟩
          case measure => simp [intOf]; omega
    · obtain rfl : j = 8 := by omega
      obtain rfl : P = 256 := hP
      rw [h0]
      clear hj hlt
      go_wp2_with fail
      go_loopw [5, 6] (fun t i wr => ∃ m : Nat, m ≤ L.length ∧ i = .int .i64 m ∧ t = .bool false ∧ w.alloc (.cells #[.int .i64 k, .slice A L.length c, .string x, .int .i64 d] 24) = wr) (fun _ i _ => L.length - (intOf i).toNat)
      case atStart => exact ⟨0, by omega, rfl, by first | rfl | rw [decide_eq_false (by omega)], rfl⟩
      case round =>
        obtain ⟨m, hm, rfl, rfl, rfl⟩ := hrel
        by_cases hlt : m < L.length
        · have g1 : (m : Int) < (L.length : Int) := by omega
          go_wp2_with fail
          go_roundw
          case rel => exact ⟨m + 1, by omega, by go_num, rfl, trivial⟩
          case measure => simp [intOf]; omega
        · have g1 : ¬ (m : Int) < (L.length : Int) := by omega
          go_wp2_with fail
          go_ret
          exact ⟨rfl, (Below.refl _ _).alloc (Nat.le_refl _) _⟩
set_option maxRecDepth 100000 in
set_option maxHeartbeats 1600000 in
theorem rcheck_3 (k : Int) (A : Option Addr) (c : Nat) (L : List Int) (x : ByteArray) (d : Int) (w : World) (hl : L.length ≤ 300) (h0 : szB L.length 8 = true) (h1 : 0 ≤ k) (h2 : k ≤ 126) (h3 : ¬ k % 2 = 0) :
    Calls Try.prog 15 #[.agg #[.int .i64 k, .slice A L.length c, .string x, .int .i64 d]] w fun e w' => e = .returned (.int .i64 110) ∧ Below w.heap.size w w' := by
  have q1 : Int.tmod k 2 = k % 2 := Int.tmod_eq_emod_of_nonneg h1
  have q2 : (k % 2 == 0) = false := by simpa using h3
  clear h3
  have _ := hl
  go_enter Try.func15, Try.ntmps15
  go_wp2_with fail
  go_loopw [3, 4] (fun t i wr => ∃ j P : Nat, j ≤ 8 ∧ P = 2 ^ j ∧ i = .int .i64 P ∧ t = .bool (szB L.length j) ∧ w.alloc (.cells #[.int .i64 k, .slice A L.length c, .string x, .int .i64 d] 24) = wr) (fun _ i _ => 256 - (intOf i).toNat)
  case atStart => exact ⟨0, 1, by omega, rfl, rfl, rfl, rfl⟩
  case round =>
    obtain ⟨j, P, hj, hP, rfl, rfl, rfl⟩ := hrel
    by_cases hlt : j < 8
    · have hP2 : P * 2 = 2 ^ (j + 1) := by rw [hP, Nat.pow_succ]
      have hP1 : 1 ≤ P ∧ P ≤ 128 := pow_low hlt hP
      have hn := Lib.hid (szB_next L.length j)
      rw [← hP] at hn
      have g1 : (P : Int) ≤ 128 := by omega
      have g2 : IntKind.i64.wrap ((P : Int) * 2) = (P : Int) * 2 := IntWalk.i64_in _ (by omega)
      have HP2 := Lib.hid hP2
      clear hP2 hP
      cases hz : szB L.length j with
      | true =>
        have hn2 : szB L.length (j + 1) = true := by rw [hn.out, hz, Bool.true_or]
        have HN := Lib.hid hn2
        clear hn2
        go_wp2_with fail
        go_roundw
        case rel => exact ⟨j + 1, P * 2, by omega, HP2.out, by go_num, by rw [HN.out], trivial⟩
        case measure => simp [intOf]; omega
      | false =>
        by_cases he : L.length = P
        · have hn2 : szB L.length (j + 1) = true := by rw [hn.out, hz, decide_eq_true he]; rfl
          have HN := Lib.hid hn2
          have e1 : ((L.length : Int) == (P : Int)) = true := by rw [he]; simp
          clear hn2 he
          go_wp2_with fail
          go_roundw
          case rel => exact ⟨j + 1, P * 2, by omega, HP2.out, by go_num, by rw [HN.out], trivial⟩
          case measure => simp [intOf]; omega
        · have hn2 : szB L.length (j + 1) = false := by rw [hn.out, hz, decide_eq_false he]; rfl
          have HN := Lib.hid hn2
          have e1 : ((L.length : Int) == (P : Int)) = false := by simp; omega
          clear hn2 he
          go_wp2_with fail
          go_roundw
          case rel => exact ⟨j + 1, P * 2, by omega, HP2.out, by go_num, by rw [HN.out], trivial⟩
          case measure => simp [intOf]; omega
    · obtain rfl : j = 8 := by omega
      obtain rfl : P = 256 := hP
      rw [h0]
      clear hj hlt
      go_wp2_with fail
      go_loopw [5, 6] (fun t i wr => ∃ m : Nat, m ≤ L.length ∧ i = .int .i64 m ∧ t = .bool false ∧ w.alloc (.cells #[.int .i64 k, .slice A L.length c, .string x, .int .i64 d] 24) = wr) (fun _ i _ => L.length - (intOf i).toNat)
      case atStart => exact ⟨0, by omega, rfl, by first | rfl | rw [decide_eq_false (by omega)], rfl⟩
      case round =>
        obtain ⟨m, hm, rfl, rfl, rfl⟩ := hrel
        by_cases hlt : m < L.length
        · have g1 : (m : Int) < (L.length : Int) := by omega
          go_wp2_with fail
          go_roundw
          case rel => exact ⟨m + 1, by omega, by go_num, rfl, trivial⟩
          case measure => simp [intOf]; omega
        · have g1 : ¬ (m : Int) < (L.length : Int) := by omega
          go_wp2_with fail
          go_ret
          exact ⟨rfl, (Below.refl _ _).alloc (Nat.le_refl _) _⟩
set_option maxRecDepth 100000 in
set_option maxHeartbeats 1600000 in
theorem rcheck_4 (k : Int) (A : Option Addr) (c : Nat) (L : List Int) (x : ByteArray) (d : Int) (w : World) (hl : L.length ≤ 300) (h0 : szB L.length 8 = true) (h1 : 0 ≤ k) (h2 : k ≤ 126) (h3 : k % 2 = 0) (h4 : ¬ 4 ≤ (x.size : Int)) :
    Calls Try.prog 15 #[.agg #[.int .i64 k, .slice A L.length c, .string x, .int .i64 d]] w fun e w' => e = .returned (.int .i64 110) ∧ Below w.heap.size w w' := by
  have q1 : Int.tmod k 2 = k % 2 := Int.tmod_eq_emod_of_nonneg h1
  have q2 : (k % 2 == 0) = true := by simpa using h3
  clear h3
  have _ := hl
  go_enter Try.func15, Try.ntmps15
  go_wp2_with fail
  go_loopw [3, 4] (fun t i wr => ∃ j P : Nat, j ≤ 8 ∧ P = 2 ^ j ∧ i = .int .i64 P ∧ t = .bool (szB L.length j) ∧ w.alloc (.cells #[.int .i64 k, .slice A L.length c, .string x, .int .i64 d] 24) = wr) (fun _ i _ => 256 - (intOf i).toNat)
  case atStart => exact ⟨0, 1, by omega, rfl, rfl, rfl, rfl⟩
  case round =>
    obtain ⟨j, P, hj, hP, rfl, rfl, rfl⟩ := hrel
    by_cases hlt : j < 8
    · have hP2 : P * 2 = 2 ^ (j + 1) := by rw [hP, Nat.pow_succ]
      have hP1 : 1 ≤ P ∧ P ≤ 128 := pow_low hlt hP
      have hn := Lib.hid (szB_next L.length j)
      rw [← hP] at hn
      have g1 : (P : Int) ≤ 128 := by omega
      have g2 : IntKind.i64.wrap ((P : Int) * 2) = (P : Int) * 2 := IntWalk.i64_in _ (by omega)
      have HP2 := Lib.hid hP2
      clear hP2 hP
      cases hz : szB L.length j with
      | true =>
        have hn2 : szB L.length (j + 1) = true := by rw [hn.out, hz, Bool.true_or]
        have HN := Lib.hid hn2
        clear hn2
        go_wp2_with fail
        go_roundw
        case rel => exact ⟨j + 1, P * 2, by omega, HP2.out, by go_num, by rw [HN.out], trivial⟩
        case measure => simp [intOf]; omega
      | false =>
        by_cases he : L.length = P
        · have hn2 : szB L.length (j + 1) = true := by rw [hn.out, hz, decide_eq_true he]; rfl
          have HN := Lib.hid hn2
          have e1 : ((L.length : Int) == (P : Int)) = true := by rw [he]; simp
          clear hn2 he
          go_wp2_with fail
          go_roundw
          case rel => exact ⟨j + 1, P * 2, by omega, HP2.out, by go_num, by rw [HN.out], trivial⟩
          case measure => simp [intOf]; omega
        · have hn2 : szB L.length (j + 1) = false := by rw [hn.out, hz, decide_eq_false he]; rfl
          have HN := Lib.hid hn2
          have e1 : ((L.length : Int) == (P : Int)) = false := by simp; omega
          clear hn2 he
          go_wp2_with fail
          go_roundw
          case rel => exact ⟨j + 1, P * 2, by omega, HP2.out, by go_num, by rw [HN.out], trivial⟩
          case measure => simp [intOf]; omega
    · obtain rfl : j = 8 := by omega
      obtain rfl : P = 256 := hP
      rw [h0]
      clear hj hlt
      go_wp2_with fail
      go_loopw [5, 6] (fun t i wr => ∃ m : Nat, m ≤ L.length ∧ i = .int .i64 m ∧ t = .bool false ∧ w.alloc (.cells #[.int .i64 k, .slice A L.length c, .string x, .int .i64 d] 24) = wr) (fun _ i _ => L.length - (intOf i).toNat)
      case atStart => exact ⟨0, by omega, rfl, by first | rfl | rw [decide_eq_false (by omega)], rfl⟩
      case round =>
        obtain ⟨m, hm, rfl, rfl, rfl⟩ := hrel
        by_cases hlt : m < L.length
        · have g1 : (m : Int) < (L.length : Int) := by omega
          go_wp2_with fail
          go_roundw
          case rel => exact ⟨m + 1, by omega, by go_num, rfl, trivial⟩
          case measure => simp [intOf]; omega
        · have g1 : ¬ (m : Int) < (L.length : Int) := by omega
          go_wp2_with fail
          go_ret
          exact ⟨rfl, (Below.refl _ _).alloc (Nat.le_refl _) _⟩
set_option maxRecDepth 100000 in
set_option maxHeartbeats 1600000 in
theorem rcheck_5 (k : Int) (A : Option Addr) (c : Nat) (L : List Int) (x : ByteArray) (d : Int) (w : World) (hl : L.length ≤ 300) (h0 : szB L.length 8 = true) (h1 : 0 ≤ k) (h2 : k ≤ 126) (h3 : k % 2 = 0) (h4 : 4 ≤ (x.size : Int)) (h5 : ¬ (x.size : Int) ≤ 52) :
    Calls Try.prog 15 #[.agg #[.int .i64 k, .slice A L.length c, .string x, .int .i64 d]] w fun e w' => e = .returned (.int .i64 110) ∧ Below w.heap.size w w' := by
  have q1 : Int.tmod k 2 = k % 2 := Int.tmod_eq_emod_of_nonneg h1
  have q2 : (k % 2 == 0) = true := by simpa using h3
  clear h3
  have _ := hl
  go_enter Try.func15, Try.ntmps15
  go_wp2_with fail
  go_loopw [3, 4] (fun t i wr => ∃ j P : Nat, j ≤ 8 ∧ P = 2 ^ j ∧ i = .int .i64 P ∧ t = .bool (szB L.length j) ∧ w.alloc (.cells #[.int .i64 k, .slice A L.length c, .string x, .int .i64 d] 24) = wr) (fun _ i _ => 256 - (intOf i).toNat)
  case atStart => exact ⟨0, 1, by omega, rfl, rfl, rfl, rfl⟩
  case round =>
    obtain ⟨j, P, hj, hP, rfl, rfl, rfl⟩ := hrel
    by_cases hlt : j < 8
    · have hP2 : P * 2 = 2 ^ (j + 1) := by rw [hP, Nat.pow_succ]
      have hP1 : 1 ≤ P ∧ P ≤ 128 := pow_low hlt hP
      have hn := Lib.hid (szB_next L.length j)
      rw [← hP] at hn
      have g1 : (P : Int) ≤ 128 := by omega
      have g2 : IntKind.i64.wrap ((P : Int) * 2) = (P : Int) * 2 := IntWalk.i64_in _ (by omega)
      have HP2 := Lib.hid hP2
      clear hP2 hP
      cases hz : szB L.length j with
      | true =>
        have hn2 : szB L.length (j + 1) = true := by rw [hn.out, hz, Bool.true_or]
        have HN := Lib.hid hn2
        clear hn2
        go_wp2_with fail
        go_roundw
        case rel => exact ⟨j + 1, P * 2, by omega, HP2.out, by go_num, by rw [HN.out], trivial⟩
        case measure => simp [intOf]; omega
      | false =>
        by_cases he : L.length = P
        · have hn2 : szB L.length (j + 1) = true := by rw [hn.out, hz, decide_eq_true he]; rfl
          have HN := Lib.hid hn2
          have e1 : ((L.length : Int) == (P : Int)) = true := by rw [he]; simp
          clear hn2 he
          go_wp2_with fail
          go_roundw
          case rel => exact ⟨j + 1, P * 2, by omega, HP2.out, by go_num, by rw [HN.out], trivial⟩
          case measure => simp [intOf]; omega
        · have hn2 : szB L.length (j + 1) = false := by rw [hn.out, hz, decide_eq_false he]; rfl
          have HN := Lib.hid hn2
          have e1 : ((L.length : Int) == (P : Int)) = false := by simp; omega
          clear hn2 he
          go_wp2_with fail
          go_roundw
          case rel => exact ⟨j + 1, P * 2, by omega, HP2.out, by go_num, by rw [HN.out], trivial⟩
          case measure => simp [intOf]; omega
    · obtain rfl : j = 8 := by omega
      obtain rfl : P = 256 := hP
      rw [h0]
      clear hj hlt
      go_wp2_with fail
      go_loopw [5, 6] (fun t i wr => ∃ m : Nat, m ≤ L.length ∧ i = .int .i64 m ∧ t = .bool false ∧ w.alloc (.cells #[.int .i64 k, .slice A L.length c, .string x, .int .i64 d] 24) = wr) (fun _ i _ => L.length - (intOf i).toNat)
      case atStart => exact ⟨0, by omega, rfl, by first | rfl | rw [decide_eq_false (by omega)], rfl⟩
      case round =>
        obtain ⟨m, hm, rfl, rfl, rfl⟩ := hrel
        by_cases hlt : m < L.length
        · have g1 : (m : Int) < (L.length : Int) := by omega
          go_wp2_with fail
          go_roundw
          case rel => exact ⟨m + 1, by omega, by go_num, rfl, trivial⟩
          case measure => simp [intOf]; omega
        · have g1 : ¬ (m : Int) < (L.length : Int) := by omega
          go_wp2_with fail
          go_ret
          exact ⟨rfl, (Below.refl _ _).alloc (Nat.le_refl _) _⟩
set_option maxRecDepth 100000 in
set_option maxHeartbeats 1600000 in
theorem rcheck_6 (k : Int) (A : Option Addr) (c : Nat) (L : List Int) (x : ByteArray) (d : Int) (w : World) (hl : L.length ≤ 300) (h0 : szB L.length 8 = true) (h1 : 0 ≤ k) (h2 : k ≤ 126) (h3 : k % 2 = 0) (h4 : 4 ≤ (x.size : Int)) (h5 : (x.size : Int) ≤ 52) (h6 : ¬ 0 ≤ d) :
    Calls Try.prog 15 #[.agg #[.int .i64 k, .slice A L.length c, .string x, .int .i64 d]] w fun e w' => e = .returned (.int .i64 110) ∧ Below w.heap.size w w' := by
  have q1 : Int.tmod k 2 = k % 2 := Int.tmod_eq_emod_of_nonneg h1
  have q2 : (k % 2 == 0) = true := by simpa using h3
  clear h3
  have _ := hl
  go_enter Try.func15, Try.ntmps15
  go_wp2_with fail
  go_loopw [3, 4] (fun t i wr => ∃ j P : Nat, j ≤ 8 ∧ P = 2 ^ j ∧ i = .int .i64 P ∧ t = .bool (szB L.length j) ∧ w.alloc (.cells #[.int .i64 k, .slice A L.length c, .string x, .int .i64 d] 24) = wr) (fun _ i _ => 256 - (intOf i).toNat)
  case atStart => exact ⟨0, 1, by omega, rfl, rfl, rfl, rfl⟩
  case round =>
    obtain ⟨j, P, hj, hP, rfl, rfl, rfl⟩ := hrel
    by_cases hlt : j < 8
    · have hP2 : P * 2 = 2 ^ (j + 1) := by rw [hP, Nat.pow_succ]
      have hP1 : 1 ≤ P ∧ P ≤ 128 := pow_low hlt hP
      have hn := Lib.hid (szB_next L.length j)
      rw [← hP] at hn
      have g1 : (P : Int) ≤ 128 := by omega
      have g2 : IntKind.i64.wrap ((P : Int) * 2) = (P : Int) * 2 := IntWalk.i64_in _ (by omega)
      have HP2 := Lib.hid hP2
      clear hP2 hP
      cases hz : szB L.length j with
      | true =>
        have hn2 : szB L.length (j + 1) = true := by rw [hn.out, hz, Bool.true_or]
        have HN := Lib.hid hn2
        clear hn2
        go_wp2_with fail
        go_roundw
        case rel => exact ⟨j + 1, P * 2, by omega, HP2.out, by go_num, by rw [HN.out], trivial⟩
        case measure => simp [intOf]; omega
      | false =>
        by_cases he : L.length = P
        · have hn2 : szB L.length (j + 1) = true := by rw [hn.out, hz, decide_eq_true he]; rfl
          have HN := Lib.hid hn2
          have e1 : ((L.length : Int) == (P : Int)) = true := by rw [he]; simp
          clear hn2 he
          go_wp2_with fail
          go_roundw
          case rel => exact ⟨j + 1, P * 2, by omega, HP2.out, by go_num, by rw [HN.out], trivial⟩
          case measure => simp [intOf]; omega
        · have hn2 : szB L.length (j + 1) = false := by rw [hn.out, hz, decide_eq_false he]; rfl
          have HN := Lib.hid hn2
          have e1 : ((L.length : Int) == (P : Int)) = false := by simp; omega
          clear hn2 he
          go_wp2_with fail
          go_roundw
          case rel => exact ⟨j + 1, P * 2, by omega, HP2.out, by go_num, by rw [HN.out], trivial⟩
          case measure => simp [intOf]; omega
    · obtain rfl : j = 8 := by omega
      obtain rfl : P = 256 := hP
      rw [h0]
      clear hj hlt
      go_wp2_with fail
      go_loopw [5, 6] (fun t i wr => ∃ m : Nat, m ≤ L.length ∧ i = .int .i64 m ∧ t = .bool false ∧ w.alloc (.cells #[.int .i64 k, .slice A L.length c, .string x, .int .i64 d] 24) = wr) (fun _ i _ => L.length - (intOf i).toNat)
      case atStart => exact ⟨0, by omega, rfl, by first | rfl | rw [decide_eq_false (by omega)], rfl⟩
      case round =>
        obtain ⟨m, hm, rfl, rfl, rfl⟩ := hrel
        by_cases hlt : m < L.length
        · have g1 : (m : Int) < (L.length : Int) := by omega
          go_wp2_with fail
          go_roundw
          case rel => exact ⟨m + 1, by omega, by go_num, rfl, trivial⟩
          case measure => simp [intOf]; omega
        · have g1 : ¬ (m : Int) < (L.length : Int) := by omega
          go_wp2_with fail
          go_ret
          exact ⟨rfl, (Below.refl _ _).alloc (Nat.le_refl _) _⟩
set_option maxRecDepth 100000 in
set_option maxHeartbeats 1600000 in
theorem rcheck_7 (k : Int) (A : Option Addr) (c : Nat) (L : List Int) (x : ByteArray) (d : Int) (w : World) (hl : L.length ≤ 300) (h0 : szB L.length 8 = true) (h1 : 0 ≤ k) (h2 : k ≤ 126) (h3 : k % 2 = 0) (h4 : 4 ≤ (x.size : Int)) (h5 : (x.size : Int) ≤ 52) (h6 : 0 ≤ d) (h7 : ¬ d ≤ 7) :
    Calls Try.prog 15 #[.agg #[.int .i64 k, .slice A L.length c, .string x, .int .i64 d]] w fun e w' => e = .returned (.int .i64 110) ∧ Below w.heap.size w w' := by
  have q1 : Int.tmod k 2 = k % 2 := Int.tmod_eq_emod_of_nonneg h1
  have q2 : (k % 2 == 0) = true := by simpa using h3
  clear h3
  have _ := hl
  go_enter Try.func15, Try.ntmps15
  go_wp2_with fail
  go_loopw [3, 4] (fun t i wr => ∃ j P : Nat, j ≤ 8 ∧ P = 2 ^ j ∧ i = .int .i64 P ∧ t = .bool (szB L.length j) ∧ w.alloc (.cells #[.int .i64 k, .slice A L.length c, .string x, .int .i64 d] 24) = wr) (fun _ i _ => 256 - (intOf i).toNat)
  case atStart => exact ⟨0, 1, by omega, rfl, rfl, rfl, rfl⟩
  case round =>
    obtain ⟨j, P, hj, hP, rfl, rfl, rfl⟩ := hrel
    by_cases hlt : j < 8
    · have hP2 : P * 2 = 2 ^ (j + 1) := by rw [hP, Nat.pow_succ]
      have hP1 : 1 ≤ P ∧ P ≤ 128 := pow_low hlt hP
      have hn := Lib.hid (szB_next L.length j)
      rw [← hP] at hn
      have g1 : (P : Int) ≤ 128 := by omega
      have g2 : IntKind.i64.wrap ((P : Int) * 2) = (P : Int) * 2 := IntWalk.i64_in _ (by omega)
      have HP2 := Lib.hid hP2
      clear hP2 hP
      cases hz : szB L.length j with
      | true =>
        have hn2 : szB L.length (j + 1) = true := by rw [hn.out, hz, Bool.true_or]
        have HN := Lib.hid hn2
        clear hn2
        go_wp2_with fail
        go_roundw
        case rel => exact ⟨j + 1, P * 2, by omega, HP2.out, by go_num, by rw [HN.out], trivial⟩
        case measure => simp [intOf]; omega
      | false =>
        by_cases he : L.length = P
        · have hn2 : szB L.length (j + 1) = true := by rw [hn.out, hz, decide_eq_true he]; rfl
          have HN := Lib.hid hn2
          have e1 : ((L.length : Int) == (P : Int)) = true := by rw [he]; simp
          clear hn2 he
          go_wp2_with fail
          go_roundw
          case rel => exact ⟨j + 1, P * 2, by omega, HP2.out, by go_num, by rw [HN.out], trivial⟩
          case measure => simp [intOf]; omega
        · have hn2 : szB L.length (j + 1) = false := by rw [hn.out, hz, decide_eq_false he]; rfl
          have HN := Lib.hid hn2
          have e1 : ((L.length : Int) == (P : Int)) = false := by simp; omega
          clear hn2 he
          go_wp2_with fail
          go_roundw
          case rel => exact ⟨j + 1, P * 2, by omega, HP2.out, by go_num, by rw [HN.out], trivial⟩
          case measure => simp [intOf]; omega
    · obtain rfl : j = 8 := by omega
      obtain rfl : P = 256 := hP
      rw [h0]
      clear hj hlt
      go_wp2_with fail
      go_loopw [5, 6] (fun t i wr => ∃ m : Nat, m ≤ L.length ∧ i = .int .i64 m ∧ t = .bool false ∧ w.alloc (.cells #[.int .i64 k, .slice A L.length c, .string x, .int .i64 d] 24) = wr) (fun _ i _ => L.length - (intOf i).toNat)
      case atStart => exact ⟨0, by omega, rfl, by first | rfl | rw [decide_eq_false (by omega)], rfl⟩
      case round =>
        obtain ⟨m, hm, rfl, rfl, rfl⟩ := hrel
        by_cases hlt : m < L.length
        · have g1 : (m : Int) < (L.length : Int) := by omega
          go_wp2_with fail
          go_roundw
          case rel => exact ⟨m + 1, by omega, by go_num, rfl, trivial⟩
          case measure => simp [intOf]; omega
        · have g1 : ¬ (m : Int) < (L.length : Int) := by omega
          go_wp2_with fail
          go_ret
          exact ⟨rfl, (Below.refl _ _).alloc (Nat.le_refl _) _⟩
set_option maxRecDepth 100000 in
set_option maxHeartbeats 1600000 in
theorem rcheck_8 (k : Int) (A : Option Addr) (c : Nat) (L : List Int) (x : ByteArray) (d : Int) (w : World) (hT : Tab A L w) (hl : L.length ≤ 300) (h0 : szB L.length 8 = true) (h1 : 0 ≤ k) (h2 : k ≤ 126) (h3 : k % 2 = 0) (h4 : 4 ≤ (x.size : Int)) (h5 : (x.size : Int) ≤ 52) (h6 : 0 ≤ d) (h7 : d ≤ 7) :
    Calls Try.prog 15 #[.agg #[.int .i64 k, .slice A L.length c, .string x, .int .i64 d]] w fun e w' => e = .returned (.int .i64 (if L.all quB = true then 0 else 110)) ∧ Below w.heap.size w w' := by
  have q1 : Int.tmod k 2 = k % 2 := Int.tmod_eq_emod_of_nonneg h1
  have q2 : (k % 2 == 0) = true := by simpa using h3
  clear h3
  have HT := Lib.hid hT
  clear hT
  go_enter Try.func15, Try.ntmps15
  go_wp2_with fail
  go_loopw [3, 4] (fun t i wr => ∃ j P : Nat, j ≤ 8 ∧ P = 2 ^ j ∧ i = .int .i64 P ∧ t = .bool (szB L.length j) ∧ w.alloc (.cells #[.int .i64 k, .slice A L.length c, .string x, .int .i64 d] 24) = wr) (fun _ i _ => 256 - (intOf i).toNat)
  case atStart => exact ⟨0, 1, by omega, rfl, rfl, rfl, rfl⟩
  case round =>
    obtain ⟨j, P, hj, hP, rfl, rfl, rfl⟩ := hrel
    by_cases hlt : j < 8
    · have hP2 : P * 2 = 2 ^ (j + 1) := by rw [hP, Nat.pow_succ]
      have hP1 : 1 ≤ P ∧ P ≤ 128 := pow_low hlt hP
      have hn := Lib.hid (szB_next L.length j)
      rw [← hP] at hn
      have g1 : (P : Int) ≤ 128 := by omega
      have g2 : IntKind.i64.wrap ((P : Int) * 2) = (P : Int) * 2 := IntWalk.i64_in _ (by omega)
      have HP2 := Lib.hid hP2
      clear hP2 hP
      cases hz : szB L.length j with
      | true =>
        have hn2 : szB L.length (j + 1) = true := by rw [hn.out, hz, Bool.true_or]
        have HN := Lib.hid hn2
        clear hn2
        go_wp2_with fail
        go_roundw
        case rel => exact ⟨j + 1, P * 2, by omega, HP2.out, by go_num, by rw [HN.out], trivial⟩
        case measure => simp [intOf]; omega
      | false =>
        by_cases he : L.length = P
        · have hn2 : szB L.length (j + 1) = true := by rw [hn.out, hz, decide_eq_true he]; rfl
          have HN := Lib.hid hn2
          have e1 : ((L.length : Int) == (P : Int)) = true := by rw [he]; simp
          clear hn2 he
          go_wp2_with fail
          go_roundw
          case rel => exact ⟨j + 1, P * 2, by omega, HP2.out, by go_num, by rw [HN.out], trivial⟩
          case measure => simp [intOf]; omega
        · have hn2 : szB L.length (j + 1) = false := by rw [hn.out, hz, decide_eq_false he]; rfl
          have HN := Lib.hid hn2
          have e1 : ((L.length : Int) == (P : Int)) = false := by simp; omega
          clear hn2 he
          go_wp2_with fail
          go_roundw
          case rel => exact ⟨j + 1, P * 2, by omega, HP2.out, by go_num, by rw [HN.out], trivial⟩
          case measure => simp [intOf]; omega
    · obtain rfl : j = 8 := by omega
      obtain rfl : P = 256 := hP
      rw [h0]
      clear hj hlt
      go_wp2_with fail
      go_loopw [5, 6] (fun t i wr => ∃ m : Nat, m ≤ L.length ∧ i = .int .i64 m ∧ t = .bool ((L.take m).all quB) ∧ w.alloc (.cells #[.int .i64 k, .slice A L.length c, .string x, .int .i64 d] 24) = wr) (fun _ i _ => L.length - (intOf i).toNat)
      case atStart => exact ⟨0, by omega, rfl, rfl, rfl⟩
      case round =>
        obtain ⟨m, hm, rfl, rfl, rfl⟩ := hrel
        by_cases hlt : m < L.length
        · have g1 : (m : Int) < (L.length : Int) := by omega
          have hn := Lib.hid (all_next L m hlt)
          cases hz : (L.take m).all quB with
          | false =>
            have hn2 : (L.take (m + 1)).all quB = false := by rw [hn.out, hz, Bool.false_and]
            have HN := Lib.hid hn2
            clear hn2
            go_wp2_with fail
            go_roundw
            case rel => exact ⟨m + 1, by omega, by go_num, by rw [HN.out], trivial⟩
            case measure => simp [intOf]; omega
          | true =>
            obtain ⟨b, off, y, rfl, hx, hc⟩ := (HT.out.below ((Below.refl _ _).alloc (Nat.le_refl _) (.cells #[.int .i64 k, .slice A L.length c, .string x, .int .i64 d] 24))).at m hlt
            rw [hx, hz] at hn
            by_cases y0 : 0 ≤ y
            · by_cases y7 : y ≤ 7
              · have hn2 : (L.take (m + 1)).all quB = true := by rw [hn.out, quB, decide_eq_true y0, decide_eq_true (show y < 8 by omega)]; rfl
                have HN := Lib.hid hn2
                clear hn2 hn hx
                go_wp2_with fail
                go_roundw
                case rel => exact ⟨m + 1, by omega, by go_num, by rw [HN.out], trivial⟩
                case measure => simp [intOf]; omega
              · have hn2 : (L.take (m + 1)).all quB = false := by rw [hn.out, quB, decide_eq_false (show ¬ y < 8 by omega), Bool.and_false, Bool.and_false]
                have HN := Lib.hid hn2
                clear hn2 hn hx
                go_wp2_with fail
                go_roundw
                case rel => exact ⟨m + 1, by omega, by go_num, by rw [HN.out], trivial⟩
                case measure => simp [intOf]; omega
            · have hn2 : (L.take (m + 1)).all quB = false := by rw [hn.out, quB, decide_eq_false y0, Bool.false_and, Bool.and_false]
              have HN := Lib.hid hn2
              clear hn2 hn hx
              go_wp2_with fail
              go_roundw
              case rel => exact ⟨m + 1, by omega, by go_num, by rw [HN.out], trivial⟩
              case measure => simp [intOf]; omega
        · have g1 : ¬ (m : Int) < (L.length : Int) := by omega
          obtain rfl : m = L.length := by omega
          rw [List.take_length]
          cases hz : L.all quB with
          | false =>
            go_wp2_with fail
            go_ret
            exact ⟨rfl, (Below.refl _ _).alloc (Nat.le_refl _) _⟩
          | true =>
            go_wp2_with fail
            go_ret
            exact ⟨rfl, (Below.refl _ _).alloc (Nat.le_refl _) _⟩
theorem kinds_low : ∀ n : Fin 127, kindsB (n.val : Int) = decide (n.val % 2 = 0) := by decide +kernel
theorem pow_same : ∀ n : Fin 301, (fromB (n.val : Int) 128 && powB n.val) = szB n.val 8 := by decide +kernel
theorem kinds_is (k : Int) (h0 : -9223372036854775808 ≤ k) (h1 : k ≤ 9223372036854775807) : kindsB k = (decide (0 ≤ k) && decide (k ≤ 126) && decide (k % 2 = 0)) := by
  by_cases hr : 0 ≤ k ∧ k ≤ 126
  · have := kinds_low ⟨k.toNat, by omega⟩
    have e : ((k.toNat : Nat) : Int) = k := by omega
    simp only [e] at this
    rw [this, decide_eq_true hr.1, decide_eq_true hr.2, Bool.true_and, Bool.true_and]
    exact decide_eq_decide.2 (by omega)
  · have e : kindsB k = false := by
      cases hb : kindsB k with
      | false => rfl
      | true =>
        exfalso
        have h2 : bits .andNot .i64 k 126 = 0 := by simpa [kindsB] using hb
        have h3 : IntKind.i64.wrap (((BitVec.ofInt 64 k &&& ~~~BitVec.ofInt 64 126).toNat : Nat) : Int) = 0 := h2
        rw [IntKind.wrap_i64] at h3
        generalize hX : BitVec.ofInt 64 k = X at h3
        have hlt := (X &&& ~~~BitVec.ofInt 64 126).isLt
        have h4 : (X &&& ~~~BitVec.ofInt 64 126).toNat = 0 := by omega
        have h5 : X &&& ~~~BitVec.ofInt 64 126 = 0 := BitVec.eq_of_toNat_eq (by rw [h4]; rfl)
        have h6 : X = X &&& BitVec.ofInt 64 126 := by
          apply BitVec.eq_of_getLsbD_eq
          intro i hi
          have h7 : (X &&& ~~~BitVec.ofInt 64 126).getLsbD i = false := by rw [h5]; simp
          rw [BitVec.getLsbD_and, BitVec.getLsbD_not, decide_eq_true hi, Bool.true_and] at h7
          rw [BitVec.getLsbD_and]
          cases hx : X.getLsbD i
          · simp
          · rw [hx, Bool.true_and] at h7
            simpa using h7
        have h8 : X.toNat ≤ 126 := by
          rw [h6, BitVec.toNat_and]
          exact Nat.and_le_right
        have h9 : X.toNat = (k % ((2 ^ 64 : Nat) : Int)).toNat := by rw [← hX, BitVec.toNat_ofInt]
        omega
    rw [e]
    by_cases h : 0 ≤ k
    · rw [decide_eq_false (show ¬ k ≤ 126 by omega), Bool.and_false, Bool.false_and]
    · rw [decide_eq_false h, Bool.false_and, Bool.false_and]
theorem rules_is (k : Int) (L : List Int) (x : ByteArray) (d : Int) (hl : L.length ≤ 300) (h0 : -9223372036854775808 ≤ k) (h1 : k ≤ 9223372036854775807) :
    rulesB k L x d = true ↔ szB L.length 8 = true ∧ 0 ≤ k ∧ k ≤ 126 ∧ k % 2 = 0 ∧ 4 ≤ (x.size : Int) ∧ (x.size : Int) ≤ 52 ∧ 0 ≤ d ∧ d ≤ 7 ∧ L.all quB = true := by
  have hp := pow_same ⟨L.length, by omega⟩
  simp only at hp
  rw [rulesB, kinds_is k h0 h1, tabB, hp, keyB, quB]
  simp only [Bool.and_eq_true, decide_eq_true_eq]
  constructor
  · rintro ⟨⟨⟨⟨⟨a, b⟩, c⟩, e, f⟩, g, h⟩, i, j⟩
    exact ⟨e, a, b, c, by omega, by omega, i, by omega, f⟩
  · rintro ⟨e, a, b, c, g, h, i, j, f⟩
    exact ⟨⟨⟨⟨⟨a, b⟩, c⟩, e, f⟩, by omega, by omega⟩, i, by omega⟩
theorem rcheck_any (k : Int) (A : Option Addr) (c : Nat) (L : List Int) (x : ByteArray) (d : Int) (w : World) (hT : Tab A L w) (hl : L.length ≤ 300) (k0 : -9223372036854775808 ≤ k) (k1 : k ≤ 9223372036854775807) :
    Calls Try.prog 15 #[.agg #[.int .i64 k, .slice A L.length c, .string x, .int .i64 d]] w fun e w' => e = .returned (.int .i64 (checkV k L x d)) ∧ Below w.heap.size w w' := by
  have hr := rules_is k L x d hl k0 k1
  have no : ∀ h : ¬ rulesB k L x d = true, checkV k L x d = 110 := fun h => by rw [checkV, if_neg h]
  by_cases h0 : szB L.length 8 = true
  · by_cases h1 : 0 ≤ k
    · by_cases h2 : k ≤ 126
      · by_cases h3 : k % 2 = 0
        · by_cases h4 : 4 ≤ (x.size : Int)
          · by_cases h5 : (x.size : Int) ≤ 52
            · by_cases h6 : 0 ≤ d
              · by_cases h7 : d ≤ 7
                · have e : checkV k L x d = if L.all quB = true then 0 else 110 := by
                    by_cases h8 : L.all quB = true
                    · rw [if_pos h8, checkV, if_pos (hr.2 ⟨h0, h1, h2, h3, h4, h5, h6, h7, h8⟩)]
                    · rw [if_neg h8, no (fun h => h8 (hr.1 h).2.2.2.2.2.2.2.2)]
                  rw [e]
                  exact rcheck_8 k A c L x d w hT hl h0 h1 h2 h3 h4 h5 h6 h7
                · rw [no (fun h => h7 (hr.1 h).2.2.2.2.2.2.2.1)]
                  exact rcheck_7 k A c L x d w hl h0 h1 h2 h3 h4 h5 h6 h7
              · rw [no (fun h => h6 (hr.1 h).2.2.2.2.2.2.1)]
                exact rcheck_6 k A c L x d w hl h0 h1 h2 h3 h4 h5 h6
            · rw [no (fun h => h5 (hr.1 h).2.2.2.2.2.1)]
              exact rcheck_5 k A c L x d w hl h0 h1 h2 h3 h4 h5
          · rw [no (fun h => h4 (hr.1 h).2.2.2.2.1)]
            exact rcheck_4 k A c L x d w hl h0 h1 h2 h3 h4
        · rw [no (fun h => h3 (hr.1 h).2.2.2.1)]
          exact rcheck_3 k A c L x d w hl h0 h1 h2 h3
      · rw [no (fun h => h2 (hr.1 h).2.2.1)]
        exact rcheck_2 k A c L x d w hl h0 h1 h2
    · rw [no (fun h => h1 (hr.1 h).2.1)]
      exact rcheck_1 k A c L x d w hl h0 h1
  · rw [no (fun h => h0 (hr.1 h).1)]
    exact rcheck_0 k A c L x d w hl (by simpa using h0)
end Go.Proofs.Ytpjndjmneficbaa
