/-
  RssEven: an even table may stand in rules, if its size may be; each queue stands in it as often as any other one, but for one.
-/
import Derived.Test.YtpjndjmneficbaaWfr
import Derived.Test.YtpjndjmneficbaaRfx
import Derived.Test.YtpjndjmneficbaaThash
namespace Go.Proofs.Ytpjndjmneficbaa
open Go.Joins Go.ChangeShapes Go.WideShapes Go.ChangeAt Go.RowKit Go.Deep
open Go.ChangeMaps (open_string)

/-- how often queue j stands among the first k -/
def cnt (q k j : Nat) : Nat := if j < q then (k + (q - 1 - j)) / q else 0
def cntL (q k : Nat) : List Int := (List.range 8).map fun j => ((cnt q k j : Nat) : Int)
theorem eight {q : Nat} (h1 : 1 ≤ q) (h2 : q ≤ 8) : q = 1 ∨ q = 2 ∨ q = 3 ∨ q = 4 ∨ q = 5 ∨ q = 6 ∨ q = 7 ∨ q = 8 := by omega
theorem cnt_zero (q j : Nat) (h1 : 1 ≤ q) (h2 : q ≤ 8) : cnt q 0 j = 0 := by
  unfold cnt
  split
  · rcases eight h1 h2 with rfl | rfl | rfl | rfl | rfl | rfl | rfl | rfl <;> omega
  · rfl
theorem cnt_next (q k j : Nat) (h1 : 1 ≤ q) (h2 : q ≤ 8) : cnt q (k + 1) j = if k % q = j then cnt q k j + 1 else cnt q k j := by
  unfold cnt
  rcases eight h1 h2 with rfl | rfl | rfl | rfl | rfl | rfl | rfl | rfl <;> (split <;> split <;> omega)
theorem cnt_down (q k i : Nat) (h1 : 1 ≤ q) (h2 : q ≤ 8) (hi : 1 ≤ i) (hq : i < q) : cnt q k i ≤ cnt q k (i - 1) ∧ cnt q k 0 ≤ cnt q k i + 1 := by
  unfold cnt
  rw [if_pos hq, if_pos (by omega), if_pos (by omega)]
  rcases eight h1 h2 with rfl | rfl | rfl | rfl | rfl | rfl | rfl | rfl <;> omega
theorem cnt_le (q k j : Nat) (h1 : 1 ≤ q) (h2 : q ≤ 8) : cnt q k j ≤ k + 8 := by
  unfold cnt
  split
  · rcases eight h1 h2 with rfl | rfl | rfl | rfl | rfl | rfl | rfl | rfl <;> omega
  · omega
theorem cntL_length (q k : Nat) : (cntL q k).length = 8 := by simp [cntL]
theorem cntL_get (q k j : Nat) (h : j < (cntL q k).length) : (cntL q k)[j] = ((cnt q k j : Nat) : Int) := by simp [cntL]
theorem cntL_zero (q : Nat) (h1 : 1 ≤ q) (h2 : q ≤ 8) : cntL q 0 = List.replicate 8 0 := by
  apply List.ext_getElem
  · simp [cntL]
  · intro i hi _
    rw [cntL_get, cnt_zero q i h1 h2, List.getElem_replicate]
    rfl
theorem cntL_next (q k : Nat) (h1 : 1 ≤ q) (h2 : q ≤ 8) : (cntL q k).set (k % q) ((cnt q k (k % q) : Nat) + 1 : Int) = cntL q (k + 1) := by
  apply List.ext_getElem
  · simp [cntL]
  · intro i hi hi2
    rw [List.getElem_set, cntL_get _ _ _ hi2, cnt_next q k i h1 h2]
    by_cases e : k % q = i
    · rw [if_pos e, if_pos e, e]; simp
    · rw [if_neg e, if_neg e, cntL_get]
theorem evenL_all (n q : Nat) (h1 : 1 ≤ q) (h2 : q ≤ 8) : (evenL n q).all quB = true := by
  rw [List.all_eq_true]
  intro x hx
  simp only [evenL, List.mem_map] at hx
  obtain ⟨i, _, rfl⟩ := hx
  have := Nat.mod_lt i (show 0 < q by omega)
  simp only [quB, Bool.and_eq_true, decide_eq_true_eq]
  omega
theorem even_rules (n q : Nat) (n1 : 1 ≤ n) (n2 : n ≤ 128) (h1 : 1 ≤ q) (h2 : q ≤ 8) : rulesB 0 (evenL n q) ⟨#[97, 98, 99, 100]⟩ 0 = powB n := by
  have e1 : kindsB 0 = true := by decide +kernel
  have e2 : keyB ⟨#[97, 98, 99, 100]⟩ = true := by decide +kernel
  have e3 : quB 0 = true := by decide
  have e4 : fromB (n : Int) 128 = true := by simp [fromB]; omega
  rw [rulesB, e1, e2, e3, tabB, evenL_length, e4, evenL_all n q h1 h2]
  simp
theorem low7 (n : Int) : bits .and .i64 n 127 = n % 128 := by
  have e : (BitVec.ofInt 64 127).toNat = 2 ^ 7 - 1 := by decide
  have k : (BitVec.ofInt 64 n &&& BitVec.ofInt 64 127).toNat = (n % ((2 ^ 64 : Nat) : Int)).toNat % 2 ^ 7 := by
    rw [BitVec.toNat_and, BitVec.toNat_ofInt, e, Nat.and_two_pow_sub_one_eq_mod]
  show IntKind.i64.wrap ((BitVec.ofInt 64 n &&& BitVec.ofInt 64 127).toNat : Nat) = n % 128
  rw [k, IntKind.wrap_i64]
  omega
set_option maxRecDepth 100000 in
set_option maxHeartbeats 3200000 in
theorem rssEven_yes (size queues a b : Int) (n q : Nat) (e1 : bits .and .i64 size 127 = a) (e2 : bits .and .i64 queues 7 = b) (e3 : IntKind.i64.wrap (1 + a) = (n : Int)) (e4 : IntKind.i64.wrap (1 + b) = (q : Int)) (n1 : 1 ≤ n) (n2 : n ≤ 128) (q1 : 1 ≤ q) (q2 : q ≤ 8) (w : World) (hp : (bits .and .i64 (n : Int) ((n : Int) - 1) == 0) = true)
    (A14 : ∀ W, Tab (some ⟨w.heap.size, 0, none⟩) (evenL n q) W → Calls Try.prog 14 #[.agg #[.int .i64 0, .slice (some ⟨w.heap.size, 0, none⟩) n n, .string ⟨#[97, 98, 99, 100]⟩, .int .i64 0]] W fun e w' => e = .returned (.int .i64 0) ∧ Below W.heap.size W w') :
    Calls Try.prog 6 #[.int .i64 size, .int .i64 queues] w fun e w' => e = .returned (.bool true) ∧ Below w.heap.size w w' := by
  have H14 := Lib.hid A14
  have HP := Lib.hid hp
  clear A14 hp
  obtain ⟨i0, hi, hz0, hz1, hz2⟩ := info_parts Try.info3
  have HI := Lib.hid hi
  have HZ0 := Lib.hid hz0
  have HZ1 := Lib.hid hz1
  have HZ2 := Lib.hid hz2
  clear hi hz0 hz1 hz2
  go_enter Try.func6, Try.ntmps6
  go_wp2_with fail
  refine (even_good n q w n1 n2 q1 q2).mono ?_
  rintro e w1 ⟨rfl, hl⟩
  have HL := Lib.hid hl
  clear hl e1 e2 e3 e4
  go_wp2_with (at_make; refine wpList_make_full _ rfl (.const (.int .i64 8)) (.const (.int .i64 8)) 22 rfl w1.heap.size 3 i0 (.int .i64 0) 1 Try.underlying22 HI.out HZ0.out HZ1.out .i64 .i64 8 8 8 rfl rfl rfl rfl (by rw [HZ2.out]; omega) (by unfold maxLen; omega) (Nat.le_refl _) ?_; intro w2 hrow hgrow)
  have hst := GI.made hrow hgrow
  rw [← cntL_zero q q1 q2] at hst
  clear hrow hgrow
  go_loopw [9] (fun i wr => ∃ k : Nat, k ≤ n ∧ i = .int .i64 k ∧ GI w1.heap.size w1.heap.size 8 8 (cntL q k) w1 wr) (fun i _ => n - (intOf i).toNat)
  case atStart => exact ⟨0, Nat.zero_le _, rfl, hst⟩
  case round =>
    obtain ⟨k, hk, rfl, hc⟩ := hrel
    clear hst
    have hlr := HL.out.kept hc.below
    by_cases hlt : k < n
    · have g1 : (k : Int) < (n : Int) := by omega
      have c1 := hlr.cell k (by rw [evenL_length]; exact hlt)
      rw [evenL_get] at c1
      have hm8 : k % q < 8 := Nat.lt_of_lt_of_le (Nat.mod_lt _ (by omega)) q2
      have hmq : ((k % q : Nat) : Int) < (q : Int) := by have := Nat.mod_lt k (show 0 < q by omega); omega
      have c2 := hc.cell (k % q) (by rw [cntL_length]; exact hm8)
      rw [cntL_get] at c2
      have f2 := hc.free (k % q)
      have hs0 := hc.set (k % q) ((cnt q k (k % q) : Nat) + 1 : Int)
      rw [cntL_next q k q1 q2] at hs0
      have hx := cnt_le q k (k % q) q1 q2
      have HS := Lib.hid hs0
      clear hs0 hc hlr
      generalize cnt q k (k % q) = x at *
      generalize k % q = m at *
      have g2 : IntKind.i64.wrap ((x : Int) + 1) = (x : Int) + 1 := IntWalk.i64_in _ (by omega)
      go_wp2_with fail
      go_roundw
      case rel => exact ⟨k + 1, by omega, by go_num, HS.out⟩
      case measure => simp [intOf]; omega
    · obtain rfl : k = n := by omega
      have g1 : ¬ (k : Int) < (k : Int) := by omega
      have hc0 := Lib.hid hc
      clear hc hlr
      go_wp2_with fail
      go_loopw [10] (fun i wr' => ∃ j : Nat, 1 ≤ j ∧ j ≤ 8 ∧ i = .int .i64 j ∧ GI w1.heap.size w1.heap.size 8 8 (cntL q k) w1 wr') (fun i _ => 8 - (intOf i).toNat)
      case atStart => exact ⟨1, by omega, by omega, rfl, hc0.out⟩
      case round =>
        obtain ⟨j, hj1, hj2, rfl, hc⟩ := hrel
        by_cases hjq : j < q
        · have g2 : (j : Int) < (q : Int) := by omega
          have c1 := hc.cell j (by rw [cntL_length]; omega)
          have c2 := hc.cell (j - 1) (by rw [cntL_length]; omega)
          have c3 := hc.cell 0 (by rw [cntL_length]; omega)
          rw [cntL_get] at c1 c2 c3
          obtain ⟨d1, d2⟩ := cnt_down q k j q1 q2 hj1 hjq
          have d3 := cnt_le q k 0 q1 q2
          have d4 := cnt_le q k j q1 q2
          generalize cnt q k j = x at *
          generalize cnt q k (j - 1) = y at *
          generalize cnt q k 0 = z at *
          obtain ⟨i, hi⟩ : ∃ i, j - 1 = i := ⟨_, rfl⟩
          rw [hi] at c2
          have g3 : IntKind.i64.wrap ((j : Int) - 1) = (i : Int) := by rw [IntWalk.i64_in _ (by omega)]; omega
          have g4 : IntKind.i64.wrap ((z : Int) - 1) = (z : Int) - 1 := IntWalk.i64_in _ (by omega)
          have g5 : ¬ (y : Int) < (x : Int) := by omega
          have g6 : ¬ (x : Int) < (z : Int) - 1 := by omega
          have g5n : decide (y < x) = false := decide_eq_false (by omega)
          have g5a : decide ((y : Int) < (x : Int)) = false := decide_eq_false g5
          have g6a : decide ((x : Int) < (z : Int) - 1) = false := decide_eq_false g6
          have g7 : (i : Int) < 8 := by omega
          have g8 : (j : Int) < 8 := by omega
          have HC := Lib.hid hc
          clear hc hi d1 d2 d3 d4
          go_wp2_with fail
          go_quiet (fail)
          go_wp2
          go_roundw
          case rel => exact ⟨j + 1, by omega, by omega, by go_num, HC.out.kept (below_drewN (Below.refl _ _) _)⟩
          case measure => simp [intOf]; omega
        · have g2 : ¬ (j : Int) < (q : Int) := by omega
          have hlr := HL.out.kept hc.below
          have hb : Below w.heap.size w wr := hlr.below
          have ht := hlr.tab
          clear hc hlr
          go_wp2_with fail
          refine (H14.out _ ht).mono ?_
          rintro e w3 ⟨rfl, hq⟩
          have hb := hb.trans (hq.mono hb.size)
          clear hq
          have hp := HP.out
          go_wp2_with fail
          refine (fixed_any _).mono ?_
          rintro e w4 ⟨rfl, hq⟩
          have hb := hb.trans (hq.mono hb.size)
          clear hq
          go_wp2_with fail
          go_ret
          exact ⟨rfl, hb⟩
set_option maxRecDepth 100000 in
set_option maxHeartbeats 3200000 in
theorem rssEven_no (size queues a b : Int) (n q : Nat) (e1 : bits .and .i64 size 127 = a) (e2 : bits .and .i64 queues 7 = b) (e3 : IntKind.i64.wrap (1 + a) = (n : Int)) (e4 : IntKind.i64.wrap (1 + b) = (q : Int)) (n1 : 1 ≤ n) (n2 : n ≤ 128) (q1 : 1 ≤ q) (q2 : q ≤ 8) (w : World) (hp : (bits .and .i64 (n : Int) ((n : Int) - 1) == 0) = false)
    (A14 : ∀ W, Tab (some ⟨w.heap.size, 0, none⟩) (evenL n q) W → Calls Try.prog 14 #[.agg #[.int .i64 0, .slice (some ⟨w.heap.size, 0, none⟩) n n, .string ⟨#[97, 98, 99, 100]⟩, .int .i64 0]] W fun e w' => e = .returned (.int .i64 110) ∧ Below W.heap.size W w') :
    Calls Try.prog 6 #[.int .i64 size, .int .i64 queues] w fun e w' => e = .returned (.bool true) ∧ Below w.heap.size w w' := by
  have H14 := Lib.hid A14
  have HP := Lib.hid hp
  clear A14 hp
  obtain ⟨i0, hi, hz0, hz1, hz2⟩ := info_parts Try.info3
  have HI := Lib.hid hi
  have HZ0 := Lib.hid hz0
  have HZ1 := Lib.hid hz1
  have HZ2 := Lib.hid hz2
  clear hi hz0 hz1 hz2
  go_enter Try.func6, Try.ntmps6
  go_wp2_with fail
  refine (even_good n q w n1 n2 q1 q2).mono ?_
  rintro e w1 ⟨rfl, hl⟩
  have HL := Lib.hid hl
  clear hl e1 e2 e3 e4
  go_wp2_with (at_make; refine wpList_make_full _ rfl (.const (.int .i64 8)) (.const (.int .i64 8)) 22 rfl w1.heap.size 3 i0 (.int .i64 0) 1 Try.underlying22 HI.out HZ0.out HZ1.out .i64 .i64 8 8 8 rfl rfl rfl rfl (by rw [HZ2.out]; omega) (by unfold maxLen; omega) (Nat.le_refl _) ?_; intro w2 hrow hgrow)
  have hst := GI.made hrow hgrow
  rw [← cntL_zero q q1 q2] at hst
  clear hrow hgrow
  go_loopw [9] (fun i wr => ∃ k : Nat, k ≤ n ∧ i = .int .i64 k ∧ GI w1.heap.size w1.heap.size 8 8 (cntL q k) w1 wr) (fun i _ => n - (intOf i).toNat)
  case atStart => exact ⟨0, Nat.zero_le _, rfl, hst⟩
  case round =>
    obtain ⟨k, hk, rfl, hc⟩ := hrel
    clear hst
    have hlr := HL.out.kept hc.below
    by_cases hlt : k < n
    · have g1 : (k : Int) < (n : Int) := by omega
      have c1 := hlr.cell k (by rw [evenL_length]; exact hlt)
      rw [evenL_get] at c1
      have hm8 : k % q < 8 := Nat.lt_of_lt_of_le (Nat.mod_lt _ (by omega)) q2
      have hmq : ((k % q : Nat) : Int) < (q : Int) := by have := Nat.mod_lt k (show 0 < q by omega); omega
      have c2 := hc.cell (k % q) (by rw [cntL_length]; exact hm8)
      rw [cntL_get] at c2
      have f2 := hc.free (k % q)
      have hs0 := hc.set (k % q) ((cnt q k (k % q) : Nat) + 1 : Int)
      rw [cntL_next q k q1 q2] at hs0
      have hx := cnt_le q k (k % q) q1 q2
      have HS := Lib.hid hs0
      clear hs0 hc hlr
      generalize cnt q k (k % q) = x at *
      generalize k % q = m at *
      have g2 : IntKind.i64.wrap ((x : Int) + 1) = (x : Int) + 1 := IntWalk.i64_in _ (by omega)
      go_wp2_with fail
      go_roundw
      case rel => exact ⟨k + 1, by omega, by go_num, HS.out⟩
      case measure => simp [intOf]; omega
    · obtain rfl : k = n := by omega
      have g1 : ¬ (k : Int) < (k : Int) := by omega
      have hc0 := Lib.hid hc
      clear hc hlr
      go_wp2_with fail
      go_loopw [10] (fun i wr' => ∃ j : Nat, 1 ≤ j ∧ j ≤ 8 ∧ i = .int .i64 j ∧ GI w1.heap.size w1.heap.size 8 8 (cntL q k) w1 wr') (fun i _ => 8 - (intOf i).toNat)
      case atStart => exact ⟨1, by omega, by omega, rfl, hc0.out⟩
      case round =>
        obtain ⟨j, hj1, hj2, rfl, hc⟩ := hrel
        by_cases hjq : j < q
        · have g2 : (j : Int) < (q : Int) := by omega
          have c1 := hc.cell j (by rw [cntL_length]; omega)
          have c2 := hc.cell (j - 1) (by rw [cntL_length]; omega)
          have c3 := hc.cell 0 (by rw [cntL_length]; omega)
          rw [cntL_get] at c1 c2 c3
          obtain ⟨d1, d2⟩ := cnt_down q k j q1 q2 hj1 hjq
          have d3 := cnt_le q k 0 q1 q2
          have d4 := cnt_le q k j q1 q2
          generalize cnt q k j = x at *
          generalize cnt q k (j - 1) = y at *
          generalize cnt q k 0 = z at *
          obtain ⟨i, hi⟩ : ∃ i, j - 1 = i := ⟨_, rfl⟩
          rw [hi] at c2
          have g3 : IntKind.i64.wrap ((j : Int) - 1) = (i : Int) := by rw [IntWalk.i64_in _ (by omega)]; omega
          have g4 : IntKind.i64.wrap ((z : Int) - 1) = (z : Int) - 1 := IntWalk.i64_in _ (by omega)
          have g5 : ¬ (y : Int) < (x : Int) := by omega
          have g6 : ¬ (x : Int) < (z : Int) - 1 := by omega
          have g5n : decide (y < x) = false := decide_eq_false (by omega)
          have g5a : decide ((y : Int) < (x : Int)) = false := decide_eq_false g5
          have g6a : decide ((x : Int) < (z : Int) - 1) = false := decide_eq_false g6
          have g7 : (i : Int) < 8 := by omega
          have g8 : (j : Int) < 8 := by omega
          have HC := Lib.hid hc
          clear hc hi d1 d2 d3 d4
          go_wp2_with fail
          go_quiet (fail)
          go_wp2
          go_roundw
          case rel => exact ⟨j + 1, by omega, by omega, by go_num, HC.out.kept (below_drewN (Below.refl _ _) _)⟩
          case measure => simp [intOf]; omega
        · have g2 : ¬ (j : Int) < (q : Int) := by omega
          have hlr := HL.out.kept hc.below
          have hb : Below w.heap.size w wr := hlr.below
          have ht := hlr.tab
          clear hc hlr
          go_wp2_with fail
          refine (H14.out _ ht).mono ?_
          rintro e w3 ⟨rfl, hq⟩
          have hb := hb.trans (hq.mono hb.size)
          clear hq
          have hp := HP.out
          go_wp2_with fail
          refine (fixed_any _).mono ?_
          rintro e w4 ⟨rfl, hq⟩
          have hb := hb.trans (hq.mono hb.size)
          clear hq
          go_wp2_with fail
          go_ret
          exact ⟨rfl, hb⟩
theorem rssEven_any (size queues : Int) (w : World) : Calls Try.prog 6 #[.int .i64 size, .int .i64 queues] w fun e w' => e = .returned (.bool true) ∧ Below w.heap.size w w' := by
  obtain ⟨n, hn⟩ : ∃ n : Nat, (n : Int) = 1 + size % 128 := ⟨(1 + size % 128).toNat, by omega⟩
  obtain ⟨q, hq⟩ : ∃ q : Nat, (q : Int) = 1 + queues % 8 := ⟨(1 + queues % 8).toNat, by omega⟩
  have e3 : IntKind.i64.wrap (1 + size % 128) = (n : Int) := by rw [IntWalk.i64_in _ (by omega)]; omega
  have e4 : IntKind.i64.wrap (1 + queues % 8) = (q : Int) := by rw [IntWalk.i64_in _ (by omega)]; omega
  have n1 : 1 ≤ n ∧ n ≤ 128 := by omega
  have q1 : 1 ≤ q ∧ q ≤ 8 := by omega
  have C : ∀ W, Tab (some ⟨w.heap.size, 0, none⟩) (evenL n q) W → Calls Try.prog 14 #[.agg #[.int .i64 0, .slice (some ⟨w.heap.size, 0, none⟩) n n, .string ⟨#[97, 98, 99, 100]⟩, .int .i64 0]] W fun e w' => e = .returned (.int .i64 (if powB n = true then 0 else 110)) ∧ Below W.heap.size W w' := fun W h => by
    have := check_any 0 _ n (evenL n q) ⟨#[97, 98, 99, 100]⟩ 0 W h
    rw [checkV, even_rules n q n1.1 n1.2 q1.1 q1.2, evenL_length] at this
    exact this
  cases hp : powB n with
  | true =>
    rw [hp, if_pos rfl] at C
    exact rssEven_yes size queues _ _ n q (low7 size) (low3 queues) e3 e4 n1.1 n1.2 q1.1 q1.2 w hp C
  | false =>
    rw [hp, if_neg (by simp)] at C
    exact rssEven_no size queues _ _ n q (low7 size) (low3 queues) e3 e4 n1.1 n1.2 q1.1 q1.2 w hp C

set_option maxRecDepth 100000 in
theorem rssEven_lifted (os : Os) (started : os.Started) (H : Type) (enc : TypeId × Value → H) :
    ReturnsInHanded {} Try.checked os 6 .any (Rows.rssEvenSpec.pre6 enc Try.prog Try.f6 Rows.rssEvenRow.domain false) (Rows.rssEvenSpec.post enc Try.prog Try.f6 false true false false) := by
  have e : Try.f6.params.toList = [3, 3] := by rw [Try.params6]
  refine law_of_walk (C := Try.checked) (tb := 4) H enc Try.own started (by kernel_rfl) Try.func6 Try.laidOut rfl rfl Try.underlying4 ?_ ?_
    (ChangeSpec.witness6 (enc := enc) (C := Try.checked) false ⟨#[], #[.int .i64 0, .int .i64 0], []⟩ 8 (by kernel_rfl) (by kernel_rfl) (by kernel_rfl) (by kernel_rfl)) ?_
  · rw [e]
    intro t ht
    simp only [List.mem_cons, List.not_mem_nil, or_false] at ht
    rcases ht with rfl | rfl <;> exact ⟨by kernel_rfl, of_decide_eq_true (by kernel_rfl)⟩
  · intro ds hds
    rw [e] at hds
    match ds, hds with
    | [d0, d1], _ => rfl
  · intro W base args ds p hval0 hA0 hsz0
    have hval : ∀ (j : Nat) t v, Try.f6.params[j]? = some t → args[j]? = some v → Value.okWide Try.prog W .any base t v := hval0
    have hA : DataW.TrodAll enc Try.prog W 0 (fun _ => true) true Try.f6.params.toList args.toList ds p := hA0
    have hsz : (DataW.weightsEach Try.prog Try.f6.params.toList ds).all (· ≤ reachBytes) = true := hsz0
    rw [Try.params6] at hA hval hsz
    obtain ⟨v0, v1, d0, d1, p0, p1, rfl, rfl, rfl, h0, h1⟩ := trodAll_two hA
    obtain ⟨x0, rfl, rfl, rfl, k0⟩ := open_int Try.underlying3 (hval 0 3 v0 rfl rfl) h0
    have i0 := bounds_i64 k0
    obtain ⟨x1, rfl, rfl, rfl, k1⟩ := open_int Try.underlying3 (hval 1 3 v1 rfl rfl) h1
    have i1 := bounds_i64 k1
    exact rssEven_any x0 x1 W

theorem rssEven_holds : Rows.RssEvenSaid :=
  OpenClaim.holds_of_wide 6 Try.f6 rfl rfl rfl rfl rfl rfl rfl ⟨rfl, rfl, rfl, rfl, rfl⟩ rfl rfl rfl rfl rfl (by kernel_rfl) Try.func6 (by kernel_rfl)
    (of_decide_eq_true (by kernel_rfl)) (by unfold Func.isWrapper; first | (rw [if_pos (by decide +kernel)]; kernel_rfl) | (rw [if_neg (by decide +kernel)]; exact ⟨rfl, rfl⟩))
    (fun os started H enc _ => rssEven_lifted os started H enc)
end Go.Proofs.Ytpjndjmneficbaa
