/-
  The document's next number of a row of bytes, rows written over, and what a broken queue answers.
-/
import Derived.Test.YtoblemgeacllkaaSnd
import Derived.Test.YtoblemgeacllkaaDq10
import Derived.Test.YtoblemgeacllkaaDq7
import Derived.Test.YtoblemgeacllkaaDl4
import Derived.Test.YtoblemgeacllkaaDl3
import Derived.Test.YtoblemgeacllkaaDl5
namespace Go.Proofs.Ytoblemgeacllkaa.Sp
open Go.RowKit

theorem rneed_bad (o f a c n G E : Int) (v b d : Bool) (w : World) (HG : ∀ W, Calls Try.prog 78 #[.agg #[.int .i64 a, .bool b], .agg #[.int .i64 c, .bool d], .int .i64 n] W (RG W G E)) (hE : (E != 0) = true) : Calls Try.prog 52 #[.agg #[.int .i64 o, .bool v, .int .i64 f], .agg #[.int .i64 a, .bool b], .agg #[.int .i64 c, .bool d], .int .i64 n] w (RB w false) := by
  have H := Lib.hid HG
  clear HG
  go_enter Try.func52, Try.ntmps52
  go_wp2_with fail
  refine (H.out _).mono ?_
  rintro e w1 ⟨rfl, hq⟩
  have h1 := (Tri.new w (.int .i64 o) (.bool v) (.int .i64 f) (.int .i64 a) (.bool b) (.int .i64 c) (.bool d)).next hq
  clear hq
  obtain ⟨p0, p1, p2, p3, p4, p5, p6, z0, z1⟩ := h1.facts
  go_wp2_with fail
  go_ret
  exact ⟨rfl, h1.below⟩
theorem rneed_far (o f a c n G : Int) (v b d : Bool) (w : World) (HG : ∀ W, Calls Try.prog 78 #[.agg #[.int .i64 a, .bool b], .agg #[.int .i64 c, .bool d], .int .i64 n] W (RG W G 0)) (h : n < G) : Calls Try.prog 52 #[.agg #[.int .i64 o, .bool v, .int .i64 f], .agg #[.int .i64 a, .bool b], .agg #[.int .i64 c, .bool d], .int .i64 n] w (RB w false) := by
  have H := Lib.hid HG
  clear HG
  go_enter Try.func52, Try.ntmps52
  go_wp2_with fail
  refine (H.out _).mono ?_
  rintro e w1 ⟨rfl, hq⟩
  have h1 := (Tri.new w (.int .i64 o) (.bool v) (.int .i64 f) (.int .i64 a) (.bool b) (.int .i64 c) (.bool d)).next hq
  clear hq
  obtain ⟨p0, p1, p2, p3, p4, p5, p6, z0, z1⟩ := h1.facts
  go_wp2_with fail
  go_ret
  exact ⟨rfl, h1.below⟩
theorem rneed_zero (o a c n G : Int) (v b d : Bool) (w : World) (HG : ∀ W, Calls Try.prog 78 #[.agg #[.int .i64 a, .bool b], .agg #[.int .i64 c, .bool d], .int .i64 n] W (RG W G 0)) (h : ¬ n < G) : Calls Try.prog 52 #[.agg #[.int .i64 o, .bool v, .int .i64 0], .agg #[.int .i64 a, .bool b], .agg #[.int .i64 c, .bool d], .int .i64 n] w (RB w (decide (0 < G))) := by
  have H := Lib.hid HG
  clear HG
  go_enter Try.func52, Try.ntmps52
  go_wp2_with fail
  refine (H.out _).mono ?_
  rintro e w1 ⟨rfl, hq⟩
  have h1 := (Tri.new w (.int .i64 o) (.bool v) (.int .i64 0) (.int .i64 a) (.bool b) (.int .i64 c) (.bool d)).next hq
  clear hq
  obtain ⟨p0, p1, p2, p3, p4, p5, p6, z0, z1⟩ := h1.facts
  go_wp2_with fail
  go_ret
  exact ⟨rfl, h1.below⟩
theorem rneed_none (o f a c n : Int) (G : Nat) (v b d : Bool) (w : World) (HG : ∀ W, Calls Try.prog 78 #[.agg #[.int .i64 a, .bool b], .agg #[.int .i64 c, .bool d], .int .i64 n] W (RG W G 0)) (f0 : (f == 0) = false) (f2 : (f == 2) = false) (h : (G : Int) ≤ n) (h1 : 1 ≤ n) (h2 : n ≤ 32768) (h3 : 0 ≤ a) (h4 : a < n) : Calls Try.prog 52 #[.agg #[.int .i64 o, .bool v, .int .i64 f], .agg #[.int .i64 a, .bool b], .agg #[.int .i64 c, .bool d], .int .i64 n] w (RB w false) := by
  have H := Lib.hid HG
  clear HG
  have HL := Lib.hid h4
  clear h4
  go_enter Try.func52, Try.ntmps52
  go_wp2_with fail
  refine (H.out _).mono ?_
  rintro e w1 ⟨rfl, hq⟩
  have t1 := (Tri.new w (.int .i64 o) (.bool v) (.int .i64 f) (.int .i64 a) (.bool b) (.int .i64 c) (.bool d)).next hq
  clear hq
  obtain ⟨p0, p1, p2, p3, p4, p5, p6, z0, z1⟩ := t1.facts
  go_wp2_with fail
  clear p0 p1 p2 p3 p4 p5 p6 z0 z1
  go_loopw [11] (fun i wr => ∃ k : Nat, k ≤ G ∧ i = .int .i64 k ∧ ∃ x y, 0 ≤ x ∧ x < n ∧ gp a x n b y = k ∧ Tri w (.int .i64 o) (.bool v) (.int .i64 f) (.int .i64 x) (.bool y) (.int .i64 c) (.bool d) wr) (fun i _ => G - (intOf i).toNat)
  case atStart => exact ⟨0, Nat.zero_le _, rfl, a, b, h3, HL.out, gp_same a n b, t1⟩
  case round =>
    obtain ⟨k, hk, rfl, x, y, x0, x1, hg, t2⟩ := hrel
    clear t1
    by_cases hlt : k < G
    · have hG := Lib.hid hg
      have hs : gp a x n b y + 1 < 2 * n := by omega
      obtain ⟨p0, p1, p2, p3, p4, p5, p6, z0, z1⟩ := t2.facts
      by_cases ht : x = n - 1
      · subst ht
        have HT := Lib.hid (gp_turn (b := b) (y := y) h3 HL.out hs)
        clear hg hs
        go_wp2_with fail
        refine (one_top n y _ h1 h2).mono ?_
        rintro e w3 ⟨rfl, hq⟩
        clear p0 p1 p2 p3 p4 p5 p6 z0 z1
        have t3 := t2.next hq
        clear hq
        obtain ⟨p0, p1, p2, p3, p4, p5, p6, z0, z1⟩ := t3.facts
        go_wp2_with fail
        have t4 := (t3.put0 (.int .i64 0)).put1 (.bool (!y))
        go_roundw
        case rel => exact ⟨k + 1, by omega, by go_num, 0, !y, by omega, by omega, by rw [HT.out, hG.out]; rfl, t4⟩
        case measure => simp [intOf]; omega
      · have hx : x < n - 1 := by omega
        have HT := Lib.hid (gp_step (b := b) (y := y) h3 HL.out x0 hx hs)
        clear hg hs
        go_wp2_with fail
        refine (one_low x n y _ h1 h2 x0 hx).mono ?_
        rintro e w3 ⟨rfl, hq⟩
        clear p0 p1 p2 p3 p4 p5 p6 z0 z1
        have t3 := t2.next hq
        clear hq
        obtain ⟨p0, p1, p2, p3, p4, p5, p6, z0, z1⟩ := t3.facts
        go_wp2_with fail
        have t4 := (t3.put0 (.int .i64 (x + 1))).put1 (.bool y)
        go_roundw
        case rel => exact ⟨k + 1, by omega, by go_num, x + 1, y, by omega, by omega, by rw [HT.out, hG.out]; rfl, t4⟩
        case measure => simp [intOf]; omega
    · obtain rfl : k = G := by omega
      obtain ⟨p0, p1, p2, p3, p4, p5, p6, z0, z1⟩ := t2.facts
      clear hg
      go_wp2_with fail
      go_ret
      exact ⟨rfl, t2.below⟩
theorem rneed_miss (o a c n : Int) (G : Nat) (v b d : Bool) (w : World) (HG : ∀ W, Calls Try.prog 78 #[.agg #[.int .i64 a, .bool b], .agg #[.int .i64 c, .bool d], .int .i64 n] W (RG W G 0)) (h : (G : Int) ≤ n) (hM : ∀ x y, 0 ≤ x → x < n → gp a x n b y < G → ¬ (x = o ∧ y = v)) (h1 : 1 ≤ n) (h2 : n ≤ 32768) (h3 : 0 ≤ a) (h4 : a < n) : Calls Try.prog 52 #[.agg #[.int .i64 o, .bool v, .int .i64 2], .agg #[.int .i64 a, .bool b], .agg #[.int .i64 c, .bool d], .int .i64 n] w (RB w false) := by
  have H := Lib.hid HG
  clear HG
  have HM := Lib.hid hM
  clear hM
  have HL := Lib.hid h4
  clear h4
  go_enter Try.func52, Try.ntmps52
  go_wp2_with fail
  refine (H.out _).mono ?_
  rintro e w1 ⟨rfl, hq⟩
  have t1 := (Tri.new w (.int .i64 o) (.bool v) (.int .i64 2) (.int .i64 a) (.bool b) (.int .i64 c) (.bool d)).next hq
  clear hq
  obtain ⟨p0, p1, p2, p3, p4, p5, p6, z0, z1⟩ := t1.facts
  go_wp2_with fail
  clear p0 p1 p2 p3 p4 p5 p6 z0 z1
  go_loopw [11] (fun i wr => ∃ k : Nat, k ≤ G ∧ i = .int .i64 k ∧ ∃ x y, 0 ≤ x ∧ x < n ∧ gp a x n b y = k ∧ Tri w (.int .i64 o) (.bool v) (.int .i64 2) (.int .i64 x) (.bool y) (.int .i64 c) (.bool d) wr) (fun i _ => G - (intOf i).toNat)
  case atStart => exact ⟨0, Nat.zero_le _, rfl, a, b, h3, HL.out, gp_same a n b, t1⟩
  case round =>
    obtain ⟨k, hk, rfl, x, y, x0, x1, hg, t2⟩ := hrel
    clear t1
    by_cases hlt : k < G
    · have hG := Lib.hid hg
      have hs : gp a x n b y + 1 < 2 * n := by omega
      obtain ⟨p0, p1, p2, p3, p4, p5, p6, z0, z1⟩ := t2.facts
      by_cases hc : x = o
      · subst hc
        obtain rfl : v = !y := by
          have hne : y ≠ v := by
            rintro rfl
            exact HM.out x y x0 x1 (by omega) ⟨rfl, rfl⟩
          revert hne; cases y <;> cases v <;> simp
        by_cases ht : x = n - 1
        · subst ht
          have HT := Lib.hid (gp_turn (b := b) (y := y) h3 HL.out hs)
          clear hg hs
          go_wp2_with fail
          refine (one_top n y _ h1 h2).mono ?_
          rintro e w3 ⟨rfl, hq⟩
          clear p0 p1 p2 p3 p4 p5 p6 z0 z1
          have t3 := t2.next hq
          clear hq
          obtain ⟨p0, p1, p2, p3, p4, p5, p6, z0, z1⟩ := t3.facts
          go_wp2_with fail
          have t4 := (t3.put0 (.int .i64 0)).put1 (.bool (!y))
          go_roundw
          case rel => exact ⟨k + 1, by omega, by go_num, 0, !y, by omega, by omega, by rw [HT.out, hG.out]; rfl, t4⟩
          case measure => simp [intOf]; omega
        · have hx : x < n - 1 := by omega
          have HT := Lib.hid (gp_step (b := b) (y := y) h3 HL.out x0 hx hs)
          clear hg hs
          go_wp2_with fail
          refine (one_low x n y _ h1 h2 x0 hx).mono ?_
          rintro e w3 ⟨rfl, hq⟩
          clear p0 p1 p2 p3 p4 p5 p6 z0 z1
          have t3 := t2.next hq
          clear hq
          obtain ⟨p0, p1, p2, p3, p4, p5, p6, z0, z1⟩ := t3.facts
          go_wp2_with fail
          have t4 := (t3.put0 (.int .i64 (x + 1))).put1 (.bool y)
          go_roundw
          case rel => exact ⟨k + 1, by omega, by go_num, x + 1, y, by omega, by omega, by rw [HT.out, hG.out]; rfl, t4⟩
          case measure => simp [intOf]; omega
      · have hne : (x == o) = false := beq_eq_false_iff_ne.2 hc
        clear hc
        by_cases ht : x = n - 1
        · subst ht
          have HT := Lib.hid (gp_turn (b := b) (y := y) h3 HL.out hs)
          clear hg hs
          go_wp2_with fail
          refine (one_top n y _ h1 h2).mono ?_
          rintro e w3 ⟨rfl, hq⟩
          clear p0 p1 p2 p3 p4 p5 p6 z0 z1
          have t3 := t2.next hq
          clear hq
          obtain ⟨p0, p1, p2, p3, p4, p5, p6, z0, z1⟩ := t3.facts
          go_wp2_with fail
          have t4 := (t3.put0 (.int .i64 0)).put1 (.bool (!y))
          go_roundw
          case rel => exact ⟨k + 1, by omega, by go_num, 0, !y, by omega, by omega, by rw [HT.out, hG.out]; rfl, t4⟩
          case measure => simp [intOf]; omega
        · have hx : x < n - 1 := by omega
          have HT := Lib.hid (gp_step (b := b) (y := y) h3 HL.out x0 hx hs)
          clear hg hs
          go_wp2_with fail
          refine (one_low x n y _ h1 h2 x0 hx).mono ?_
          rintro e w3 ⟨rfl, hq⟩
          clear p0 p1 p2 p3 p4 p5 p6 z0 z1
          have t3 := t2.next hq
          clear hq
          obtain ⟨p0, p1, p2, p3, p4, p5, p6, z0, z1⟩ := t3.facts
          go_wp2_with fail
          have t4 := (t3.put0 (.int .i64 (x + 1))).put1 (.bool y)
          go_roundw
          case rel => exact ⟨k + 1, by omega, by go_num, x + 1, y, by omega, by omega, by rw [HT.out, hG.out]; rfl, t4⟩
          case measure => simp [intOf]; omega
    · obtain rfl : k = G := by omega
      obtain ⟨p0, p1, p2, p3, p4, p5, p6, z0, z1⟩ := t2.facts
      clear hg
      go_wp2_with fail
      go_ret
      exact ⟨rfl, t2.below⟩
theorem rneed_hit (o a c n : Int) (G : Nat) (v b d : Bool) (w : World) (HG : ∀ W, Calls Try.prog 78 #[.agg #[.int .i64 a, .bool b], .agg #[.int .i64 c, .bool d], .int .i64 n] W (RG W G 0)) (h : (G : Int) ≤ n) (D : Nat) (hD : D < G) (hO : gp a o n b v = D) (hM : ∀ x y, 0 ≤ x → x < n → gp a x n b y = D → x = o ∧ y = v) (h1 : 1 ≤ n) (h2 : n ≤ 32768) (h3 : 0 ≤ a) (h4 : a < n) : Calls Try.prog 52 #[.agg #[.int .i64 o, .bool v, .int .i64 2], .agg #[.int .i64 a, .bool b], .agg #[.int .i64 c, .bool d], .int .i64 n] w (RB w true) := by
  have H := Lib.hid HG
  clear HG
  have HM := Lib.hid hM
  have HO := Lib.hid hO
  clear hM hO
  have HL := Lib.hid h4
  clear h4
  go_enter Try.func52, Try.ntmps52
  go_wp2_with fail
  refine (H.out _).mono ?_
  rintro e w1 ⟨rfl, hq⟩
  have t1 := (Tri.new w (.int .i64 o) (.bool v) (.int .i64 2) (.int .i64 a) (.bool b) (.int .i64 c) (.bool d)).next hq
  clear hq
  obtain ⟨p0, p1, p2, p3, p4, p5, p6, z0, z1⟩ := t1.facts
  go_wp2_with fail
  clear p0 p1 p2 p3 p4 p5 p6 z0 z1
  go_loopw [11] (fun i wr => ∃ k : Nat, k ≤ D ∧ i = .int .i64 k ∧ ∃ x y, 0 ≤ x ∧ x < n ∧ gp a x n b y = k ∧ Tri w (.int .i64 o) (.bool v) (.int .i64 2) (.int .i64 x) (.bool y) (.int .i64 c) (.bool d) wr) (fun i _ => D - (intOf i).toNat)
  case atStart => exact ⟨0, Nat.zero_le _, rfl, a, b, h3, HL.out, gp_same a n b, t1⟩
  case round =>
    obtain ⟨k, hk, rfl, x, y, x0, x1, hg, t2⟩ := hrel
    clear t1
    by_cases hlt : k < D
    · have hG := Lib.hid hg
      have hs : gp a x n b y + 1 < 2 * n := by omega
      obtain ⟨p0, p1, p2, p3, p4, p5, p6, z0, z1⟩ := t2.facts
      by_cases hc : x = o
      · subst hc
        obtain rfl : v = !y := by
          have hne : y ≠ v := by
            rintro rfl
            have := HO.out
            omega
          revert hne; cases y <;> cases v <;> simp
        by_cases ht : x = n - 1
        · subst ht
          have HT := Lib.hid (gp_turn (b := b) (y := y) h3 HL.out hs)
          clear hg hs
          go_wp2_with fail
          refine (one_top n y _ h1 h2).mono ?_
          rintro e w3 ⟨rfl, hq⟩
          clear p0 p1 p2 p3 p4 p5 p6 z0 z1
          have t3 := t2.next hq
          clear hq
          obtain ⟨p0, p1, p2, p3, p4, p5, p6, z0, z1⟩ := t3.facts
          go_wp2_with fail
          have t4 := (t3.put0 (.int .i64 0)).put1 (.bool (!y))
          go_roundw
          case rel => exact ⟨k + 1, by omega, by go_num, 0, !y, by omega, by omega, by rw [HT.out, hG.out]; rfl, t4⟩
          case measure => simp [intOf]; omega
        · have hx : x < n - 1 := by omega
          have HT := Lib.hid (gp_step (b := b) (y := y) h3 HL.out x0 hx hs)
          clear hg hs
          go_wp2_with fail
          refine (one_low x n y _ h1 h2 x0 hx).mono ?_
          rintro e w3 ⟨rfl, hq⟩
          clear p0 p1 p2 p3 p4 p5 p6 z0 z1
          have t3 := t2.next hq
          clear hq
          obtain ⟨p0, p1, p2, p3, p4, p5, p6, z0, z1⟩ := t3.facts
          go_wp2_with fail
          have t4 := (t3.put0 (.int .i64 (x + 1))).put1 (.bool y)
          go_roundw
          case rel => exact ⟨k + 1, by omega, by go_num, x + 1, y, by omega, by omega, by rw [HT.out, hG.out]; rfl, t4⟩
          case measure => simp [intOf]; omega
      · have hne : (x == o) = false := beq_eq_false_iff_ne.2 hc
        clear hc
        by_cases ht : x = n - 1
        · subst ht
          have HT := Lib.hid (gp_turn (b := b) (y := y) h3 HL.out hs)
          clear hg hs
          go_wp2_with fail
          refine (one_top n y _ h1 h2).mono ?_
          rintro e w3 ⟨rfl, hq⟩
          clear p0 p1 p2 p3 p4 p5 p6 z0 z1
          have t3 := t2.next hq
          clear hq
          obtain ⟨p0, p1, p2, p3, p4, p5, p6, z0, z1⟩ := t3.facts
          go_wp2_with fail
          have t4 := (t3.put0 (.int .i64 0)).put1 (.bool (!y))
          go_roundw
          case rel => exact ⟨k + 1, by omega, by go_num, 0, !y, by omega, by omega, by rw [HT.out, hG.out]; rfl, t4⟩
          case measure => simp [intOf]; omega
        · have hx : x < n - 1 := by omega
          have HT := Lib.hid (gp_step (b := b) (y := y) h3 HL.out x0 hx hs)
          clear hg hs
          go_wp2_with fail
          refine (one_low x n y _ h1 h2 x0 hx).mono ?_
          rintro e w3 ⟨rfl, hq⟩
          clear p0 p1 p2 p3 p4 p5 p6 z0 z1
          have t3 := t2.next hq
          clear hq
          obtain ⟨p0, p1, p2, p3, p4, p5, p6, z0, z1⟩ := t3.facts
          go_wp2_with fail
          have t4 := (t3.put0 (.int .i64 (x + 1))).put1 (.bool y)
          go_roundw
          case rel => exact ⟨k + 1, by omega, by go_num, x + 1, y, by omega, by omega, by rw [HT.out, hG.out]; rfl, t4⟩
          case measure => simp [intOf]; omega
    · obtain rfl : k = D := by omega
      obtain ⟨rfl, rfl⟩ := HM.out x y x0 x1 hg
      obtain ⟨p0, p1, p2, p3, p4, p5, p6, z0, z1⟩ := t2.facts
      clear hg
      go_wp2_with fail
      go_ret
      exact ⟨rfl, t2.below⟩
theorem rneed_any (o f a c n : Int) (v b d : Bool) (w : World) : Calls Try.prog 52 #[.agg #[.int .i64 o, .bool v, .int .i64 f], .agg #[.int .i64 a, .bool b], .agg #[.int .i64 c, .bool d], .int .i64 n] w (RB w (needV o v f a b c d n)) := by
  have HG := fun W => rgap_any a c n b d W
  unfold needV
  by_cases h0 : gpE a c n = 0
  · rw [h0] at HG
    rw [gpV_ok b d h0] at HG
    by_cases h1 : n < gp a c n b d
    · rw [if_pos (Or.inr h1)]
      exact rneed_far o f a c n _ v b d w HG h1
    rw [if_neg (by omega)]
    obtain ⟨n1, n2, h3, h4, h5, h6⟩ := gpE_zero h0
    by_cases f0 : f = 0
    · subst f0
      rw [if_pos rfl]
      exact rneed_zero o a c n _ v b d w HG h1
    rw [if_neg f0]
    obtain ⟨G, hG⟩ := Int.eq_ofNat_of_zero_le (gp_low (b := b) (d := d) h3 h4 h5 h6)
    rw [hG] at HG h1 ⊢
    by_cases f2 : f = 2
    · subst f2
      rw [if_pos rfl]
      by_cases k : gpE a o n = 0 ∧ gp a o n b v < G
      · rw [decide_eq_true k]
        obtain ⟨k0, k1⟩ := k
        obtain ⟨_, _, _, _, o0, o1⟩ := gpE_zero k0
        obtain ⟨D, hD⟩ := Int.eq_ofNat_of_zero_le (gp_low (b := b) (d := v) h3 h4 o0 o1)
        exact rneed_hit o a c n G v b d w HG (by omega) D (by omega) hD (fun x y x0 x1 hx => gp_inj h4 h3 o0 o1 x0 x1 (hx.trans hD.symm)) n1 n2 h3 h4
      · rw [decide_eq_false k]
        refine rneed_miss o a c n G v b d w HG (by omega) (fun x y x0 x1 hx hxy => ?_) n1 n2 h3 h4
        obtain ⟨rfl, rfl⟩ := hxy
        exact k ⟨gpE_in n1 n2 h3 h4 x0 x1, hx⟩
    · rw [if_neg f2]
      exact rneed_none o f a c n G v b d w HG (beq_eq_false_iff_ne.2 f0) (beq_eq_false_iff_ne.2 f2) (by omega) n1 n2 h3 h4
  · rw [if_pos (Or.inl h0)]
    exact rneed_bad o f a c n _ _ v b d w HG (by simpa using h0)
end Go.Proofs.Ytoblemgeacllkaa.Sp
namespace Go.Proofs.Ytoblemgeacllkaa

/-! descriptors there and back -/
theorem pb_list (v n : Nat) : (pb v n).data.toList = digs v n := rfl
theorem desB_list (A L I F : Nat) : (desB A L I F).data.toList = digs A 8 ++ (digs L 4 ++ (digs I 2 ++ digs F 2)) := by
  unfold desB
  simp only [ByteArray.data_append, Array.toList_append, pb_list, List.append_assoc]
theorem mid (X M Y : List UInt8) (a n : Nat) (ha : X.length = a) (hn : M.length = n) : ((X ++ (M ++ Y)).drop a).take n = M := by
  subst ha hn
  rw [List.drop_left, List.take_left]
theorem gn_at (s : ByteArray) (X Y : List UInt8) (v a n : Nat) (h : s.data.toList = X ++ (digs v n ++ Y)) (ha : X.length = a) (hv : v < 256 ^ n) : gn s a n = v := by
  unfold gn cutl
  rw [h, mid X (digs v n) Y a n ha (digs_length v n), val_digs, Nat.mod_eq_of_lt hv]
theorem parse_build (A L I F : Nat) (hA : A < 18446744073709551616) (hL : L < 4294967296) (hI : I ≤ 65535) (hF : F ≤ 65535) :
    gn (desB A L I F) 0 8 = A ∧ gn (desB A L I F) 8 4 = L ∧ gn (desB A L I F) 12 2 = I ∧ gn (desB A L I F) 14 2 = F := by
  have h := desB_list A L I F
  refine ⟨gn_at _ [] _ A 0 8 h rfl (by omega), gn_at _ (digs A 8) _ L 8 4 h (digs_length _ _) (by omega), ?_, ?_⟩
  · refine gn_at _ (digs A 8 ++ digs L 4) (digs F 2) I 12 2 (by rw [h]; simp) (by simp [digs_length]) (by omega)
  · refine gn_at _ (digs A 8 ++ digs L 4 ++ digs I 2) [] F 14 2 (by rw [h]; simp) (by simp [digs_length]) (by omega)
theorem deOf_desB (A L I F : Nat) (hA : A < 18446744073709551616) (hL : L < 4294967296) (hI : I ≤ 65535) (hF : F ≤ 65535) : deOf (desB A L I F) = ⟨A, L, I, F⟩ := by
  obtain ⟨a, b, c, d⟩ := parse_build A L I F hA hL hI hF
  unfold deOf
  rw [a, b, c, d]
/-! bytes of a row that was written over -/
theorem over_in (xs : List UInt8) (a : Nat) (s : ByteArray) (h : a + s.size ≤ xs.length) (j : Nat) : (over xs a s)[j]? = if a ≤ j ∧ j < a + s.size then s.data.toList[j - a]? else xs[j]? := by
  have hs : s.data.toList.length = s.size := rfl
  have ht : (xs.take a).length = a := by simp; omega
  unfold over
  by_cases h1 : j < a
  · rw [if_neg (by omega), List.append_assoc, List.getElem?_append_left (by omega), List.getElem?_take_of_lt h1]
  · by_cases h2 : j < a + s.size
    · rw [if_pos ⟨by omega, h2⟩, List.append_assoc, List.getElem?_append_right (by omega), ht, List.getElem?_append_left (by omega)]
    · rw [if_neg (by omega), List.getElem?_append_right (by rw [List.length_append]; omega), List.getElem?_drop]
      congr 1
      rw [List.length_append]; omega
theorem cut_get (xs : List UInt8) (n k j : Nat) : ((xs.drop n).take k)[j]? = if j < k then xs[n + j]? else none := by
  by_cases h : j < k
  · rw [if_pos h, List.getElem?_take_of_lt h, List.getElem?_drop]
  · rw [if_neg h, List.getElem?_take_eq_none (by omega)]
theorem cut_off (xs : List UInt8) (a : Nat) (s : ByteArray) (h : a + s.size ≤ xs.length) (n k : Nat) (hd : n + k ≤ a ∨ a + s.size ≤ n) : ((over xs a s).drop n).take k = (xs.drop n).take k := by
  apply List.ext_getElem?
  intro j
  rw [cut_get, cut_get]
  by_cases hj : j < k
  · rw [if_pos hj, if_pos hj, over_in xs a s h, if_neg (by omega)]
  · rw [if_neg hj, if_neg hj]
theorem cut_on (xs : List UInt8) (a : Nat) (s : ByteArray) (h : a + s.size ≤ xs.length) : ((over xs a s).drop a).take s.size = s.data.toList := by
  apply List.ext_getElem?
  intro j
  have hs : s.data.toList.length = s.size := rfl
  rw [cut_get]
  by_cases hj : j < s.size
  · rw [if_pos hj, over_in xs a s h, if_pos (by omega)]
    congr 1; omega
  · rw [if_neg hj, List.getElem?_eq_none (by omega)]
theorem deAt_off (xs : List UInt8) (a : Nat) (s : ByteArray) (h : a + s.size ≤ xs.length) (n : Nat) (hd : n + 16 ≤ a ∨ a + s.size ≤ n) : deAt (over xs a s) n = deAt xs n := by
  unfold deAt cut16
  rw [cut_off xs a s h n 16 hd]
theorem deAt_on (xs : List UInt8) (a A L I F : Nat) (h : a + 16 ≤ xs.length) (hA : A < 18446744073709551616) (hL : L < 4294967296) (hI : I ≤ 65535) (hF : F ≤ 65535) : deAt (over xs a (desB A L I F)) a = ⟨A, L, I, F⟩ := by
  have hs := desB_size A L I F
  have e := cut_on xs a (desB A L I F) (by omega)
  rw [hs] at e
  unfold deAt cut16
  rw [e]
  exact deOf_desB A L I F hA hL hI hF
/-! what Done writes -/
theorem used_off (xs : List UInt8) (q : Qs) (id wr : Nat) (hq : q.Ok xs.length) (n : Nat) (hd : n + 16 ≤ q.ring + 16 * q.ba ∨ q.ring + 16 * q.ba + 16 ≤ n) : deAt (usedX xs q id wr) n = deAt xs n := by
  have := hq.r; have := hq.ba
  have e1 : ((desB 0 wr id (doneF q wr)).extract 8 14).size = 6 := by rw [ByteArray.size_extract, desB_size]; rfl
  have e2 : ((desB 0 wr id (doneF q wr)).extract 14 16).size = 2 := by rw [ByteArray.size_extract, desB_size]; rfl
  have l1 : (over xs (q.ring + 16 * q.ba + 8) ((desB 0 wr id (doneF q wr)).extract 8 14)).length = xs.length := over_length _ _ _ (by omega)
  unfold usedX
  rw [deAt_off _ _ _ (by omega) _ (by omega), deAt_off _ _ _ (by omega) _ (by omega)]
theorem used_flags (xs : List UInt8) (q : Qs) (id wr : Nat) (hq : q.Ok xs.length) : ((usedX xs q id wr).drop (q.ring + 16 * q.ba + 14)).take 2 = digs (doneF q wr) 2 := by
  have := hq.r; have := hq.ba
  have e1 : ((desB 0 wr id (doneF q wr)).extract 8 14).size = 6 := by rw [ByteArray.size_extract, desB_size]; rfl
  have e2 : ((desB 0 wr id (doneF q wr)).extract 14 16).size = 2 := by rw [ByteArray.size_extract, desB_size]; rfl
  have l1 : (over xs (q.ring + 16 * q.ba + 8) ((desB 0 wr id (doneF q wr)).extract 8 14)).length = xs.length := over_length _ _ _ (by omega)
  have h := cut_on (over xs (q.ring + 16 * q.ba + 8) ((desB 0 wr id (doneF q wr)).extract 8 14)) (q.ring + 16 * q.ba + 14) ((desB 0 wr id (doneF q wr)).extract 14 16) (by omega)
  rw [e2] at h
  unfold usedX
  rw [h]
  have hl : ((desB 0 wr id (doneF q wr)).extract 14 16).data.toList = ((desB 0 wr id (doneF q wr)).data.toList.drop 14).take 2 := by
    rw [ByteArray.data_extract, Array.toList_extract]
  rw [hl, desB_list]
  have e3 : digs 0 8 ++ (digs wr 4 ++ (digs id 2 ++ digs (doneF q wr) 2)) = (digs 0 8 ++ digs wr 4 ++ digs id 2) ++ (digs (doneF q wr) 2 ++ []) := by simp
  rw [e3, mid _ _ _ 14 2 (by simp [digs_length]) (digs_length _ _)]
theorem used_val (xs : List UInt8) (q : Qs) (id wr : Nat) (hq : q.Ok xs.length) : val (((usedX xs q id wr).drop (q.ring + 16 * q.ba + 14)).take 2) = doneF q wr := by
  rw [used_flags xs q id wr hq, val_digs, Nat.mod_eq_of_lt]
  have := doneF_lt q wr
  omega
theorem used_on (xs : List UInt8) (q : Qs) (id wr : Nat) (hq : q.Ok xs.length) : (deAt (usedX xs q id wr) (q.ring + 16 * q.ba)).f = doneF q wr := by
  have := hq.r; have := hq.ba
  have hl := usedX_length xs q id wr hq
  show gn (cut16 (usedX xs q id wr) (q.ring + 16 * q.ba)) 14 2 = doneF q wr
  rw [← used_val xs q id wr hq]
  unfold gn cutl cut16
  congr 1
  apply List.ext_getElem?
  intro j
  rw [cut_get _ 14 2 j, cut_get (usedX xs q id wr) (q.ring + 16 * q.ba + 14) 2 j]
  by_cases hj : j < 2
  · rw [if_pos hj, if_pos hj]
    show (((usedX xs q id wr).drop (q.ring + 16 * q.ba)).take 16)[14 + j]? = _
    rw [cut_get, if_pos (by omega)]
    congr 1; omega
  · rw [if_neg hj, if_neg hj]
end Go.Proofs.Ytoblemgeacllkaa
namespace Go.Proofs.Ytoblemgeacllkaa
open Go.RowKit

def fX0 : List UInt8 := List.replicate 256 0
def fQ0 : Qs := ⟨0, 4, 64, 68, 0, true, 0, true, 0, true, 0, 0, false⟩
def fX1 : List UInt8 := wrX fX0 0 (desB 128 5 7 128)
def fC : Ch := ⟨7, 1, [⟨128, 5, false⟩]⟩
def fQ1 : Qs := ⟨0, 4, 64, 68, 1, true, 0, true, 0, true, 0, 1, false⟩
def fX2 : List UInt8 := usedX fX1 fQ1 7 0
def fQ2 : Qs := ⟨0, 4, 64, 68, 1, true, 1, true, 0, true, 1, 0, false⟩
def fQ3 : Qs := ⟨0, 4, 64, 68, 1, true, 1, true, 1, true, 0, 0, false⟩
def fX3 : List UInt8 := wrX fX2 16 (desB 255 5 7 128)
def fQ4 : Qs := ⟨0, 4, 64, 68, 1, true, 1, true, 1, true, 0, 0, true⟩
set_option maxRecDepth 100000
theorem fx_lay : layB fX0 0 4 64 68 = true := by decide +kernel
theorem fx_new : newQ 0 4 64 68 = fQ0 := rfl
theorem fx_bytes : bytesN 256 = 256 := by decide +kernel
theorem fx_n1 : nextC fX0 fQ0 = (noCh, false, 0, fQ0) := by kernel_rfl
theorem fx_n2 : nextC fX1 fQ0 = (fC, true, 0, fQ1) := by kernel_rfl
theorem fx_d1 : doneC fX1 fQ1 7 2 0 = (1, fX1, fQ1) := by kernel_rfl
theorem fx_d2 : doneC fX1 fQ1 7 1 0 = (0, fX2, fQ2) := by kernel_rfl
theorem fx_ld : val ((fX2.drop 14).take 2) = 32896 := by kernel_rfl
theorem fx_t1 : tellC fX2 fQ2 = (true, fQ3) := by kernel_rfl
theorem fx_t2 : tellC fX2 fQ3 = (false, fQ3) := by kernel_rfl
theorem fx_n3 : nextC fX3 fQ3 = (noCh, false, 141, fQ4) := by kernel_rfl
theorem fx_d3 : doneC fX3 fQ4 7 1 0 = (141, fX3, fQ4) := by kernel_rfl
theorem fx_l0 : layB fX3 0 0 0 0 = false := by decide +kernel
theorem fx_z1 : fX1.length = 256 := by kernel_rfl
theorem fx_z2 : fX2.length = 256 := by kernel_rfl
theorem fx_z3 : fX3.length = 256 := by kernel_rfl
theorem fx_o0 : fQ0.Ok 256 := ⟨by decide, by decide, by decide, by decide, by decide, by decide, by decide, by decide, by decide⟩
theorem fx_o1 : fQ1.Ok 256 := ⟨by decide, by decide, by decide, by decide, by decide, by decide, by decide, by decide, by decide⟩
theorem fx_o2 : fQ2.Ok 256 := ⟨by decide, by decide, by decide, by decide, by decide, by decide, by decide, by decide, by decide⟩
theorem fx_o3 : fQ3.Ok 256 := ⟨by decide, by decide, by decide, by decide, by decide, by decide, by decide, by decide, by decide⟩
theorem fx_o4 : fQ4.Ok 256 := ⟨by decide, by decide, by decide, by decide, by decide, by decide, by decide, by decide, by decide⟩
end Go.Proofs.Ytoblemgeacllkaa
namespace Go.Proofs.Ytoblemgeacllkaa
open Go.RowKit

set_option maxRecDepth 100000
theorem PtsAt.of_blk {w : World} {gl : Nat} {l : List Pt} {cs : Array Value} (h : Blk w gl 56 cs) (hcs : cs = (ptCells l).toArray) : PtsAt (some ⟨gl, 0, none⟩) l w := by
  intro _
  subst hcs
  refine ⟨gl, rfl, h.lt, fun j u hu => ?_⟩
  rw [h.cell j]
  simpa using hu
theorem build_is (A L I F : Nat) (hA : A < 18446744073709551616) (hL : L < 4294967296) (hI : I ≤ 65535) (hF : F ≤ 65535) (S : ByteArray) (hS : desB A L I F = S) (w : World) :
    Calls Try.prog 29 #[.agg #[.int .u64 (A : Int), .int .u32 (L : Int), .int .i64 (I : Int), .int .i64 (F : Int)]] w fun e w' => e = .returned (.tuple #[.string S, .int .i64 0]) ∧ Below w.heap.size w w' := by
  have hw : isW (I : Int) (F : Int) := ⟨by omega, by omega⟩
  have e : buE (I : Int) (F : Int) = 0 := by unfold buE; rw [if_pos hw]
  have e2 : buS A L (I : Int) (F : Int) = desB A L I F := by unfold buS; rw [if_pos hw]; rfl
  refine (rbuild_any A L I F hA hL w).mono fun e1 w' ⟨h1, h2⟩ => ⟨?_, h2⟩
  rw [h1, e, e2, hS]
/-- laid of fixed's world -/
theorem laid_fixed (w : World) : Calls Try.prog 7 #[.agg #[.int .i64 256, .int .i64 0, .int .i64 4, .int .i64 64, .int .i64 68, .slice none 0 0]] w fun e w' =>
    ∃ gq g gb gx, e = .returned (.tuple #[.pointer (some ⟨g, 0, none⟩), .pointer (some ⟨gq, 0, none⟩), .pointer (some ⟨gx, 0, none⟩), .bool true]) ∧ Ow w gq g gb fX0 fQ0 w' ∧ Far w w' := by
  refine (laid_any 256 0 4 64 68 (.slice none 0 0) w).mono fun e w' h => ?_
  unfold LaidP at h
  rw [fx_bytes, show List.replicate 256 (0 : UInt8) = fX0 from rfl, fx_lay, fx_new] at h
  obtain ⟨hb, h⟩ := h
  rw [if_pos rfl] at h
  obtain ⟨gq, g, gb, gx, gk, lv, he, hl⟩ := h
  exact ⟨gq, g, gb, gx, he, ⟨⟨lv, hl.own⟩, hb⟩, Far.of_below hb⟩
section
variable {w : World} {gq g gb : Nat} {W : World}
theorem fx_next1 (h : Ow w gq g gb fX0 fQ0 W) : Calls Try.prog 11 #[.pointer (some ⟨gq, 0, none⟩)] W fun e W' => ∃ A cap, e = .returned (.tuple #[.agg #[.int .i64 0, .int .i64 0, .slice A 0 cap], .bool false, .int .i64 0]) ∧ Ow w gq g gb fX0 fQ0 W' ∧ Far W W' :=
  (h.nextQ fx_o0 _ fx_n1).mono fun _ _ ⟨A, cap, he, _, ho, hf⟩ => ⟨A, cap, he, ho, hf⟩
theorem fx_next2 (h : Ow w gq g gb fX1 fQ0 W) : Calls Try.prog 11 #[.pointer (some ⟨gq, 0, none⟩)] W fun e W' => ∃ A cap, e = .returned (.tuple #[.agg #[.int .i64 7, .int .i64 1, .slice A 1 cap], .bool true, .int .i64 0]) ∧ W'.ownsRow W.heap.size 56 3 (.slice A 1 cap) 1 (ptCells fC.parts) ∧ Ow w gq g gb fX1 fQ1 W' ∧ Far W W' :=
  h.nextQ (by rw [fx_z1]; exact fx_o0) _ fx_n2
theorem fx_next3 (h : Ow w gq g gb fX3 fQ3 W) : Calls Try.prog 11 #[.pointer (some ⟨gq, 0, none⟩)] W fun e W' => ∃ A cap, e = .returned (.tuple #[.agg #[.int .i64 0, .int .i64 0, .slice A 0 cap], .bool false, .int .i64 141]) ∧ Ow w gq g gb fX3 fQ4 W' ∧ Far W W' :=
  (h.nextQ (by rw [fx_z3]; exact fx_o3) _ fx_n3).mono fun _ _ ⟨A, cap, he, _, ho, hf⟩ => ⟨A, cap, he, ho, hf⟩
theorem fx_done1 (h : Ow w gq g gb fX1 fQ1 W) : Calls Try.prog 14 #[.pointer (some ⟨gq, 0, none⟩), .int .i64 7, .int .i64 2, .int .i64 0] W fun e W' => e = .returned (.int .i64 1) ∧ Ow w gq g gb fX1 fQ1 W' ∧ Far W W' :=
  h.doneQ (by rw [fx_z1]; exact fx_o1) (by decide) 7 2 0 _ fx_d1
theorem fx_done2 (h : Ow w gq g gb fX1 fQ1 W) : Calls Try.prog 14 #[.pointer (some ⟨gq, 0, none⟩), .int .i64 7, .int .i64 1, .int .i64 0] W fun e W' => e = .returned (.int .i64 0) ∧ Ow w gq g gb fX2 fQ2 W' ∧ Far W W' :=
  h.doneQ (by rw [fx_z1]; exact fx_o1) (by decide) 7 1 0 _ fx_d2
theorem fx_done3 (h : Ow w gq g gb fX3 fQ4 W) : Calls Try.prog 14 #[.pointer (some ⟨gq, 0, none⟩), .int .i64 7, .int .i64 1, .int .i64 0] W fun e W' => e = .returned (.int .i64 141) ∧ Ow w gq g gb fX3 fQ4 W' ∧ Far W W' :=
  h.doneQ (by rw [fx_z3]; exact fx_o4) (by decide) 7 1 0 _ fx_d3
theorem fx_load (h : Ow w gq g gb fX2 fQ2 W) : Calls Try.prog 30 #[.pointer (some ⟨g, 0, none⟩), .int .i64 14, .int .i64 2] W fun e W' => e = .returned (.tuple #[.int .u64 32896, .int .i64 0]) ∧ Ow w gq g gb fX2 fQ2 W' ∧ Far W W' :=
  h.loadQ 14 2 (.inr (.inl rfl)) (by rw [fx_z2]; decide) 32896 fx_ld
theorem fx_tell1 (h : Ow w gq g gb fX2 fQ2 W) : Calls Try.prog 16 #[.pointer (some ⟨gq, 0, none⟩)] W fun e W' => e = .returned (.bool true) ∧ Ow w gq g gb fX2 fQ3 W' ∧ Far W W' :=
  h.tellQ (by rw [fx_z2]; exact fx_o2) _ fx_t1
theorem fx_tell2 (h : Ow w gq g gb fX2 fQ3 W) : Calls Try.prog 16 #[.pointer (some ⟨gq, 0, none⟩)] W fun e W' => e = .returned (.bool false) ∧ Ow w gq g gb fX2 fQ3 W' ∧ Far W W' :=
  h.tellQ (by rw [fx_z2]; exact fx_o3) _ fx_t2
theorem fx_write1 (h : Ow w gq g gb fX0 fQ0 W) (S : ByteArray) (hS : desB 128 5 7 128 = S) : Calls Try.prog 9 #[.pointer (some ⟨g, 0, none⟩), .int .i64 0, .string S] W fun e W' => (∃ n, e = .returned (.int .i64 n)) ∧ Ow w gq g gb fX1 fQ0 W' ∧ Far W W' := by
  subst hS
  exact (h.writeQ 0 (desB 128 5 7 128) (by rw [desB_size]; decide)).mono fun _ _ ⟨h1, h2⟩ => ⟨⟨_, h1⟩, h2⟩
theorem fx_write2 (h : Ow w gq g gb fX2 fQ3 W) (S : ByteArray) (hS : desB 255 5 7 128 = S) : Calls Try.prog 9 #[.pointer (some ⟨g, 0, none⟩), .int .i64 16, .string S] W fun e W' => (∃ n, e = .returned (.int .i64 n)) ∧ Ow w gq g gb fX3 fQ3 W' ∧ Far W W' := by
  subst hS
  exact (h.writeQ 16 (desB 255 5 7 128) (by rw [desB_size]; decide)).mono fun _ _ ⟨h1, h2⟩ => ⟨⟨_, h1⟩, h2⟩
theorem fx_broken (h : Ow w gq g gb fX3 fQ4 W) : Calls Try.prog 25 #[.pointer (some ⟨gq, 0, none⟩)] W fun e W' => e = .returned (.bool true) ∧ W = W' := h.brokenQ
theorem fx_out (h : Ow w gq g gb fX3 fQ4 W) : Calls Try.prog 26 #[.pointer (some ⟨gq, 0, none⟩)] W fun e W' => e = .returned (.int .i64 0) ∧ W = W' := h.outQ
theorem fx_same (A : Option Addr) (cap : Nat) (b : Nat) (h1 : PtsAt A fC.parts W) (h2 : Blk W b 56 #[.int .i64 128, .int .i64 5, .bool false]) :
    Calls Try.prog 13 #[.agg #[.int .i64 7, .int .i64 1, .slice A 1 cap], .agg #[.int .i64 7, .int .i64 1, .slice (some ⟨b, 0, none⟩) 1 1]] W fun e W' => e = .returned (.bool true) ∧ Below W.heap.size W W' :=
  same_yes fC A (some ⟨b, 0, none⟩) cap 1 W (by decide) h1 (PtsAt.of_blk h2 rfl)
end
set_option maxRecDepth 100000 in
set_option maxHeartbeats 3200000 in
theorem fixed_any (w : World) : Calls Try.prog 27 #[] w fun e w' => e = .returned (.bool true) ∧ Below w.heap.size w w' := by
  obtain ⟨S1, hS1⟩ : ∃ S, desB 128 5 7 128 = S := ⟨_, rfl⟩
  obtain ⟨S2, hS2⟩ : ∃ S, desB 255 5 7 128 = S := ⟨_, rfl⟩
  have HB1 : ∀ W, Calls Try.prog 29 #[.agg #[.int .u64 128, .int .u32 5, .int .i64 7, .int .i64 128]] W fun e w' => e = .returned (.tuple #[.string S1, .int .i64 0]) ∧ Below W.heap.size W w' := fun W => build_is 128 5 7 128 (by decide) (by decide) (by decide) (by decide) S1 hS1 W
  have HB2 : ∀ W, Calls Try.prog 29 #[.agg #[.int .u64 255, .int .u32 5, .int .i64 7, .int .i64 128]] W fun e w' => e = .returned (.tuple #[.string S2, .int .i64 0]) ∧ Below W.heap.size W w' := fun W => build_is 255 5 7 128 (by decide) (by decide) (by decide) (by decide) S2 hS2 W
  have HB1 := Lib.hid HB1
  have HB2 := Lib.hid HB2
  have HS1 := Lib.hid hS1
  have HS2 := Lib.hid hS2
  clear hS1 hS2
  go_enter Try.func27, Try.ntmps27
  go_wp2_with fail
  refine (laid_fixed _).mono ?_
  rintro e w1 ⟨gq, g, gb, gx, rfl, O1, -⟩
  have hb := ba (Below.refl w.heap.size w) (.cells #[.int .i64 0, .int .i64 4, .int .i64 64, .int .i64 68] 23)
  have HB := Lib.hid hb
  obtain ⟨w0, hw0⟩ : ∃ w0, w.alloc (.cells #[.int .i64 0, .int .i64 4, .int .i64 64, .int .i64 68] 23) = w0 := ⟨_, rfl⟩
  rw [hw0] at O1 HB
  have O1 := Lib.hid O1
  clear hb hw0
  go_wp2_with fail
  refine (fx_next1 O1.out).mono ?_
  rintro e w2 ⟨A1, cap1, rfl, O2, -⟩
  have O2 := Lib.hid (O2.next (ba (Below.refl _ _) (.cells #[.int .i64 0, .int .i64 0, .slice A1 0 cap1] 51)))
  clear O1
  go_wp2_with fail
  refine (HB1.out _).mono ?_
  rintro e w3 ⟨rfl, hq⟩
  have O3 := Lib.hid (O2.out.next hq)
  clear O2 hq
  go_wp2_with fail
  refine (fx_write1 O3.out S1 HS1.out).mono ?_
  rintro e w4 ⟨⟨n4, rfl⟩, O4, -⟩
  have O4 := Lib.hid O4
  clear O3
  go_wp2_with fail
  refine (fx_next2 O4.out).mono ?_
  rintro e w5 ⟨A, cap, rfl, own5, O5, -⟩
  have k5 := Blk.new w5 51 #[.int .i64 7, .int .i64 1, .slice A 1 cap]
  have O5 := Lib.hid (O5.next (ba (Below.refl _ _) (.cells #[.int .i64 7, .int .i64 1, .slice A 1 cap] 51)))
  have own5 := own5.alloc (.cells #[.int .i64 7, .int .i64 1, .slice A 1 cap] 51)
  clear O4
  go_wp2_with fail
  refine (fx_done1 O5.out).mono ?_
  rintro e w6 ⟨rfl, O6, f6⟩
  have k6 := k5.far f6 (by decide) (by decide) (by decide) (by decide)
  have own6 := own_far own5 f6 (by decide) (by decide) (by decide) (by decide)
  have O6 := Lib.hid O6
  clear O5 k5 own5 f6
  go_wp2_with fail
  refine (fx_done2 O6.out).mono ?_
  rintro e w7 ⟨rfl, O7, f7⟩
  have O7 := Lib.hid O7
  go_wp2_with fail
  refine (fx_load O7.out).mono ?_
  rintro e w8 ⟨rfl, O8, f8⟩
  have f8 := f7.trans f8
  have O8 := Lib.hid O8
  clear f7 O7 O6
  go_wp2_with fail
  refine (fx_tell1 O8.out).mono ?_
  rintro e w9 ⟨rfl, O9, f9⟩
  have f9 := f8.trans f9
  have O9 := Lib.hid O9
  clear f8 O8
  go_wp2_with fail
  refine (fx_tell2 O9.out).mono ?_
  rintro e w10 ⟨rfl, O10, f10⟩
  have f10 := f9.trans f10
  have O10 := Lib.hid O10
  clear f9 O9
  go_wp2_with fail
  refine (HB2.out _).mono ?_
  rintro e w11 ⟨rfl, hq⟩
  have O11 := Lib.hid (O10.out.next hq)
  have f11 := f10.trans (Far.of_below hq)
  clear O10 f10 hq
  go_wp2_with fail
  refine (fx_write2 O11.out S2 HS2.out).mono ?_
  rintro e w12 ⟨⟨n12, rfl⟩, O12, f12⟩
  have f12 := f11.trans f12
  have O12 := Lib.hid O12
  clear O11 f11
  go_wp2_with fail
  refine (fx_next3 O12.out).mono ?_
  rintro e w13 ⟨A3, cap3, rfl, O13, f13⟩
  have f13 := (f12.trans f13).trans (Far.of_below (ba (Below.refl _ _) (.cells #[.int .i64 0, .int .i64 0, .slice A3 0 cap3] 51)))
  have O13 := Lib.hid (O13.next (ba (Below.refl _ _) (.cells #[.int .i64 0, .int .i64 0, .slice A3 0 cap3] 51)))
  clear O12 f12
  go_wp2_with fail
  refine (O13.out.newQ 0 0 0 0 fx_l0).mono ?_
  rintro e w14 ⟨hq, rfl⟩
  have O14 := Lib.hid (O13.out.next hq)
  have f14 := f13.trans (Far.of_below hq)
  have k14 := k6.far f14 (by decide) (by decide) (by decide) (by decide)
  have own14 := own_far own6 f14 (by decide) (by decide) (by decide) (by decide)
  have c0 := k14.cell 0
  have c1 := k14.cell 1
  have c2 := k14.cell 2
  simp only [List.getElem?_toArray, List.getElem?_cons_zero, List.getElem?_cons_succ] at c0 c1 c2
  have P14 := Lib.hid (PtsAt.of_own (l := fC.parts) own14)
  have hlt := k14.lt
  clear O13 f13 f14 k6 own6 own14 hq
  go_wp2_with fail
  refine (fx_same A cap _ (P14.out.below (ba (Below.refl _ _) _)) (Blk.new _ _ _)).mono ?_
  rintro e w15 ⟨rfl, hq⟩
  have O15 := Lib.hid ((O14.out.next (ba (Below.refl _ _) (.cells #[.int .i64 128, .int .i64 5, .bool false] 56))).next hq)
  clear O14 P14 k14 c0 c1 c2 hlt hq
  go_wp2_with fail
  refine (fx_broken O15.out).mono ?_
  rintro e w16 ⟨rfl, rfl⟩
  go_wp2_with fail
  refine (fx_done3 O15.out).mono ?_
  rintro e w17 ⟨rfl, O17, -⟩
  have O17 := Lib.hid O17
  clear O15
  go_wp2_with fail
  refine (fx_out O17.out).mono ?_
  rintro e w18 ⟨rfl, rfl⟩
  go_wp2_with fail
  go_ret
  exact ⟨rfl, b0 HB.out O17.out.below⟩
end Go.Proofs.Ytoblemgeacllkaa
namespace Go.Proofs.Ytoblemgeacllkaa
open Go.RowKit

theorem newQ_since (r z x y : Int) : (newQ r z x y).since = 0 := rfl
theorem newQ_broken (r z x y : Int) : (newQ r z x y).broken = false := rfl
theorem lay_size {xs : List UInt8} {r z x y : Int} (h : layB xs r z x y = true) : 1 ≤ z ∧ z ≤ 32768 := by
  have h2 := lay_facts h
  simp only [layB, Bool.and_eq_true, decide_eq_true_eq] at h
  omega
/-- a queue broken: what each call tells -/
def brk (q : Qs) : Qs := { q with broken := true }
theorem next_brk (xs : List UInt8) (q : Qs) : nextC xs (brk q) = (noCh, false, 141, brk q) := by unfold nextC; rw [if_pos (show (brk q).broken = true from rfl)]
theorem done_brk (xs : List UInt8) (q : Qs) (i c v : Int) : doneC xs (brk q) i c v = (141, xs, brk q) := by unfold doneC; rw [if_pos (show (brk q).broken = true from rfl)]
theorem tell_brk (xs : List UInt8) (q : Qs) : tellC xs (brk q) = (false, brk q) := by unfold tellC; rw [if_pos (show (brk q).broken = true from rfl)]
theorem brk_ok {q : Qs} {n : Nat} (h : q.Ok n) : (brk q).Ok n := ⟨h.1, h.2, h.3, h.4, h.5, h.6, h.7, h.8, h.9⟩
set_option maxRecDepth 100000 in
set_option maxHeartbeats 3200000 in
theorem broken_none (b r z x y : Int) (A : Option Addr) (n c : Nat) (hL : layB (List.replicate (bytesN b) 0) r z x y = false) (w : World) :
    Calls Try.prog 5 #[.agg #[.int .i64 b, .int .i64 r, .int .i64 z, .int .i64 x, .int .i64 y, .slice A n c]] w fun e w' => e = .returned (.bool true) ∧ Below w.heap.size w w' := by
  have HL := Lib.hid (fun W => laid_none b r z x y (.slice A n c) hL W)
  have HF := Lib.hid fixed_any
  have hb1 := ba (Below.refl w.heap.size w) (.cells #[.int .i64 b, .int .i64 r, .int .i64 z, .int .i64 x, .int .i64 y, .slice A n c] 26)
  clear hL
  go_enter Try.func5, Try.ntmps5
  go_wp2_with fail
  refine (HL.out _).mono ?_
  rintro e w1 ⟨p, rfl, hq⟩
  have hb2 := b0 hb1 hq
  clear hb1 hq HL
  go_wp2_with (go_at_call 27; ((with_reducible refine (HF.out _).mono ?_); rintro e w2 ⟨rfl, hq⟩))
  go_ret
  exact ⟨rfl, b0 hb2 hq⟩
set_option maxRecDepth 100000 in
set_option maxHeartbeats 6400000 in
theorem broken_some (b r z x y : Int) (A : Option Addr) (n c : Nat) (hL : layB (List.replicate (bytesN b) 0) r z x y = true) (w : World) (hA : OpsAt A n w) :
    Calls Try.prog 5 #[.agg #[.int .i64 b, .int .i64 r, .int .i64 z, .int .i64 x, .int .i64 y, .slice A n c]] w fun e w' => e = .returned (.bool true) ∧ Below w.heap.size w w' := by
  have HL := Lib.hid (fun W => laid_good b r z x y (.slice A n c) hL W)
  have HF := Lib.hid fixed_any
  have hb1 := Lib.hid (ba (Below.refl w.heap.size w) (.cells #[.int .i64 b, .int .i64 r, .int .i64 z, .int .i64 x, .int .i64 y, .slice A n c] 26))
  have hz := (lay_size hL).1
  have hok := newQ_ok hL
  have hbx := Blk.new w 26 #[.int .i64 b, .int .i64 r, .int .i64 z, .int .i64 x, .int .i64 y, .slice A n c]
  have hA1 := hA.below (ba (Below.refl _ _) (.cells #[.int .i64 b, .int .i64 r, .int .i64 z, .int .i64 x, .int .i64 y, .slice A n c] 26))
  obtain ⟨xs0, hX0⟩ : ∃ X, List.replicate (bytesN b) (0 : UInt8) = X := ⟨_, rfl⟩
  rw [hX0] at HL hL hok
  obtain ⟨q0, hQ⟩ : ∃ q, newQ r z x y = q := ⟨_, rfl⟩
  rw [hQ] at HL hok
  clear hA hX0 hL
  go_enter Try.func5, Try.ntmps5
  go_wp2_with fail
  refine (HL.out _).mono ?_
  rintro e w1 ⟨gq, g, gb, gx, rfl, O1⟩
  obtain ⟨w0, hw0⟩ : ∃ w0, w.alloc (.cells #[.int .i64 b, .int .i64 r, .int .i64 z, .int .i64 x, .int .i64 y, .slice A n c] 26) = w0 := ⟨_, rfl⟩
  rw [hw0] at hb1 hbx hA1 O1
  have O1 := Lib.hid O1
  generalize w.heap.size = g0 at hbx ⊢
  clear hw0 HL
  go_wp2_with fail
  go_loopw [7] (fun i wr => ∃ k : Nat, k ≤ n ∧ i = .int .i64 k ∧ ∃ xs, xs.length = xs0.length ∧ Ow w0 gq g gb xs q0 wr) (fun i _ => n - (intOf i).toNat)
  case atStart => exact ⟨0, Nat.zero_le _, rfl, xs0, rfl, O1.out⟩
  case round =>
    obtain ⟨k, hk, rfl, xs, hx, O⟩ := hrel
    have O := Lib.hid O
    have hb := O.out.below
    have hbk := hbx.same (hb.block _ hbx.lt)
    have c5 := hbk.cell 5
    simp only [List.getElem?_toArray, List.getElem?_cons_zero, List.getElem?_cons_succ] at c5
    by_cases hlt : k < n ∧ k < 50
    · obtain ⟨l1, l2⟩ := hlt
      obtain ⟨b1, off, o, rfl, ho, hb1', hcs⟩ := hA1.op k l1
      have hf : WF g0 r z x y b1 off n c k o w0 := ⟨⟨hbx.cell 1, hbx.cell 2, hbx.cell 3, hbx.cell 4, hbx.cell 5⟩, hcs⟩
      have HM := Lib.hid (fun W => memory_any o ho r z x y hz W)
      have i0 := WFs.start (hf.next hbx.lt hb1' hb) (Nat.lt_of_lt_of_le hbx.lt hb.size) (Nat.lt_of_lt_of_le hb1' hb.size)
      have hkn : (k : Int) < (n : Int) := by omega
      go_wp2_with fail
      go_region_held3 (fun w' => ((w'.cell? ⟨g0, 1, none⟩ = some (.int .i64 r) ∧ w'.cell? ⟨g0, 2, none⟩ = some (.int .i64 z) ∧ w'.cell? ⟨g0, 3, none⟩ = some (.int .i64 x) ∧ w'.cell? ⟨g0, 4, none⟩ = some (.int .i64 y) ∧ w'.cell? ⟨g0, 5, none⟩ = some (.slice (some ⟨b1, off, none⟩) n c)) ∧
    (w'.cell? ⟨b1, off + k * 13, none⟩ = some (.int .i64 o.k) ∧ w'.cell? ⟨b1, off + k * 13 + 1, none⟩ = some (.int .i64 o.a) ∧ w'.cell? ⟨b1, off + k * 13 + 2, none⟩ = some (.int .u64 (o.da : Int)) ∧ w'.cell? ⟨b1, off + k * 13 + 3, none⟩ = some (.int .u32 (o.dn : Int)) ∧
      w'.cell? ⟨b1, off + k * 13 + 4, none⟩ = some (.int .i64 o.di) ∧ w'.cell? ⟨b1, off + k * 13 + 5, none⟩ = some (.int .i64 o.df) ∧ w'.cell? ⟨b1, off + k * 13 + 6, none⟩ = some (.string o.s) ∧ w'.cell? ⟨b1, off + k * 13 + 7, none⟩ = some (.int .i64 o.n) ∧ w'.cell? ⟨b1, off + k * 13 + 8, none⟩ = some (.int .i64 o.wr) ∧
      w'.cell? ⟨b1, off + k * 13 + 9, none⟩ = some (.int .i64 o.eo) ∧ w'.cell? ⟨b1, off + k * 13 + 10, none⟩ = some (.bool o.ew) ∧ w'.cell? ⟨b1, off + k * 13 + 11, none⟩ = some (.int .i64 o.ef) ∧ w'.cell? ⟨b1, off + k * 13 + 12, none⟩ = some (.bool o.v))) ∧ WFs g0 r z x y b1 off n c k o wr w')
        (first | exact i0 | exact WFs.after (by assumption) hq)
        (first | (go_at_call 8; (with_reducible refine (HM.out _).mono ?_); rintro e w' ⟨pa, ps, pis, rfl, hps, hq⟩))
      rename_i w2 hH
      have O2 := Lib.hid (O.out.next hH.2.2.1)
      clear hH i0 O c5 hbk hb hcs HM O1 HF
      have hps : ps.size ≤ maxLen := by unfold maxLen; omega
      cases pis
      · go_wp2_with fail
        go_roundw
        case rel => exact ⟨k + 1, by omega, by go_num, xs, hx, O2.out⟩
        case measure => simp [intOf]; omega
      · go_wp2_with fail
        refine (O2.out.writeQ pa ps hps).mono ?_
        rintro e w3 ⟨rfl, O3, -⟩
        go_wp2_with fail
        go_roundw
        case rel => exact ⟨k + 1, by omega, by go_num, _, (wrX_length _ _ _).trans hx, O3⟩
        case measure => simp [intOf]; omega
    · have O := O.out
      have hok2 : (brk q0).Ok xs.length := by rw [hx]; exact brk_ok hok
      have hsi : (brk q0).since ≤ 1099511627776 := by rw [← hQ]; exact Nat.zero_le _
      by_cases l1 : k < n
      · have l2 : ¬ k < 50 := fun h => hlt ⟨l1, h⟩
        clear hbk hb O1 hlt
        go_wp2_with fail
        clear c5
        refine O.failQ.mono ?_
        rintro e w2 ⟨rfl, O2, -⟩
        have O2 : Ow w0 gq g gb xs (brk q0) w2 := O2
        obtain ⟨S, hS⟩ : ∃ S : ByteArray, ⟨xs.toArray⟩ = S := ⟨_, rfl⟩
        go_wp2_with fail
        refine O2.imageQ.mono ?_
        rintro e w3 ⟨rfl, rfl⟩
        rw [hS]
        go_wp2_with fail
        refine (O2.nextQ hok2 _ (next_brk xs q0)).mono ?_
        rintro e w3 ⟨A3, cap3, rfl, -, O3, -⟩
        have O4 := Lib.hid (O3.next (ba (Below.refl _ _) (.cells #[.int .i64 0, .int .i64 0, .slice A3 0 cap3] 51)))
        have k4 := Blk.new w3 51 #[.int .i64 0, .int .i64 0, .slice A3 0 cap3]
        clear O O2 O3
        go_wp2_with fail
        refine (O4.out.doneQ hok2 hsi 0 1 1 _ (done_brk xs q0 0 1 1)).mono ?_
        rintro e w5 ⟨rfl, O5, f5⟩
        have k5 := k4.far f5 (by decide) (by decide) (by decide) (by decide)
        have O5 := Lib.hid O5
        clear O4 k4 f5
        go_wp2_with fail
        refine (O5.out.askQ hok2 0 0 false).mono ?_
        rintro e w6 ⟨rfl, O6, f6⟩
        have k6 := k5.far f6 (by decide) (by decide) (by decide) (by decide)
        have O6 : Ow w0 gq g gb xs (brk q0) w6 := O6
        have O6 := Lib.hid O6
        have ea : askE (brk q0) 0 0 = 141 := rfl
        rw [ea]
        have c6 := k6.cell 2
        simp only [List.getElem?_toArray, List.getElem?_cons_zero, List.getElem?_cons_succ] at c6
        clear O5 k5 f6
        go_wp2_with fail
        refine (O6.out.tellQ hok2 _ (tell_brk xs q0)).mono ?_
        rintro e w7 ⟨rfl, O7, -⟩
        have O7 := Lib.hid O7
        clear O6 k6 c6
        go_wp2_with fail
        refine O7.out.brokenQ.mono ?_
        rintro e w8 ⟨rfl, rfl⟩
        have eb : (brk q0).broken = true := rfl
        rw [eb]
        go_wp2_with fail
        refine O7.out.imageQ.mono ?_
        rintro e w8 ⟨rfl, rfl⟩
        rw [hS]
        go_wp2_with fail
        refine (HF.out _).mono ?_
        rintro e w8 ⟨rfl, hq⟩
        go_wp2_with fail
        go_ret
        exact ⟨rfl, b0 hb1.out (b0 O7.out.below hq)⟩
      · clear hbk hb O1 hlt
        go_wp2_with fail
        clear c5
        refine O.failQ.mono ?_
        rintro e w2 ⟨rfl, O2, -⟩
        have O2 : Ow w0 gq g gb xs (brk q0) w2 := O2
        obtain ⟨S, hS⟩ : ∃ S : ByteArray, ⟨xs.toArray⟩ = S := ⟨_, rfl⟩
        go_wp2_with fail
        refine O2.imageQ.mono ?_
        rintro e w3 ⟨rfl, rfl⟩
        rw [hS]
        go_wp2_with fail
        refine (O2.nextQ hok2 _ (next_brk xs q0)).mono ?_
        rintro e w3 ⟨A3, cap3, rfl, -, O3, -⟩
        have O4 := Lib.hid (O3.next (ba (Below.refl _ _) (.cells #[.int .i64 0, .int .i64 0, .slice A3 0 cap3] 51)))
        have k4 := Blk.new w3 51 #[.int .i64 0, .int .i64 0, .slice A3 0 cap3]
        clear O O2 O3
        go_wp2_with fail
        refine (O4.out.doneQ hok2 hsi 0 1 1 _ (done_brk xs q0 0 1 1)).mono ?_
        rintro e w5 ⟨rfl, O5, f5⟩
        have k5 := k4.far f5 (by decide) (by decide) (by decide) (by decide)
        have O5 := Lib.hid O5
        clear O4 k4 f5
        go_wp2_with fail
        refine (O5.out.askQ hok2 0 0 false).mono ?_
        rintro e w6 ⟨rfl, O6, f6⟩
        have k6 := k5.far f6 (by decide) (by decide) (by decide) (by decide)
        have O6 : Ow w0 gq g gb xs (brk q0) w6 := O6
        have O6 := Lib.hid O6
        have ea : askE (brk q0) 0 0 = 141 := rfl
        rw [ea]
        have c6 := k6.cell 2
        simp only [List.getElem?_toArray, List.getElem?_cons_zero, List.getElem?_cons_succ] at c6
        clear O5 k5 f6
        go_wp2_with fail
        refine (O6.out.tellQ hok2 _ (tell_brk xs q0)).mono ?_
        rintro e w7 ⟨rfl, O7, -⟩
        have O7 := Lib.hid O7
        clear O6 k6 c6
        go_wp2_with fail
        refine O7.out.brokenQ.mono ?_
        rintro e w8 ⟨rfl, rfl⟩
        have eb : (brk q0).broken = true := rfl
        rw [eb]
        go_wp2_with fail
        refine O7.out.imageQ.mono ?_
        rintro e w8 ⟨rfl, rfl⟩
        rw [hS]
        go_wp2_with fail
        refine (HF.out _).mono ?_
        rintro e w8 ⟨rfl, hq⟩
        go_wp2_with fail
        go_ret
        exact ⟨rfl, b0 hb1.out (b0 O7.out.below hq)⟩
theorem broken_all (b r z x y : Int) (A : Option Addr) (n c : Nat) (w : World) (hA : OpsAt A n w) :
    Calls Try.prog 5 #[.agg #[.int .i64 b, .int .i64 r, .int .i64 z, .int .i64 x, .int .i64 y, .slice A n c]] w fun e w' => e = .returned (.bool true) ∧ Below w.heap.size w w' := by
  cases hL : layB (List.replicate (bytesN b) 0) r z x y
  · exact broken_none b r z x y A n c hL w
  · exact broken_some b r z x y A n c hL w hA
end Go.Proofs.Ytoblemgeacllkaa
