/-
  What the document's Need answers.
-/
import Derived.Test.YtcofbaioflfehaaSnd
namespace Go.Proofs.Ytcofbaioflfehaa
open Go.RowKit

theorem rneed_bad (o f a c n G E : Int) (v b d : Bool) (w : World) (HG : ∀ W, Calls Try.prog 13 #[.agg #[.int .i64 a, .bool b], .agg #[.int .i64 c, .bool d], .int .i64 n] W (RG W G E)) (hE : (E != 0) = true) : Calls Try.prog 22 #[.agg #[.int .i64 o, .bool v, .int .i64 f], .agg #[.int .i64 a, .bool b], .agg #[.int .i64 c, .bool d], .int .i64 n] w (RB w false) := by
  have H := Lib.hid HG
  clear HG
  go_enter Try.func22, Try.ntmps22
  go_wp2_with fail
  refine (H.out _).mono ?_
  rintro e w1 ⟨rfl, hq⟩
  have h1 := (Tri.new w (.int .i64 o) (.bool v) (.int .i64 f) (.int .i64 a) (.bool b) (.int .i64 c) (.bool d)).next hq
  clear hq
  obtain ⟨p0, p1, p2, p3, p4, p5, p6, z0, z1⟩ := h1.facts
  go_wp2_with fail
  go_ret
  exact ⟨rfl, h1.below⟩
theorem rneed_far (o f a c n G : Int) (v b d : Bool) (w : World) (HG : ∀ W, Calls Try.prog 13 #[.agg #[.int .i64 a, .bool b], .agg #[.int .i64 c, .bool d], .int .i64 n] W (RG W G 0)) (h : n < G) : Calls Try.prog 22 #[.agg #[.int .i64 o, .bool v, .int .i64 f], .agg #[.int .i64 a, .bool b], .agg #[.int .i64 c, .bool d], .int .i64 n] w (RB w false) := by
  have H := Lib.hid HG
  clear HG
  go_enter Try.func22, Try.ntmps22
  go_wp2_with fail
  refine (H.out _).mono ?_
  rintro e w1 ⟨rfl, hq⟩
  have h1 := (Tri.new w (.int .i64 o) (.bool v) (.int .i64 f) (.int .i64 a) (.bool b) (.int .i64 c) (.bool d)).next hq
  clear hq
  obtain ⟨p0, p1, p2, p3, p4, p5, p6, z0, z1⟩ := h1.facts
  go_wp2_with fail
  go_ret
  exact ⟨rfl, h1.below⟩
theorem rneed_zero (o a c n G : Int) (v b d : Bool) (w : World) (HG : ∀ W, Calls Try.prog 13 #[.agg #[.int .i64 a, .bool b], .agg #[.int .i64 c, .bool d], .int .i64 n] W (RG W G 0)) (h : ¬ n < G) : Calls Try.prog 22 #[.agg #[.int .i64 o, .bool v, .int .i64 0], .agg #[.int .i64 a, .bool b], .agg #[.int .i64 c, .bool d], .int .i64 n] w (RB w (decide (0 < G))) := by
  have H := Lib.hid HG
  clear HG
  go_enter Try.func22, Try.ntmps22
  go_wp2_with fail
  refine (H.out _).mono ?_
  rintro e w1 ⟨rfl, hq⟩
  have h1 := (Tri.new w (.int .i64 o) (.bool v) (.int .i64 0) (.int .i64 a) (.bool b) (.int .i64 c) (.bool d)).next hq
  clear hq
  obtain ⟨p0, p1, p2, p3, p4, p5, p6, z0, z1⟩ := h1.facts
  go_wp2_with fail
  go_ret
  exact ⟨rfl, h1.below⟩
theorem rneed_none (o f a c n : Int) (G : Nat) (v b d : Bool) (w : World) (HG : ∀ W, Calls Try.prog 13 #[.agg #[.int .i64 a, .bool b], .agg #[.int .i64 c, .bool d], .int .i64 n] W (RG W G 0)) (f0 : (f == 0) = false) (f2 : (f == 2) = false) (h : (G : Int) ≤ n) (h1 : 1 ≤ n) (h2 : n ≤ 32768) (h3 : 0 ≤ a) (h4 : a < n) : Calls Try.prog 22 #[.agg #[.int .i64 o, .bool v, .int .i64 f], .agg #[.int .i64 a, .bool b], .agg #[.int .i64 c, .bool d], .int .i64 n] w (RB w false) := by
  have H := Lib.hid HG
  clear HG
  have HL := Lib.hid h4
  clear h4
  go_enter Try.func22, Try.ntmps22
  go_wp2_with fail
  refine (H.out _).mono ?_
  rintro e w1 ⟨rfl, hq⟩
  have t1 := (Tri.new w (.int .i64 o) (.bool v) (.int .i64 f) (.int .i64 a) (.bool b) (.int .i64 c) (.bool d)).next hq
  clear hq
  obtain ⟨p0, p1, p2, p3, p4, p5, p6, z0, z1⟩ := t1.facts
  go_wp2_with fail
  clear p0 p1 p2 p3 p4 p5 p6 z0 z1
  go_loopw [11] (fun i wr => ∃ k : Nat, k ≤ G ∧ i = .int .i64 k ∧ ∃ x y, 0 ≤ x ∧ x < n ∧ gp a x n b y = k ∧ Tri w (.int .i64 o) (.bool v) (.int .i64 f) (.int .i64 x) (.bool y) (.int .i64 c) (.bool d) wr) (fun i _ => G - (intOf i).toNat)
  case atStart => exact ⟨0, Nat.zero_le _, rfl, a, b, h3, HL.out, gp_same a n b, t1⟩
  case round =>
    obtain ⟨k, hk, rfl, x, y, x0, x1, hg, t2⟩ := hrel
    clear t1
    by_cases hlt : k < G
    · have hG := Lib.hid hg
      have hs : gp a x n b y + 1 < 2 * n := by omega
      obtain ⟨p0, p1, p2, p3, p4, p5, p6, z0, z1⟩ := t2.facts
      by_cases ht : x = n - 1
      · subst ht
        have HT := Lib.hid (gp_turn (b := b) (y := y) h3 HL.out hs)
        clear hg hs
        go_wp2_with fail
        refine (one_top n y _ h1 h2).mono ?_
        rintro e w3 ⟨rfl, hq⟩
        clear p0 p1 p2 p3 p4 p5 p6 z0 z1
        have t3 := t2.next hq
        clear hq
        obtain ⟨p0, p1, p2, p3, p4, p5, p6, z0, z1⟩ := t3.facts
        go_wp2_with fail
        have t4 := (t3.put0 (.int .i64 0)).put1 (.bool (!y))
        go_roundw
        case rel => exact ⟨k + 1, by omega, by go_num, 0, !y, by omega, by omega, by rw [HT.out, hG.out]; rfl, t4⟩
        case measure => simp [intOf]; omega
      · have hx : x < n - 1 := by omega
        have HT := Lib.hid (gp_step (b := b) (y := y) h3 HL.out x0 hx hs)
        clear hg hs
        go_wp2_with fail
        refine (one_low x n y _ h1 h2 x0 hx).mono ?_
        rintro e w3 ⟨rfl, hq⟩
        clear p0 p1 p2 p3 p4 p5 p6 z0 z1
        have t3 := t2.next hq
        clear hq
        obtain ⟨p0, p1, p2, p3, p4, p5, p6, z0, z1⟩ := t3.facts
        go_wp2_with fail
        have t4 := (t3.put0 (.int .i64 (x + 1))).put1 (.bool y)
        go_roundw
        case rel => exact ⟨k + 1, by omega, by go_num, x + 1, y, by omega, by omega, by rw [HT.out, hG.out]; rfl, t4⟩
        case measure => simp [intOf]; omega
    · obtain rfl : k = G := by omega
      obtain ⟨p0, p1, p2, p3, p4, p5, p6, z0, z1⟩ := t2.facts
      clear hg
      go_wp2_with fail
      go_ret
      exact ⟨rfl, t2.below⟩
theorem rneed_miss (o a c n : Int) (G : Nat) (v b d : Bool) (w : World) (HG : ∀ W, Calls Try.prog 13 #[.agg #[.int .i64 a, .bool b], .agg #[.int .i64 c, .bool d], .int .i64 n] W (RG W G 0)) (h : (G : Int) ≤ n) (hM : ∀ x y, 0 ≤ x → x < n → gp a x n b y < G → ¬ (x = o ∧ y = v)) (h1 : 1 ≤ n) (h2 : n ≤ 32768) (h3 : 0 ≤ a) (h4 : a < n) : Calls Try.prog 22 #[.agg #[.int .i64 o, .bool v, .int .i64 2], .agg #[.int .i64 a, .bool b], .agg #[.int .i64 c, .bool d], .int .i64 n] w (RB w false) := by
  have H := Lib.hid HG
  clear HG
  have HM := Lib.hid hM
  clear hM
  have HL := Lib.hid h4
  clear h4
  go_enter Try.func22, Try.ntmps22
  go_wp2_with fail
  refine (H.out _).mono ?_
  rintro e w1 ⟨rfl, hq⟩
  have t1 := (Tri.new w (.int .i64 o) (.bool v) (.int .i64 2) (.int .i64 a) (.bool b) (.int .i64 c) (.bool d)).next hq
  clear hq
  obtain ⟨p0, p1, p2, p3, p4, p5, p6, z0, z1⟩ := t1.facts
  go_wp2_with fail
  clear p0 p1 p2 p3 p4 p5 p6 z0 z1
  go_loopw [11] (fun i wr => ∃ k : Nat, k ≤ G ∧ i = .int .i64 k ∧ ∃ x y, 0 ≤ x ∧ x < n ∧ gp a x n b y = k ∧ Tri w (.int .i64 o) (.bool v) (.int .i64 2) (.int .i64 x) (.bool y) (.int .i64 c) (.bool d) wr) (fun i _ => G - (intOf i).toNat)
  case atStart => exact ⟨0, Nat.zero_le _, rfl, a, b, h3, HL.out, gp_same a n b, t1⟩
  case round =>
    obtain ⟨k, hk, rfl, x, y, x0, x1, hg, t2⟩ := hrel
    clear t1
    by_cases hlt : k < G
    · have hG := Lib.hid hg
      have hs : gp a x n b y + 1 < 2 * n := by omega
      obtain ⟨p0, p1, p2, p3, p4, p5, p6, z0, z1⟩ := t2.facts
      by_cases hc : x = o
      · subst hc
        obtain rfl : v = !y := by
          have hne : y ≠ v := by
            rintro rfl
            exact HM.out x y x0 x1 (by omega) ⟨rfl, rfl⟩
          revert hne; cases y <;> cases v <;> simp
        by_cases ht : x = n - 1
        · subst ht
          have HT := Lib.hid (gp_turn (b := b) (y := y) h3 HL.out hs)
          clear hg hs
          go_wp2_with fail
          refine (one_top n y _ h1 h2).mono ?_
          rintro e w3 ⟨rfl, hq⟩
          clear p0 p1 p2 p3 p4 p5 p6 z0 z1
          have t3 := t2.next hq
          clear hq
          obtain ⟨p0, p1, p2, p3, p4, p5, p6, z0, z1⟩ := t3.facts
          go_wp2_with fail
          have t4 := (t3.put0 (.int .i64 0)).put1 (.bool (!y))
          go_roundw
          case rel => exact ⟨k + 1, by omega, by go_num, 0, !y, by omega, by omega, by rw [HT.out, hG.out]; rfl, t4⟩
          case measure => simp [intOf]; omega
        · have hx : x < n - 1 := by omega
          have HT := Lib.hid (gp_step (b := b) (y := y) h3 HL.out x0 hx hs)
          clear hg hs
          go_wp2_with fail
          refine (one_low x n y _ h1 h2 x0 hx).mono ?_
          rintro e w3 ⟨rfl, hq⟩
          clear p0 p1 p2 p3 p4 p5 p6 z0 z1
          have t3 := t2.next hq
          clear hq
          obtain ⟨p0, p1, p2, p3, p4, p5, p6, z0, z1⟩ := t3.facts
          go_wp2_with fail
          have t4 := (t3.put0 (.int .i64 (x + 1))).put1 (.bool y)
          go_roundw
          case rel => exact ⟨k + 1, by omega, by go_num, x + 1, y, by omega, by omega, by rw [HT.out, hG.out]; rfl, t4⟩
          case measure => simp [intOf]; omega
      · have hne : (x == o) = false := beq_eq_false_iff_ne.2 hc
        clear hc
        by_cases ht : x = n - 1
        · subst ht
          have HT := Lib.hid (gp_turn (b := b) (y := y) h3 HL.out hs)
          clear hg hs
          go_wp2_with fail
          refine (one_top n y _ h1 h2).mono ?_
          rintro e w3 ⟨rfl, hq⟩
          clear p0 p1 p2 p3 p4 p5 p6 z0 z1
          have t3 := t2.next hq
          clear hq
          obtain ⟨p0, p1, p2, p3, p4, p5, p6, z0, z1⟩ := t3.facts
          go_wp2_with fail
          have t4 := (t3.put0 (.int .i64 0)).put1 (.bool (!y))
          go_roundw
          case rel => exact ⟨k + 1, by omega, by go_num, 0, !y, by omega, by omega, by rw [HT.out, hG.out]; rfl, t4⟩
          case measure => simp [intOf]; omega
        · have hx : x < n - 1 := by omega
          have HT := Lib.hid (gp_step (b := b) (y := y) h3 HL.out x0 hx hs)
          clear hg hs
          go_wp2_with fail
          refine (one_low x n y _ h1 h2 x0 hx).mono ?_
          rintro e w3 ⟨rfl, hq⟩
          clear p0 p1 p2 p3 p4 p5 p6 z0 z1
          have t3 := t2.next hq
          clear hq
          obtain ⟨p0, p1, p2, p3, p4, p5, p6, z0, z1⟩ := t3.facts
          go_wp2_with fail
          have t4 := (t3.put0 (.int .i64 (x + 1))).put1 (.bool y)
          go_roundw
          case rel => exact ⟨k + 1, by omega, by go_num, x + 1, y, by omega, by omega, by rw [HT.out, hG.out]; rfl, t4⟩
          case measure => simp [intOf]; omega
    · obtain rfl : k = G := by omega
      obtain ⟨p0, p1, p2, p3, p4, p5, p6, z0, z1⟩ := t2.facts
      clear hg
      go_wp2_with fail
      go_ret
      exact ⟨rfl, t2.below⟩
theorem rneed_hit (o a c n : Int) (G : Nat) (v b d : Bool) (w : World) (HG : ∀ W, Calls Try.prog 13 #[.agg #[.int .i64 a, .bool b], .agg #[.int .i64 c, .bool d], .int .i64 n] W (RG W G 0)) (h : (G : Int) ≤ n) (D : Nat) (hD : D < G) (hO : gp a o n b v = D) (hM : ∀ x y, 0 ≤ x → x < n → gp a x n b y = D → x = o ∧ y = v) (h1 : 1 ≤ n) (h2 : n ≤ 32768) (h3 : 0 ≤ a) (h4 : a < n) : Calls Try.prog 22 #[.agg #[.int .i64 o, .bool v, .int .i64 2], .agg #[.int .i64 a, .bool b], .agg #[.int .i64 c, .bool d], .int .i64 n] w (RB w true) := by
  have H := Lib.hid HG
  clear HG
  have HM := Lib.hid hM
  have HO := Lib.hid hO
  clear hM hO
  have HL := Lib.hid h4
  clear h4
  go_enter Try.func22, Try.ntmps22
  go_wp2_with fail
  refine (H.out _).mono ?_
  rintro e w1 ⟨rfl, hq⟩
  have t1 := (Tri.new w (.int .i64 o) (.bool v) (.int .i64 2) (.int .i64 a) (.bool b) (.int .i64 c) (.bool d)).next hq
  clear hq
  obtain ⟨p0, p1, p2, p3, p4, p5, p6, z0, z1⟩ := t1.facts
  go_wp2_with fail
  clear p0 p1 p2 p3 p4 p5 p6 z0 z1
  go_loopw [11] (fun i wr => ∃ k : Nat, k ≤ D ∧ i = .int .i64 k ∧ ∃ x y, 0 ≤ x ∧ x < n ∧ gp a x n b y = k ∧ Tri w (.int .i64 o) (.bool v) (.int .i64 2) (.int .i64 x) (.bool y) (.int .i64 c) (.bool d) wr) (fun i _ => D - (intOf i).toNat)
  case atStart => exact ⟨0, Nat.zero_le _, rfl, a, b, h3, HL.out, gp_same a n b, t1⟩
  case round =>
    obtain ⟨k, hk, rfl, x, y, x0, x1, hg, t2⟩ := hrel
    clear t1
    by_cases hlt : k < D
    · have hG := Lib.hid hg
      have hs : gp a x n b y + 1 < 2 * n := by omega
      obtain ⟨p0, p1, p2, p3, p4, p5, p6, z0, z1⟩ := t2.facts
      by_cases hc : x = o
      · subst hc
        obtain rfl : v = !y := by
          have hne : y ≠ v := by
            rintro rfl
            have := HO.out
            omega
          revert hne; cases y <;> cases v <;> simp
        by_cases ht : x = n - 1
        · subst ht
          have HT := Lib.hid (gp_turn (b := b) (y := y) h3 HL.out hs)
          clear hg hs
          go_wp2_with fail
          refine (one_top n y _ h1 h2).mono ?_
          rintro e w3 ⟨rfl, hq⟩
          clear p0 p1 p2 p3 p4 p5 p6 z0 z1
          have t3 := t2.next hq
          clear hq
          obtain ⟨p0, p1, p2, p3, p4, p5, p6, z0, z1⟩ := t3.facts
          go_wp2_with fail
          have t4 := (t3.put0 (.int .i64 0)).put1 (.bool (!y))
          go_roundw
          case rel => exact ⟨k + 1, by omega, by go_num, 0, !y, by omega, by omega, by rw [HT.out, hG.out]; rfl, t4⟩
          case measure => simp [intOf]; omega
        · have hx : x < n - 1 := by omega
          have HT := Lib.hid (gp_step (b := b) (y := y) h3 HL.out x0 hx hs)
          clear hg hs
          go_wp2_with fail
          refine (one_low x n y _ h1 h2 x0 hx).mono ?_
          rintro e w3 ⟨rfl, hq⟩
          clear p0 p1 p2 p3 p4 p5 p6 z0 z1
          have t3 := t2.next hq
          clear hq
          obtain ⟨p0, p1, p2, p3, p4, p5, p6, z0, z1⟩ := t3.facts
          go_wp2_with fail
          have t4 := (t3.put0 (.int .i64 (x + 1))).put1 (.bool y)
          go_roundw
          case rel => exact ⟨k + 1, by omega, by go_num, x + 1, y, by omega, by omega, by rw [HT.out, hG.out]; rfl, t4⟩
          case measure => simp [intOf]; omega
      · have hne : (x == o) = false := beq_eq_false_iff_ne.2 hc
        clear hc
        by_cases ht : x = n - 1
        · subst ht
          have HT := Lib.hid (gp_turn (b := b) (y := y) h3 HL.out hs)
          clear hg hs
          go_wp2_with fail
          refine (one_top n y _ h1 h2).mono ?_
          rintro e w3 ⟨rfl, hq⟩
          clear p0 p1 p2 p3 p4 p5 p6 z0 z1
          have t3 := t2.next hq
          clear hq
          obtain ⟨p0, p1, p2, p3, p4, p5, p6, z0, z1⟩ := t3.facts
          go_wp2_with fail
          have t4 := (t3.put0 (.int .i64 0)).put1 (.bool (!y))
          go_roundw
          case rel => exact ⟨k + 1, by omega, by go_num, 0, !y, by omega, by omega, by rw [HT.out, hG.out]; rfl, t4⟩
          case measure => simp [intOf]; omega
        · have hx : x < n - 1 := by omega
          have HT := Lib.hid (gp_step (b := b) (y := y) h3 HL.out x0 hx hs)
          clear hg hs
          go_wp2_with fail
          refine (one_low x n y _ h1 h2 x0 hx).mono ?_
          rintro e w3 ⟨rfl, hq⟩
          clear p0 p1 p2 p3 p4 p5 p6 z0 z1
          have t3 := t2.next hq
          clear hq
          obtain ⟨p0, p1, p2, p3, p4, p5, p6, z0, z1⟩ := t3.facts
          go_wp2_with fail
          have t4 := (t3.put0 (.int .i64 (x + 1))).put1 (.bool y)
          go_roundw
          case rel => exact ⟨k + 1, by omega, by go_num, x + 1, y, by omega, by omega, by rw [HT.out, hG.out]; rfl, t4⟩
          case measure => simp [intOf]; omega
    · obtain rfl : k = D := by omega
      obtain ⟨rfl, rfl⟩ := HM.out x y x0 x1 hg
      obtain ⟨p0, p1, p2, p3, p4, p5, p6, z0, z1⟩ := t2.facts
      clear hg
      go_wp2_with fail
      go_ret
      exact ⟨rfl, t2.below⟩
theorem rneed_any (o f a c n : Int) (v b d : Bool) (w : World) : Calls Try.prog 22 #[.agg #[.int .i64 o, .bool v, .int .i64 f], .agg #[.int .i64 a, .bool b], .agg #[.int .i64 c, .bool d], .int .i64 n] w (RB w (needV o v f a b c d n)) := by
  have HG := fun W => rgap_any a c n b d W
  unfold needV
  by_cases h0 : gpE a c n = 0
  · rw [h0] at HG
    rw [gpV_ok b d h0] at HG
    by_cases h1 : n < gp a c n b d
    · rw [if_pos (Or.inr h1)]
      exact rneed_far o f a c n _ v b d w HG h1
    rw [if_neg (by omega)]
    obtain ⟨n1, n2, h3, h4, h5, h6⟩ := gpE_zero h0
    by_cases f0 : f = 0
    · subst f0
      rw [if_pos rfl]
      exact rneed_zero o a c n _ v b d w HG h1
    rw [if_neg f0]
    obtain ⟨G, hG⟩ := Int.eq_ofNat_of_zero_le (gp_low (b := b) (d := d) h3 h4 h5 h6)
    rw [hG] at HG h1 ⊢
    by_cases f2 : f = 2
    · subst f2
      rw [if_pos rfl]
      by_cases k : gpE a o n = 0 ∧ gp a o n b v < G
      · rw [decide_eq_true k]
        obtain ⟨k0, k1⟩ := k
        obtain ⟨_, _, _, _, o0, o1⟩ := gpE_zero k0
        obtain ⟨D, hD⟩ := Int.eq_ofNat_of_zero_le (gp_low (b := b) (d := v) h3 h4 o0 o1)
        exact rneed_hit o a c n G v b d w HG (by omega) D (by omega) hD (fun x y x0 x1 hx => gp_inj h4 h3 o0 o1 x0 x1 (hx.trans hD.symm)) n1 n2 h3 h4
      · rw [decide_eq_false k]
        refine rneed_miss o a c n G v b d w HG (by omega) (fun x y x0 x1 hx hxy => ?_) n1 n2 h3 h4
        obtain ⟨rfl, rfl⟩ := hxy
        exact k ⟨gpE_in n1 n2 h3 h4 x0 x1, hx⟩
    · rw [if_neg f2]
      exact rneed_none o f a c n G v b d w HG (beq_eq_false_iff_ne.2 f0) (beq_eq_false_iff_ne.2 f2) (by omega) n1 n2 h3 h4
  · rw [if_pos (Or.inl h0)]
    exact rneed_bad o f a c n _ _ v b d w HG (by simpa using h0)
end Go.Proofs.Ytcofbaioflfehaa
