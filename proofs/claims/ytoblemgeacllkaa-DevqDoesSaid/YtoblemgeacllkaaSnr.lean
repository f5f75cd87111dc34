/-
  What the document's Next and Gap answer, for all positions, numbers of steps and sizes.
-/
import Derived.Test.YtoblemgeacllkaaSmt
namespace Go.Proofs.Ytoblemgeacllkaa.Sp
open Go.RowKit

theorem rnext_chk (a n k E : Int) (b : Bool) (w : World) (HC : ∀ W, Calls Try.prog 91 #[.agg #[.int .i64 a, .bool b], .int .i64 n] W fun e w' => e = .returned (.int .i64 E) ∧ Below W.heap.size W w') (hE : (E != 0) = true) :
    Calls Try.prog 71 #[.agg #[.int .i64 a, .bool b], .int .i64 k, .int .i64 n] w (R2 w 0 false E) := by
  have H := Lib.hid HC
  clear HC
  go_enter Try.func71, Try.ntmps71
  go_wp2_with fail
  refine (H.out _).mono ?_
  rintro e w1 ⟨rfl, hq⟩
  have h1 := (Two.new w (.int .i64 a) (.bool b) (.int .i64 0) (.bool false)).next hq
  clear hq
  obtain ⟨p0, p1, p2, p3, z0, z1, z2, z3⟩ := h1.facts
  go_wp2_with fail
  have h2 := (h1.put2 (.int .i64 0)).put3 (.bool false)
  exact bodyPost_ret (v := .tuple #[.agg #[.int .i64 0, .bool false], .int .i64 E]) (res2 _ _ _ (w.heap.size + 1) rfl rfl rfl _ _ h2.r) rfl ⟨rfl, h2.below⟩
theorem rnext_neg (a n k : Int) (b : Bool) (w : World) (HC : ∀ W, Calls Try.prog 91 #[.agg #[.int .i64 a, .bool b], .int .i64 n] W fun e w' => e = .returned (.int .i64 0) ∧ Below W.heap.size W w') (hk : k < 0) :
    Calls Try.prog 71 #[.agg #[.int .i64 a, .bool b], .int .i64 k, .int .i64 n] w (R2 w 0 false 1) := by
  have H := Lib.hid HC
  clear HC
  go_enter Try.func71, Try.ntmps71
  go_wp2_with fail
  refine (H.out _).mono ?_
  rintro e w1 ⟨rfl, hq⟩
  have h1 := (Two.new w (.int .i64 a) (.bool b) (.int .i64 0) (.bool false)).next hq
  clear hq
  obtain ⟨p0, p1, p2, p3, z0, z1, z2, z3⟩ := h1.facts
  go_wp2_with fail
  have h2 := (h1.put2 (.int .i64 0)).put3 (.bool false)
  exact bodyPost_ret (v := .tuple #[.agg #[.int .i64 0, .bool false], .int .i64 1]) (res2 _ _ _ (w.heap.size + 1) rfl rfl rfl _ _ h2.r) rfl ⟨rfl, h2.below⟩
theorem rnext_great (a n k : Int) (b : Bool) (w : World) (HC : ∀ W, Calls Try.prog 91 #[.agg #[.int .i64 a, .bool b], .int .i64 n] W fun e w' => e = .returned (.int .i64 0) ∧ Below W.heap.size W w') (hk : ¬ k < 0) (hn : n < k) :
    Calls Try.prog 71 #[.agg #[.int .i64 a, .bool b], .int .i64 k, .int .i64 n] w (R2 w 0 false 1) := by
  have H := Lib.hid HC
  clear HC
  go_enter Try.func71, Try.ntmps71
  go_wp2_with fail
  refine (H.out _).mono ?_
  rintro e w1 ⟨rfl, hq⟩
  have h1 := (Two.new w (.int .i64 a) (.bool b) (.int .i64 0) (.bool false)).next hq
  clear hq
  obtain ⟨p0, p1, p2, p3, z0, z1, z2, z3⟩ := h1.facts
  go_wp2_with fail
  have h2 := (h1.put2 (.int .i64 0)).put3 (.bool false)
  exact bodyPost_ret (v := .tuple #[.agg #[.int .i64 0, .bool false], .int .i64 1]) (res2 _ _ _ (w.heap.size + 1) rfl rfl rfl _ _ h2.r) rfl ⟨rfl, h2.below⟩
theorem rnext_in (a n A : Int) (K : Nat) (b B : Bool) (w : World) (HC : ∀ W, Calls Try.prog 91 #[.agg #[.int .i64 a, .bool b], .int .i64 n] W fun e w' => e = .returned (.int .i64 0) ∧ Below W.heap.size W w') (h1 : 1 ≤ n) (h2 : n ≤ 32768) (h3 : 0 ≤ a) (h4 : a < n) (h6 : (K : Int) ≤ n)
    (hA : ∀ x y, 0 ≤ x → x < n → gp a x n b y = K → x = A ∧ y = B) :
    Calls Try.prog 71 #[.agg #[.int .i64 a, .bool b], .int .i64 K, .int .i64 n] w (R2 w A B 0) := by
  have H := Lib.hid HC
  have HA := Lib.hid hA
  have HL := Lib.hid h4
  clear HC hA h4
  go_enter Try.func71, Try.ntmps71
  go_wp2_with fail
  refine (H.out _).mono ?_
  rintro e w1 ⟨rfl, hq⟩
  have t1 := (Two.new w (.int .i64 a) (.bool b) (.int .i64 0) (.bool false)).next hq
  clear hq
  obtain ⟨p0, p1, p2, p3, z0, z1, z2, z3⟩ := t1.facts
  go_wp2_with fail
  clear p0 p1 p2 p3 z0 z1 z2 z3
  go_loopw [9] (fun i wr => ∃ k : Nat, k ≤ K ∧ i = .int .i64 k ∧ ∃ x y, 0 ≤ x ∧ x < n ∧ gp a x n b y = k ∧ Two w (.int .i64 x) (.bool y) (.int .i64 0) (.bool false) wr) (fun i _ => K - (intOf i).toNat)
  case atStart => exact ⟨0, Nat.zero_le _, rfl, a, b, h3, HL.out, gp_same a n b, t1⟩
  case round =>
    obtain ⟨k, hk, rfl, x, y, x0, x1, hg, t2⟩ := hrel
    clear t1
    by_cases hlt : k < K
    · have hG := Lib.hid hg
      have hs : gp a x n b y + 1 < 2 * n := by omega
      obtain ⟨p0, p1, p2, p3, z0, z1, z2, z3⟩ := t2.facts
      by_cases ht : x = n - 1
      · subst ht
        have HT := Lib.hid (gp_turn (b := b) (y := y) h3 HL.out hs)
        clear hg hs
        go_wp2_with fail
        refine (one_top n y _ h1 h2).mono ?_
        rintro e w2 ⟨rfl, hq⟩
        clear p0 p1 p2 p3 z0 z1 z2 z3
        have t3 := t2.next hq
        clear hq
        obtain ⟨p0, p1, p2, p3, z0, z1, z2, z3⟩ := t3.facts
        go_wp2_with fail
        have t4 := (t3.put0 (.int .i64 0)).put1 (.bool (!y))
        go_roundw
        case rel => exact ⟨k + 1, by omega, by go_num, 0, !y, by omega, by omega, by rw [HT.out, hG.out]; rfl, t4⟩
        case measure => simp [intOf]; omega
      · have hx : x < n - 1 := by omega
        have HT := Lib.hid (gp_step (b := b) (y := y) h3 HL.out x0 hx hs)
        clear hg hs
        go_wp2_with fail
        refine (one_low x n y _ h1 h2 x0 hx).mono ?_
        rintro e w2 ⟨rfl, hq⟩
        clear p0 p1 p2 p3 z0 z1 z2 z3
        have t3 := t2.next hq
        clear hq
        obtain ⟨p0, p1, p2, p3, z0, z1, z2, z3⟩ := t3.facts
        go_wp2_with fail
        have t4 := (t3.put0 (.int .i64 (x + 1))).put1 (.bool y)
        go_roundw
        case rel => exact ⟨k + 1, by omega, by go_num, x + 1, y, by omega, by omega, by rw [HT.out, hG.out]; rfl, t4⟩
        case measure => simp [intOf]; omega
    · obtain rfl : k = K := by omega
      obtain ⟨rfl, rfl⟩ := HA.out x y x0 x1 hg
      clear hg
      obtain ⟨p0, p1, p2, p3, z0, z1, z2, z3⟩ := t2.facts
      go_wp2_with fail
      have t3 := (t2.put2 (.int .i64 x)).put3 (.bool y)
      exact bodyPost_ret (v := .tuple #[.agg #[.int .i64 x, .bool y], .int .i64 0]) (res2 _ _ _ (w.heap.size + 1) rfl rfl rfl _ _ t3.r) rfl ⟨rfl, t3.below⟩
theorem rnext_any (a n k : Int) (b : Bool) (w : World) :
    Calls Try.prog 71 #[.agg #[.int .i64 a, .bool b], .int .i64 k, .int .i64 n] w (R2 w (nxA a n k) (nxB a n k b) (nxE a n k)) := by
  have HC := fun W => rchk_any a n b W
  by_cases h0 : chkE a n = 0
  · rw [h0] at HC
    obtain ⟨h1, h2, h3, h4⟩ := chk_zero h0
    by_cases h5 : k < 0
    · have e : nxE a n k = 1 := by rw [nxE, if_neg (by omega), if_pos (Or.inl h5)]
      rw [nxA, nxB, e, if_pos (by decide), if_pos (by decide)]
      exact rnext_neg a n k b w HC h5
    by_cases h6 : n < k
    · have e : nxE a n k = 1 := by rw [nxE, if_neg (by omega), if_pos (Or.inr h6)]
      rw [nxA, nxB, e, if_pos (by decide), if_pos (by decide)]
      exact rnext_great a n k b w HC h5 h6
    have e : nxE a n k = 0 := nxE_in h1 h2 h3 h4 (by omega) (by omega)
    obtain ⟨hg, hl, hh⟩ := gp_next b e
    rw [e]
    obtain ⟨K, rfl⟩ := Int.eq_ofNat_of_zero_le (show 0 ≤ k by omega)
    exact rnext_in a n _ K b _ w HC h1 h2 h3 h4 (by omega) (fun x y x0 x1 hx => gp_inj h4 h3 hl hh x0 x1 (hx.trans hg.symm))
  · have e : nxE a n k = chkE a n := by rw [nxE, if_pos h0]
    rw [nxA, nxB, e, if_pos h0, if_pos h0]
    exact rnext_chk a n k (chkE a n) b w HC (by simpa using h0)
theorem rgap_one (a c n E : Int) (b d : Bool) (w : World) (HA : ∀ W, Calls Try.prog 91 #[.agg #[.int .i64 a, .bool b], .int .i64 n] W fun e w' => e = .returned (.int .i64 E) ∧ Below W.heap.size W w') (hE : (E != 0) = true) :
    Calls Try.prog 78 #[.agg #[.int .i64 a, .bool b], .agg #[.int .i64 c, .bool d], .int .i64 n] w (RG w 0 E) := by
  have H1 := Lib.hid HA
  clear HA
  go_enter Try.func78, Try.ntmps78
  go_wp2_with fail
  refine (H1.out _).mono ?_
  rintro e w1 ⟨rfl, hq⟩
  have h1 := (Two.new w (.int .i64 a) (.bool b) (.int .i64 c) (.bool d)).next hq
  clear hq
  obtain ⟨p0, p1, p2, p3, z0, z1, z2, z3⟩ := h1.facts
  go_wp2_with fail
  go_ret2
  exact ⟨rfl, h1.below⟩
theorem rgap_two (a c n E : Int) (b d : Bool) (w : World) (HA : ∀ W, Calls Try.prog 91 #[.agg #[.int .i64 a, .bool b], .int .i64 n] W fun e w' => e = .returned (.int .i64 0) ∧ Below W.heap.size W w')
    (HB : ∀ W, Calls Try.prog 91 #[.agg #[.int .i64 c, .bool d], .int .i64 n] W fun e w' => e = .returned (.int .i64 E) ∧ Below W.heap.size W w') (hE : (E != 0) = true) :
    Calls Try.prog 78 #[.agg #[.int .i64 a, .bool b], .agg #[.int .i64 c, .bool d], .int .i64 n] w (RG w 0 E) := by
  have H1 := Lib.hid HA
  clear HA
  have H2 := Lib.hid HB
  clear HB
  go_enter Try.func78, Try.ntmps78
  go_wp2_with fail
  refine (H1.out _).mono ?_
  rintro e w1 ⟨rfl, hq⟩
  have h1 := (Two.new w (.int .i64 a) (.bool b) (.int .i64 c) (.bool d)).next hq
  clear hq
  obtain ⟨p0, p1, p2, p3, z0, z1, z2, z3⟩ := h1.facts
  go_wp2_with fail
  refine (H2.out _).mono ?_
  rintro e w2 ⟨rfl, hq⟩
  clear p0 p1 p2 p3 z0 z1 z2 z3
  have h2 := h1.next hq
  clear hq h1
  obtain ⟨p0, p1, p2, p3, z0, z1, z2, z3⟩ := h2.facts
  go_wp2_with fail
  go_ret2
  exact ⟨rfl, h2.below⟩
theorem rgap_in (a c n : Int) (G : Nat) (b d : Bool) (w : World) (HA : ∀ W, Calls Try.prog 91 #[.agg #[.int .i64 a, .bool b], .int .i64 n] W fun e w' => e = .returned (.int .i64 0) ∧ Below W.heap.size W w')
    (HB : ∀ W, Calls Try.prog 91 #[.agg #[.int .i64 c, .bool d], .int .i64 n] W fun e w' => e = .returned (.int .i64 0) ∧ Below W.heap.size W w') (h1 : 1 ≤ n) (h2 : n ≤ 32768) (h3 : 0 ≤ a) (h4 : a < n) (h5 : (G : Int) < 2 * n) (hG0 : gp a c n b d = G)
    (hA : ∀ x y, 0 ≤ x → x < n → gp a x n b y = G → x = c ∧ y = d) :
    Calls Try.prog 78 #[.agg #[.int .i64 a, .bool b], .agg #[.int .i64 c, .bool d], .int .i64 n] w (RG w G 0) := by
  have H1 := Lib.hid HA
  have H2 := Lib.hid HB
  have HX := Lib.hid hA
  have HL := Lib.hid h4
  have HG := Lib.hid hG0
  clear HA HB hA h4 hG0
  go_enter Try.func78, Try.ntmps78
  go_wp2_with fail
  refine (H1.out _).mono ?_
  rintro e w1 ⟨rfl, hq⟩
  have t0 := (Two.new w (.int .i64 a) (.bool b) (.int .i64 c) (.bool d)).next hq
  clear hq
  obtain ⟨p0, p1, p2, p3, z0, z1, z2, z3⟩ := t0.facts
  go_wp2_with fail
  refine (H2.out _).mono ?_
  rintro e w2 ⟨rfl, hq⟩
  clear p0 p1 p2 p3 z0 z1 z2 z3
  have t1 := t0.next hq
  clear hq t0
  obtain ⟨p0, p1, p2, p3, z0, z1, z2, z3⟩ := t1.facts
  go_wp2_with fail
  clear p0 p1 p2 p3 z0 z1 z2 z3
  go_loopw [9] (fun i wr => ∃ k : Nat, k ≤ G ∧ i = .int .i64 k ∧ ∃ x y, 0 ≤ x ∧ x < n ∧ gp a x n b y = k ∧ Two w (.int .i64 x) (.bool y) (.int .i64 c) (.bool d) wr) (fun i _ => G - (intOf i).toNat)
  case atStart => exact ⟨0, Nat.zero_le _, rfl, a, b, h3, HL.out, gp_same a n b, t1⟩
  case round =>
    obtain ⟨k, hk, rfl, x, y, x0, x1, hg, t2⟩ := hrel
    clear t1
    by_cases hlt : k < G
    · have hG := Lib.hid hg
      have hs : gp a x n b y + 1 < 2 * n := by omega
      obtain ⟨p0, p1, p2, p3, z0, z1, z2, z3⟩ := t2.facts
      by_cases hc : x = c
      · subst hc
        obtain rfl : d = !y := by
          have hne : y ≠ d := by
            rintro rfl
            have := HG.out
            omega
          revert hne; cases y <;> cases d <;> simp
        by_cases ht : x = n - 1
        · subst ht
          have HT := Lib.hid (gp_turn (b := b) (y := y) h3 HL.out hs)
          clear hg hs
          go_wp2_with fail
          refine (one_top n y _ h1 h2).mono ?_
          rintro e w3 ⟨rfl, hq⟩
          clear p0 p1 p2 p3 z0 z1 z2 z3
          have t3 := t2.next hq
          clear hq
          obtain ⟨p0, p1, p2, p3, z0, z1, z2, z3⟩ := t3.facts
          go_wp2_with fail
          have t4 := (t3.put0 (.int .i64 0)).put1 (.bool (!y))
          go_roundw
          case rel => exact ⟨k + 1, by omega, by go_num, 0, !y, by omega, by omega, by rw [HT.out, hG.out]; rfl, t4⟩
          case measure => simp [intOf]; omega
        · have hx : x < n - 1 := by omega
          have HT := Lib.hid (gp_step (b := b) (y := y) h3 HL.out x0 hx hs)
          clear hg hs
          go_wp2_with fail
          refine (one_low x n y _ h1 h2 x0 hx).mono ?_
          rintro e w3 ⟨rfl, hq⟩
          clear p0 p1 p2 p3 z0 z1 z2 z3
          have t3 := t2.next hq
          clear hq
          obtain ⟨p0, p1, p2, p3, z0, z1, z2, z3⟩ := t3.facts
          go_wp2_with fail
          have t4 := (t3.put0 (.int .i64 (x + 1))).put1 (.bool y)
          go_roundw
          case rel => exact ⟨k + 1, by omega, by go_num, x + 1, y, by omega, by omega, by rw [HT.out, hG.out]; rfl, t4⟩
          case measure => simp [intOf]; omega
      · have hne : (x == c) = false := beq_eq_false_iff_ne.2 hc
        clear hc
        by_cases ht : x = n - 1
        · subst ht
          have HT := Lib.hid (gp_turn (b := b) (y := y) h3 HL.out hs)
          clear hg hs
          go_wp2_with fail
          refine (one_top n y _ h1 h2).mono ?_
          rintro e w3 ⟨rfl, hq⟩
          clear p0 p1 p2 p3 z0 z1 z2 z3
          have t3 := t2.next hq
          clear hq
          obtain ⟨p0, p1, p2, p3, z0, z1, z2, z3⟩ := t3.facts
          go_wp2_with fail
          have t4 := (t3.put0 (.int .i64 0)).put1 (.bool (!y))
          go_roundw
          case rel => exact ⟨k + 1, by omega, by go_num, 0, !y, by omega, by omega, by rw [HT.out, hG.out]; rfl, t4⟩
          case measure => simp [intOf]; omega
        · have hx : x < n - 1 := by omega
          have HT := Lib.hid (gp_step (b := b) (y := y) h3 HL.out x0 hx hs)
          clear hg hs
          go_wp2_with fail
          refine (one_low x n y _ h1 h2 x0 hx).mono ?_
          rintro e w3 ⟨rfl, hq⟩
          clear p0 p1 p2 p3 z0 z1 z2 z3
          have t3 := t2.next hq
          clear hq
          obtain ⟨p0, p1, p2, p3, z0, z1, z2, z3⟩ := t3.facts
          go_wp2_with fail
          have t4 := (t3.put0 (.int .i64 (x + 1))).put1 (.bool y)
          go_roundw
          case rel => exact ⟨k + 1, by omega, by go_num, x + 1, y, by omega, by omega, by rw [HT.out, hG.out]; rfl, t4⟩
          case measure => simp [intOf]; omega
    · obtain rfl : k = G := by omega
      obtain ⟨rfl, rfl⟩ := HX.out x y x0 x1 hg
      clear hg
      obtain ⟨p0, p1, p2, p3, z0, z1, z2, z3⟩ := t2.facts
      go_wp2_with fail
      go_ret2
      exact ⟨rfl, t2.below⟩
theorem rgap_any (a c n : Int) (b d : Bool) (w : World) :
    Calls Try.prog 78 #[.agg #[.int .i64 a, .bool b], .agg #[.int .i64 c, .bool d], .int .i64 n] w (RG w (gpV a c n b d) (gpE a c n)) := by
  have HA := fun W => rchk_any a n b W
  have HB := fun W => rchk_any c n d W
  by_cases h0 : chkE a n = 0
  · rw [h0] at HA
    have e : gpE a c n = chkE c n := by rw [gpE, if_neg (by omega)]
    by_cases k0 : chkE c n = 0
    · rw [k0] at HB
      obtain ⟨h1, h2, h3, h4⟩ := chk_zero h0
      obtain ⟨_, _, h5, h6⟩ := chk_zero k0
      have e0 : gpE a c n = 0 := e.trans k0
      rw [gpV_ok b d e0, e0]
      have hl := gp_low (b := b) (d := d) h3 h4 h5 h6
      have hh := gp_high (b := b) (d := d) h3 h4 h5 h6
      obtain ⟨G, hG⟩ := Int.eq_ofNat_of_zero_le hl
      rw [hG] at hh ⊢
      exact rgap_in a c n G b d w HA HB h1 h2 h3 h4 hh hG (fun x y x0 x1 hx => gp_inj h4 h3 h5 h6 x0 x1 (hx.trans hG.symm))
    · rw [gpV, e, if_pos k0]
      exact rgap_two a c n _ b d w HA HB (by simpa using k0)
  · have e : gpE a c n = chkE a n := by rw [gpE, if_pos h0]
    rw [gpV, e, if_pos h0]
    exact rgap_one a c n _ b d w HA (by simpa using h0)
end Go.Proofs.Ytoblemgeacllkaa.Sp
