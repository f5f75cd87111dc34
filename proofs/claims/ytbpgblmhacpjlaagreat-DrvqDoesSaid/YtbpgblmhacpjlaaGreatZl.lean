/-
  Positions and events of the document.
-/
import Derived.Test.YtbpgblmhacpjlaaGreatZf
namespace Go.Proofs.YtbpgblmhacpjlaaGreat.Sp
open Go.RowKit

theorem rnext_chk (a n k E : Int) (b : Bool) (w : World) (HC : ∀ W, Calls Tryz.prog 65 #[.agg #[.int .i64 a, .bool b], .int .i64 n] W fun e w' => e = .returned (.int .i64 E) ∧ Below W.heap.size W w') (hE : (E != 0) = true) :
    Calls Tryz.prog 33 #[.agg #[.int .i64 a, .bool b], .int .i64 k, .int .i64 n] w (R2 w 0 false E) := by
  have H := Lib.hid HC
  clear HC
  go_enter Tryz.func33, Tryz.ntmps33
  go_wp2_with fail
  refine (H.out _).mono ?_
  rintro e w1 ⟨rfl, hq⟩
  have h1 := (Two.new w (.int .i64 a) (.bool b) (.int .i64 0) (.bool false)).next hq
  clear hq
  obtain ⟨p0, p1, p2, p3, z0, z1, z2, z3⟩ := h1.facts
  go_wp2_with fail
  have h2 := (h1.put2 (.int .i64 0)).put3 (.bool false)
  exact bodyPost_ret (v := .tuple #[.agg #[.int .i64 0, .bool false], .int .i64 E]) (res2 _ _ _ (w.heap.size + 1) rfl rfl rfl _ _ h2.r) rfl ⟨rfl, h2.below⟩
theorem rnext_neg (a n k : Int) (b : Bool) (w : World) (HC : ∀ W, Calls Tryz.prog 65 #[.agg #[.int .i64 a, .bool b], .int .i64 n] W fun e w' => e = .returned (.int .i64 0) ∧ Below W.heap.size W w') (hk : k < 0) :
    Calls Tryz.prog 33 #[.agg #[.int .i64 a, .bool b], .int .i64 k, .int .i64 n] w (R2 w 0 false 1) := by
  have H := Lib.hid HC
  clear HC
  go_enter Tryz.func33, Tryz.ntmps33
  go_wp2_with fail
  refine (H.out _).mono ?_
  rintro e w1 ⟨rfl, hq⟩
  have h1 := (Two.new w (.int .i64 a) (.bool b) (.int .i64 0) (.bool false)).next hq
  clear hq
  obtain ⟨p0, p1, p2, p3, z0, z1, z2, z3⟩ := h1.facts
  go_wp2_with fail
  have h2 := (h1.put2 (.int .i64 0)).put3 (.bool false)
  exact bodyPost_ret (v := .tuple #[.agg #[.int .i64 0, .bool false], .int .i64 1]) (res2 _ _ _ (w.heap.size + 1) rfl rfl rfl _ _ h2.r) rfl ⟨rfl, h2.below⟩
theorem rnext_great (a n k : Int) (b : Bool) (w : World) (HC : ∀ W, Calls Tryz.prog 65 #[.agg #[.int .i64 a, .bool b], .int .i64 n] W fun e w' => e = .returned (.int .i64 0) ∧ Below W.heap.size W w') (hk : ¬ k < 0) (hn : n < k) :
    Calls Tryz.prog 33 #[.agg #[.int .i64 a, .bool b], .int .i64 k, .int .i64 n] w (R2 w 0 false 1) := by
  have H := Lib.hid HC
  clear HC
  go_enter Tryz.func33, Tryz.ntmps33
  go_wp2_with fail
  refine (H.out _).mono ?_
  rintro e w1 ⟨rfl, hq⟩
  have h1 := (Two.new w (.int .i64 a) (.bool b) (.int .i64 0) (.bool false)).next hq
  clear hq
  obtain ⟨p0, p1, p2, p3, z0, z1, z2, z3⟩ := h1.facts
  go_wp2_with fail
  have h2 := (h1.put2 (.int .i64 0)).put3 (.bool false)
  exact bodyPost_ret (v := .tuple #[.agg #[.int .i64 0, .bool false], .int .i64 1]) (res2 _ _ _ (w.heap.size + 1) rfl rfl rfl _ _ h2.r) rfl ⟨rfl, h2.below⟩
theorem rnext_in (a n A : Int) (K : Nat) (b B : Bool) (w : World) (HC : ∀ W, Calls Tryz.prog 65 #[.agg #[.int .i64 a, .bool b], .int .i64 n] W fun e w' => e = .returned (.int .i64 0) ∧ Below W.heap.size W w') (h1 : 1 ≤ n) (h2 : n ≤ 32768) (h3 : 0 ≤ a) (h4 : a < n) (h6 : (K : Int) ≤ n)
    (hA : ∀ x y, 0 ≤ x → x < n → gp a x n b y = K → x = A ∧ y = B) :
    Calls Tryz.prog 33 #[.agg #[.int .i64 a, .bool b], .int .i64 K, .int .i64 n] w (R2 w A B 0) := by
  have H := Lib.hid HC
  have HA := Lib.hid hA
  have HL := Lib.hid h4
  clear HC hA h4
  go_enter Tryz.func33, Tryz.ntmps33
  go_wp2_with fail
  refine (H.out _).mono ?_
  rintro e w1 ⟨rfl, hq⟩
  have t1 := (Two.new w (.int .i64 a) (.bool b) (.int .i64 0) (.bool false)).next hq
  clear hq
  obtain ⟨p0, p1, p2, p3, z0, z1, z2, z3⟩ := t1.facts
  go_wp2_with fail
  clear p0 p1 p2 p3 z0 z1 z2 z3
  go_loopw [9] (fun i wr => ∃ k : Nat, k ≤ K ∧ i = .int .i64 k ∧ ∃ x y, 0 ≤ x ∧ x < n ∧ gp a x n b y = k ∧ Two w (.int .i64 x) (.bool y) (.int .i64 0) (.bool false) wr) (fun i _ => K - (intOf i).toNat)
  case atStart => exact ⟨0, Nat.zero_le _, rfl, a, b, h3, HL.out, gp_same a n b, t1⟩
  case round =>
    obtain ⟨k, hk, rfl, x, y, x0, x1, hg, t2⟩ := hrel
    clear t1
    by_cases hlt : k < K
    · have hG := Lib.hid hg
      have hs : gp a x n b y + 1 < 2 * n := by omega
      obtain ⟨p0, p1, p2, p3, z0, z1, z2, z3⟩ := t2.facts
      by_cases ht : x = n - 1
      · subst ht
        have HT := Lib.hid (gp_turn (b := b) (y := y) h3 HL.out hs)
        clear hg hs
        go_wp2_with fail
        refine (one_top n y _ h1 h2).mono ?_
        rintro e w2 ⟨rfl, hq⟩
        clear p0 p1 p2 p3 z0 z1 z2 z3
        have t3 := t2.next hq
        clear hq
        obtain ⟨p0, p1, p2, p3, z0, z1, z2, z3⟩ := t3.facts
        go_wp2_with fail
        have t4 := (t3.put0 (.int .i64 0)).put1 (.bool (!y))
        go_roundw
        case rel => exact ⟨k + 1, by omega, by go_num, 0, !y, by omega, by omega, by rw [HT.out, hG.out]; rfl, t4⟩
        case measure => simp [intOf]; omega
      · have hx : x < n - 1 := by omega
        have HT := Lib.hid (gp_step (b := b) (y := y) h3 HL.out x0 hx hs)
        clear hg hs
        go_wp2_with fail
        refine (one_low x n y _ h1 h2 x0 hx).mono ?_
        rintro e w2 ⟨rfl, hq⟩
        clear p0 p1 p2 p3 z0 z1 z2 z3
        have t3 := t2.next hq
        clear hq
        obtain ⟨p0, p1, p2, p3, z0, z1, z2, z3⟩ := t3.facts
        go_wp2_with fail
        have t4 := (t3.put0 (.int .i64 (x + 1))).put1 (.bool y)
        go_roundw
        case rel => exact ⟨k + 1, by omega, by go_num, x + 1, y, by omega, by omega, by rw [HT.out, hG.out]; rfl, t4⟩
        case measure => simp [intOf]; omega
    · obtain rfl : k = K := by omega
      obtain ⟨rfl, rfl⟩ := HA.out x y x0 x1 hg
      clear hg
      obtain ⟨p0, p1, p2, p3, z0, z1, z2, z3⟩ := t2.facts
      go_wp2_with fail
      have t3 := (t2.put2 (.int .i64 x)).put3 (.bool y)
      exact bodyPost_ret (v := .tuple #[.agg #[.int .i64 x, .bool y], .int .i64 0]) (res2 _ _ _ (w.heap.size + 1) rfl rfl rfl _ _ t3.r) rfl ⟨rfl, t3.below⟩
theorem rnext_any (a n k : Int) (b : Bool) (w : World) :
    Calls Tryz.prog 33 #[.agg #[.int .i64 a, .bool b], .int .i64 k, .int .i64 n] w (R2 w (nxA a n k) (nxB a n k b) (nxE a n k)) := by
  have HC := fun W => rchk_any a n b W
  by_cases h0 : chkE a n = 0
  · rw [h0] at HC
    obtain ⟨h1, h2, h3, h4⟩ := chk_zero h0
    by_cases h5 : k < 0
    · have e : nxE a n k = 1 := by rw [nxE, if_neg (by omega), if_pos (Or.inl h5)]
      rw [nxA, nxB, e, if_pos (by decide), if_pos (by decide)]
      exact rnext_neg a n k b w HC h5
    by_cases h6 : n < k
    · have e : nxE a n k = 1 := by rw [nxE, if_neg (by omega), if_pos (Or.inr h6)]
      rw [nxA, nxB, e, if_pos (by decide), if_pos (by decide)]
      exact rnext_great a n k b w HC h5 h6
    have e : nxE a n k = 0 := nxE_in h1 h2 h3 h4 (by omega) (by omega)
    obtain ⟨hg, hl, hh⟩ := gp_next b e
    rw [e]
    obtain ⟨K, rfl⟩ := Int.eq_ofNat_of_zero_le (show 0 ≤ k by omega)
    exact rnext_in a n _ K b _ w HC h1 h2 h3 h4 (by omega) (fun x y x0 x1 hx => gp_inj h4 h3 hl hh x0 x1 (hx.trans hg.symm))
  · have e : nxE a n k = chkE a n := by rw [nxE, if_pos h0]
    rw [nxA, nxB, e, if_pos h0, if_pos h0]
    exact rnext_chk a n k (chkE a n) b w HC (by simpa using h0)
theorem rgap_one (a c n E : Int) (b d : Bool) (w : World) (HA : ∀ W, Calls Tryz.prog 65 #[.agg #[.int .i64 a, .bool b], .int .i64 n] W fun e w' => e = .returned (.int .i64 E) ∧ Below W.heap.size W w') (hE : (E != 0) = true) :
    Calls Tryz.prog 74 #[.agg #[.int .i64 a, .bool b], .agg #[.int .i64 c, .bool d], .int .i64 n] w (RG w 0 E) := by
  have H1 := Lib.hid HA
  clear HA
  go_enter Tryz.func74, Tryz.ntmps74
  go_wp2_with fail
  refine (H1.out _).mono ?_
  rintro e w1 ⟨rfl, hq⟩
  have h1 := (Two.new w (.int .i64 a) (.bool b) (.int .i64 c) (.bool d)).next hq
  clear hq
  obtain ⟨p0, p1, p2, p3, z0, z1, z2, z3⟩ := h1.facts
  go_wp2_with fail
  go_ret2
  exact ⟨rfl, h1.below⟩
theorem rgap_two (a c n E : Int) (b d : Bool) (w : World) (HA : ∀ W, Calls Tryz.prog 65 #[.agg #[.int .i64 a, .bool b], .int .i64 n] W fun e w' => e = .returned (.int .i64 0) ∧ Below W.heap.size W w')
    (HB : ∀ W, Calls Tryz.prog 65 #[.agg #[.int .i64 c, .bool d], .int .i64 n] W fun e w' => e = .returned (.int .i64 E) ∧ Below W.heap.size W w') (hE : (E != 0) = true) :
    Calls Tryz.prog 74 #[.agg #[.int .i64 a, .bool b], .agg #[.int .i64 c, .bool d], .int .i64 n] w (RG w 0 E) := by
  have H1 := Lib.hid HA
  clear HA
  have H2 := Lib.hid HB
  clear HB
  go_enter Tryz.func74, Tryz.ntmps74
  go_wp2_with fail
  refine (H1.out _).mono ?_
  rintro e w1 ⟨rfl, hq⟩
  have h1 := (Two.new w (.int .i64 a) (.bool b) (.int .i64 c) (.bool d)).next hq
  clear hq
  obtain ⟨p0, p1, p2, p3, z0, z1, z2, z3⟩ := h1.facts
  go_wp2_with fail
  refine (H2.out _).mono ?_
  rintro e w2 ⟨rfl, hq⟩
  clear p0 p1 p2 p3 z0 z1 z2 z3
  have h2 := h1.next hq
  clear hq h1
  obtain ⟨p0, p1, p2, p3, z0, z1, z2, z3⟩ := h2.facts
  go_wp2_with fail
  go_ret2
  exact ⟨rfl, h2.below⟩
theorem rgap_in (a c n : Int) (G : Nat) (b d : Bool) (w : World) (HA : ∀ W, Calls Tryz.prog 65 #[.agg #[.int .i64 a, .bool b], .int .i64 n] W fun e w' => e = .returned (.int .i64 0) ∧ Below W.heap.size W w')
    (HB : ∀ W, Calls Tryz.prog 65 #[.agg #[.int .i64 c, .bool d], .int .i64 n] W fun e w' => e = .returned (.int .i64 0) ∧ Below W.heap.size W w') (h1 : 1 ≤ n) (h2 : n ≤ 32768) (h3 : 0 ≤ a) (h4 : a < n) (h5 : (G : Int) < 2 * n) (hG0 : gp a c n b d = G)
    (hA : ∀ x y, 0 ≤ x → x < n → gp a x n b y = G → x = c ∧ y = d) :
    Calls Tryz.prog 74 #[.agg #[.int .i64 a, .bool b], .agg #[.int .i64 c, .bool d], .int .i64 n] w (RG w G 0) := by
  have H1 := Lib.hid HA
  have H2 := Lib.hid HB
  have HX := Lib.hid hA
  have HL := Lib.hid h4
  have HG := Lib.hid hG0
  clear HA HB hA h4 hG0
  go_enter Tryz.func74, Tryz.ntmps74
  go_wp2_with fail
  refine (H1.out _).mono ?_
  rintro e w1 ⟨rfl, hq⟩
  have t0 := (Two.new w (.int .i64 a) (.bool b) (.int .i64 c) (.bool d)).next hq
  clear hq
  obtain ⟨p0, p1, p2, p3, z0, z1, z2, z3⟩ := t0.facts
  go_wp2_with fail
  refine (H2.out _).mono ?_
  rintro e w2 ⟨rfl, hq⟩
  clear p0 p1 p2 p3 z0 z1 z2 z3
  have t1 := t0.next hq
  clear hq t0
  obtain ⟨p0, p1, p2, p3, z0, z1, z2, z3⟩ := t1.facts
  go_wp2_with fail
  clear p0 p1 p2 p3 z0 z1 z2 z3
  go_loopw [9] (fun i wr => ∃ k : Nat, k ≤ G ∧ i = .int .i64 k ∧ ∃ x y, 0 ≤ x ∧ x < n ∧ gp a x n b y = k ∧ Two w (.int .i64 x) (.bool y) (.int .i64 c) (.bool d) wr) (fun i _ => G - (intOf i).toNat)
  case atStart => exact ⟨0, Nat.zero_le _, rfl, a, b, h3, HL.out, gp_same a n b, t1⟩
  case round =>
    obtain ⟨k, hk, rfl, x, y, x0, x1, hg, t2⟩ := hrel
    clear t1
    by_cases hlt : k < G
    · have hG := Lib.hid hg
      have hs : gp a x n b y + 1 < 2 * n := by omega
      obtain ⟨p0, p1, p2, p3, z0, z1, z2, z3⟩ := t2.facts
      by_cases hc : x = c
      · subst hc
        obtain rfl : d = !y := by
          have hne : y ≠ d := by
            rintro rfl
            have := HG.out
            omega
          revert hne; cases y <;> cases d <;> simp
        by_cases ht : x = n - 1
        · subst ht
          have HT := Lib.hid (gp_turn (b := b) (y := y) h3 HL.out hs)
          clear hg hs
          go_wp2_with fail
          refine (one_top n y _ h1 h2).mono ?_
          rintro e w3 ⟨rfl, hq⟩
          clear p0 p1 p2 p3 z0 z1 z2 z3
          have t3 := t2.next hq
          clear hq
          obtain ⟨p0, p1, p2, p3, z0, z1, z2, z3⟩ := t3.facts
          go_wp2_with fail
          have t4 := (t3.put0 (.int .i64 0)).put1 (.bool (!y))
          go_roundw
          case rel => exact ⟨k + 1, by omega, by go_num, 0, !y, by omega, by omega, by rw [HT.out, hG.out]; rfl, t4⟩
          case measure => simp [intOf]; omega
        · have hx : x < n - 1 := by omega
          have HT := Lib.hid (gp_step (b := b) (y := y) h3 HL.out x0 hx hs)
          clear hg hs
          go_wp2_with fail
          refine (one_low x n y _ h1 h2 x0 hx).mono ?_
          rintro e w3 ⟨rfl, hq⟩
          clear p0 p1 p2 p3 z0 z1 z2 z3
          have t3 := t2.next hq
          clear hq
          obtain ⟨p0, p1, p2, p3, z0, z1, z2, z3⟩ := t3.facts
          go_wp2_with fail
          have t4 := (t3.put0 (.int .i64 (x + 1))).put1 (.bool y)
          go_roundw
          case rel => exact ⟨k + 1, by omega, by go_num, x + 1, y, by omega, by omega, by rw [HT.out, hG.out]; rfl, t4⟩
          case measure => simp [intOf]; omega
      · have hne : (x == c) = false := beq_eq_false_iff_ne.2 hc
        clear hc
        by_cases ht : x = n - 1
        · subst ht
          have HT := Lib.hid (gp_turn (b := b) (y := y) h3 HL.out hs)
          clear hg hs
          go_wp2_with fail
          refine (one_top n y _ h1 h2).mono ?_
          rintro e w3 ⟨rfl, hq⟩
          clear p0 p1 p2 p3 z0 z1 z2 z3
          have t3 := t2.next hq
          clear hq
          obtain ⟨p0, p1, p2, p3, z0, z1, z2, z3⟩ := t3.facts
          go_wp2_with fail
          have t4 := (t3.put0 (.int .i64 0)).put1 (.bool (!y))
          go_roundw
          case rel => exact ⟨k + 1, by omega, by go_num, 0, !y, by omega, by omega, by rw [HT.out, hG.out]; rfl, t4⟩
          case measure => simp [intOf]; omega
        · have hx : x < n - 1 := by omega
          have HT := Lib.hid (gp_step (b := b) (y := y) h3 HL.out x0 hx hs)
          clear hg hs
          go_wp2_with fail
          refine (one_low x n y _ h1 h2 x0 hx).mono ?_
          rintro e w3 ⟨rfl, hq⟩
          clear p0 p1 p2 p3 z0 z1 z2 z3
          have t3 := t2.next hq
          clear hq
          obtain ⟨p0, p1, p2, p3, z0, z1, z2, z3⟩ := t3.facts
          go_wp2_with fail
          have t4 := (t3.put0 (.int .i64 (x + 1))).put1 (.bool y)
          go_roundw
          case rel => exact ⟨k + 1, by omega, by go_num, x + 1, y, by omega, by omega, by rw [HT.out, hG.out]; rfl, t4⟩
          case measure => simp [intOf]; omega
    · obtain rfl : k = G := by omega
      obtain ⟨rfl, rfl⟩ := HX.out x y x0 x1 hg
      clear hg
      obtain ⟨p0, p1, p2, p3, z0, z1, z2, z3⟩ := t2.facts
      go_wp2_with fail
      go_ret2
      exact ⟨rfl, t2.below⟩
theorem rgap_any (a c n : Int) (b d : Bool) (w : World) :
    Calls Tryz.prog 74 #[.agg #[.int .i64 a, .bool b], .agg #[.int .i64 c, .bool d], .int .i64 n] w (RG w (gpV a c n b d) (gpE a c n)) := by
  have HA := fun W => rchk_any a n b W
  have HB := fun W => rchk_any c n d W
  by_cases h0 : chkE a n = 0
  · rw [h0] at HA
    have e : gpE a c n = chkE c n := by rw [gpE, if_neg (by omega)]
    by_cases k0 : chkE c n = 0
    · rw [k0] at HB
      obtain ⟨h1, h2, h3, h4⟩ := chk_zero h0
      obtain ⟨_, _, h5, h6⟩ := chk_zero k0
      have e0 : gpE a c n = 0 := e.trans k0
      rw [gpV_ok b d e0, e0]
      have hl := gp_low (b := b) (d := d) h3 h4 h5 h6
      have hh := gp_high (b := b) (d := d) h3 h4 h5 h6
      obtain ⟨G, hG⟩ := Int.eq_ofNat_of_zero_le hl
      rw [hG] at hh ⊢
      exact rgap_in a c n G b d w HA HB h1 h2 h3 h4 hh hG (fun x y x0 x1 hx => gp_inj h4 h3 h5 h6 x0 x1 (hx.trans hG.symm))
    · rw [gpV, e, if_pos k0]
      exact rgap_two a c n _ b d w HA HB (by simpa using k0)
  · have e : gpE a c n = chkE a n := by rw [gpE, if_pos h0]
    rw [gpV, e, if_pos h0]
    exact rgap_one a c n _ b d w HA (by simpa using h0)
end Go.Proofs.YtbpgblmhacpjlaaGreat.Sp
namespace Go.Proofs.YtbpgblmhacpjlaaGreat.Sp
open Go.RowKit

/-- an event's block, two positions' blocks, and all else as it was -/
structure Tri (w : World) (o v f a b c d : Value) (w' : World) : Prop where
  l : Blk w' w.heap.size 34 #[o, v, f]
  m : Blk w' (w.heap.size + 1) 44 #[a, b]
  r : Blk w' (w.heap.size + 2) 44 #[c, d]
  below : Below w.heap.size w w'
section
variable {w w1 w' : World} {o v f a b c d : Value}
theorem Tri.new (w : World) (o v f a b c d : Value) : Tri w o v f a b c d (((w.alloc (.cells #[o, v, f] 34)).alloc (.cells #[a, b] 44)).alloc (.cells #[c, d] 44)) := by
  have e : ((w.alloc (.cells #[o, v, f] 34)).alloc (.cells #[a, b] 44)).heap.size = w.heap.size + 2 := by simp
  have h := Blk.new ((w.alloc (.cells #[o, v, f] 34)).alloc (.cells #[a, b] 44)) 44 #[c, d]
  rw [e] at h
  exact ⟨((Blk.new w 34 _).alloc _).alloc _, (Blk.new2 _ _ _ _).alloc _, h, ba (ba (ba (Below.refl _ _) _) _) _⟩
theorem Tri.next (h : Tri w o v f a b c d w1) (hq : Below w1.heap.size w1 w') : Tri w o v f a b c d w' :=
  ⟨h.l.same (hq.block _ h.l.lt), h.m.same (hq.block _ h.m.lt), h.r.same (hq.block _ h.r.lt), b0 h.below hq⟩
theorem Tri.alloc (h : Tri w o v f a b c d w1) (ob : Obj) : Tri w o v f a b c d (w1.alloc ob) := ⟨h.l.alloc ob, h.m.alloc ob, h.r.alloc ob, ba h.below ob⟩
theorem Tri.put0 (h : Tri w o v f a b c d w1) (u : Value) : Tri w o v f u b c d (w1.setCell ⟨w.heap.size + 1, 0, none⟩ u) :=
  ⟨h.l.other (by omega) 0 u, h.m.put 0 u, h.r.other (by omega) 0 u, h.below.setCell (Nat.le_add_right _ 1) _⟩
theorem Tri.put1 (h : Tri w o v f a b c d w1) (u : Value) : Tri w o v f a u c d (w1.setCell ⟨w.heap.size + 1, 1, none⟩ u) :=
  ⟨h.l.other (by omega) 1 u, h.m.put 1 u, h.r.other (by omega) 1 u, h.below.setCell (Nat.le_add_right _ 1) _⟩
theorem Tri.facts (h : Tri w o v f a b c d w1) :
    w1.cell? ⟨w.heap.size, 0, none⟩ = some o ∧ w1.cell? ⟨w.heap.size, 1, none⟩ = some v ∧ w1.cell? ⟨w.heap.size, 2, none⟩ = some f ∧ w1.cell? ⟨w.heap.size + 1, 0, none⟩ = some a ∧ w1.cell? ⟨w.heap.size + 1, 1, none⟩ = some b ∧
    w1.cell? ⟨w.heap.size + 2, 0, none⟩ = some c ∧ w1.cell? ⟨w.heap.size + 2, 1, none⟩ = some d ∧ w1.frozen? ⟨w.heap.size + 1, 0, none⟩ = false ∧ w1.frozen? ⟨w.heap.size + 1, 1, none⟩ = false :=
  ⟨h.l.cell 0, h.l.cell 1, h.l.cell 2, h.m.cell 0, h.m.cell 1, h.r.cell 0, h.r.cell 1, h.m.frozen 0, h.m.frozen 1⟩
end
def RB (w : World) (B : Bool) (e : Ending) (w' : World) : Prop := e = .returned (.bool B) ∧ Below w.heap.size w w'
theorem am_bad (o a k n G E : Int) (v b : Bool) (w : World) (HG : ∀ W, Calls Tryz.prog 72 #[.agg #[.int .i64 a, .bool b], .agg #[.int .i64 o, .bool v], .int .i64 n] W (RG W G E)) (hE : (E == 0) = false) : Calls Tryz.prog 73 #[.agg #[.int .i64 o, .bool v], .agg #[.int .i64 a, .bool b], .int .i64 k, .int .i64 n] w (RB w false) := by
  have H := Lib.hid HG
  clear HG
  go_enter Tryz.func73, Tryz.ntmps73
  go_wp2_with fail
  refine (H.out _).mono ?_
  rintro e w1 ⟨rfl, hq⟩
  have h1 := (Two.new w (.int .i64 o) (.bool v) (.int .i64 a) (.bool b)).next hq
  clear hq
  go_wp2_with fail
  go_ret
  exact ⟨rfl, h1.below⟩
theorem am_yes (o a k n G : Int) (v b : Bool) (w : World) (HG : ∀ W, Calls Tryz.prog 72 #[.agg #[.int .i64 a, .bool b], .agg #[.int .i64 o, .bool v], .int .i64 n] W (RG W G 0)) (h : G < k) : Calls Tryz.prog 73 #[.agg #[.int .i64 o, .bool v], .agg #[.int .i64 a, .bool b], .int .i64 k, .int .i64 n] w (RB w true) := by
  have H := Lib.hid HG
  clear HG
  go_enter Tryz.func73, Tryz.ntmps73
  go_wp2_with fail
  refine (H.out _).mono ?_
  rintro e w1 ⟨rfl, hq⟩
  have h1 := (Two.new w (.int .i64 o) (.bool v) (.int .i64 a) (.bool b)).next hq
  clear hq
  go_wp2_with fail
  go_ret
  exact ⟨rfl, h1.below⟩
theorem am_no (o a k n G : Int) (v b : Bool) (w : World) (HG : ∀ W, Calls Tryz.prog 72 #[.agg #[.int .i64 a, .bool b], .agg #[.int .i64 o, .bool v], .int .i64 n] W (RG W G 0)) (h : decide (G < k) = false) : Calls Tryz.prog 73 #[.agg #[.int .i64 o, .bool v], .agg #[.int .i64 a, .bool b], .int .i64 k, .int .i64 n] w (RB w false) := by
  have H := Lib.hid HG
  clear HG
  go_enter Tryz.func73, Tryz.ntmps73
  go_wp2_with fail
  refine (H.out _).mono ?_
  rintro e w1 ⟨rfl, hq⟩
  have h1 := (Two.new w (.int .i64 o) (.bool v) (.int .i64 a) (.bool b)).next hq
  clear hq
  go_wp2_with fail
  go_ret
  exact ⟨rfl, h1.below⟩
theorem am_any (o a k n : Int) (v b : Bool) (w : World) : Calls Tryz.prog 73 #[.agg #[.int .i64 o, .bool v], .agg #[.int .i64 a, .bool b], .int .i64 k, .int .i64 n] w (RB w (decide (gpE a o n = 0 ∧ gpV a o n b v < k))) := by
  have HG := fun W => gap_any a o n b v W
  by_cases h0 : gpE a o n = 0
  · rw [h0] at HG
    by_cases h1 : gpV a o n b v < k
    · rw [decide_eq_true ⟨h0, h1⟩]; exact am_yes o a k n _ v b w HG h1
    · rw [decide_eq_false (fun h => h1 h.2)]; exact am_no o a k n _ v b w HG (decide_eq_false h1)
  · rw [decide_eq_false (fun h => h0 h.1)]
    exact am_bad o a k n _ _ v b w HG (beq_eq_false_iff_ne.2 h0)
theorem need_bad (o f a c n G E : Int) (v b d : Bool) (w : World) (HG : ∀ W, Calls Tryz.prog 72 #[.agg #[.int .i64 a, .bool b], .agg #[.int .i64 c, .bool d], .int .i64 n] W (RG W G E)) (hE : (E != 0) = true) : Calls Tryz.prog 44 #[.agg #[.int .i64 o, .bool v, .int .i64 f], .agg #[.int .i64 a, .bool b], .agg #[.int .i64 c, .bool d], .int .i64 n] w (RB w false) := by
  have H := Lib.hid HG
  clear HG
  go_enter Tryz.func44, Tryz.ntmps44
  go_wp2_with fail
  refine (H.out _).mono ?_
  rintro e w1 ⟨rfl, hq⟩
  have h1 := (Tri.new w (.int .i64 o) (.bool v) (.int .i64 f) (.int .i64 a) (.bool b) (.int .i64 c) (.bool d)).next hq
  clear hq
  obtain ⟨p0, p1, p2, p3, p4, p5, p6, z0, z1⟩ := h1.facts
  go_wp2_with fail
  go_ret
  exact ⟨rfl, h1.below⟩
theorem need_far (o f a c n G : Int) (v b d : Bool) (w : World) (HG : ∀ W, Calls Tryz.prog 72 #[.agg #[.int .i64 a, .bool b], .agg #[.int .i64 c, .bool d], .int .i64 n] W (RG W G 0)) (h : n < G) : Calls Tryz.prog 44 #[.agg #[.int .i64 o, .bool v, .int .i64 f], .agg #[.int .i64 a, .bool b], .agg #[.int .i64 c, .bool d], .int .i64 n] w (RB w false) := by
  have H := Lib.hid HG
  clear HG
  go_enter Tryz.func44, Tryz.ntmps44
  go_wp2_with fail
  refine (H.out _).mono ?_
  rintro e w1 ⟨rfl, hq⟩
  have h1 := (Tri.new w (.int .i64 o) (.bool v) (.int .i64 f) (.int .i64 a) (.bool b) (.int .i64 c) (.bool d)).next hq
  clear hq
  obtain ⟨p0, p1, p2, p3, p4, p5, p6, z0, z1⟩ := h1.facts
  go_wp2_with fail
  go_ret
  exact ⟨rfl, h1.below⟩
theorem need_zero (o a n G : Int) (v b : Bool) (w : World) (HG : ∀ W, Calls Tryz.prog 72 #[.agg #[.int .i64 a, .bool b], .agg #[.int .i64 a, .bool b], .int .i64 n] W (RG W G 0)) (h : ¬ n < G) : Calls Tryz.prog 44 #[.agg #[.int .i64 o, .bool v, .int .i64 0], .agg #[.int .i64 a, .bool b], .agg #[.int .i64 a, .bool b], .int .i64 n] w (RB w false) := by
  have H := Lib.hid HG
  clear HG
  go_enter Tryz.func44, Tryz.ntmps44
  go_wp2_with fail
  refine (H.out _).mono ?_
  rintro e w1 ⟨rfl, hq⟩
  have h1 := (Tri.new w (.int .i64 o) (.bool v) (.int .i64 0) (.int .i64 a) (.bool b) (.int .i64 a) (.bool b)).next hq
  clear hq
  obtain ⟨p0, p1, p2, p3, p4, p5, p6, z0, z1⟩ := h1.facts
  go_wp2_with fail
  go_ret
  exact ⟨rfl, h1.below⟩
theorem need_at (o a c n G : Int) (v b d : Bool) (w : World) (HG : ∀ W, Calls Tryz.prog 72 #[.agg #[.int .i64 a, .bool b], .agg #[.int .i64 c, .bool d], .int .i64 n] W (RG W G 0)) (h : ¬ n < G) (hc : (a == c) = false) : Calls Tryz.prog 44 #[.agg #[.int .i64 o, .bool v, .int .i64 0], .agg #[.int .i64 a, .bool b], .agg #[.int .i64 c, .bool d], .int .i64 n] w (RB w true) := by
  have H := Lib.hid HG
  clear HG
  go_enter Tryz.func44, Tryz.ntmps44
  go_wp2_with fail
  refine (H.out _).mono ?_
  rintro e w1 ⟨rfl, hq⟩
  have h1 := (Tri.new w (.int .i64 o) (.bool v) (.int .i64 0) (.int .i64 a) (.bool b) (.int .i64 c) (.bool d)).next hq
  clear hq
  obtain ⟨p0, p1, p2, p3, p4, p5, p6, z0, z1⟩ := h1.facts
  go_wp2_with fail
  go_ret
  exact ⟨rfl, h1.below⟩
theorem need_wrap (o a n G : Int) (v b : Bool) (w : World) (HG : ∀ W, Calls Tryz.prog 72 #[.agg #[.int .i64 a, .bool b], .agg #[.int .i64 a, .bool (!b)], .int .i64 n] W (RG W G 0)) (h : ¬ n < G) : Calls Tryz.prog 44 #[.agg #[.int .i64 o, .bool v, .int .i64 0], .agg #[.int .i64 a, .bool b], .agg #[.int .i64 a, .bool (!b)], .int .i64 n] w (RB w true) := by
  have H := Lib.hid HG
  clear HG
  go_enter Tryz.func44, Tryz.ntmps44
  go_wp2_with fail
  refine (H.out _).mono ?_
  rintro e w1 ⟨rfl, hq⟩
  have h1 := (Tri.new w (.int .i64 o) (.bool v) (.int .i64 0) (.int .i64 a) (.bool b) (.int .i64 a) (.bool (!b))).next hq
  clear hq
  obtain ⟨p0, p1, p2, p3, p4, p5, p6, z0, z1⟩ := h1.facts
  go_wp2_with fail
  go_ret
  exact ⟨rfl, h1.below⟩
theorem need_none (o f a c n G : Int) (v b d : Bool) (w : World) (HG : ∀ W, Calls Tryz.prog 72 #[.agg #[.int .i64 a, .bool b], .agg #[.int .i64 c, .bool d], .int .i64 n] W (RG W G 0)) (h : ¬ n < G) (f0 : (f == 0) = false) (f2 : (f == 2) = false) : Calls Tryz.prog 44 #[.agg #[.int .i64 o, .bool v, .int .i64 f], .agg #[.int .i64 a, .bool b], .agg #[.int .i64 c, .bool d], .int .i64 n] w (RB w false) := by
  have H := Lib.hid HG
  clear HG
  go_enter Tryz.func44, Tryz.ntmps44
  go_wp2_with fail
  refine (H.out _).mono ?_
  rintro e w1 ⟨rfl, hq⟩
  have h1 := (Tri.new w (.int .i64 o) (.bool v) (.int .i64 f) (.int .i64 a) (.bool b) (.int .i64 c) (.bool d)).next hq
  clear hq
  obtain ⟨p0, p1, p2, p3, p4, p5, p6, z0, z1⟩ := h1.facts
  go_wp2_with fail
  go_ret
  exact ⟨rfl, h1.below⟩
theorem need_two (o a c n G : Int) (v b d Q : Bool) (w : World) (HG : ∀ W, Calls Tryz.prog 72 #[.agg #[.int .i64 a, .bool b], .agg #[.int .i64 c, .bool d], .int .i64 n] W (RG W G 0)) (h : ¬ n < G) (HI : ∀ W, Calls Tryz.prog 73 #[.agg #[.int .i64 o, .bool v], .agg #[.int .i64 a, .bool b], .int .i64 G, .int .i64 n] W (RB W Q)) : Calls Tryz.prog 44 #[.agg #[.int .i64 o, .bool v, .int .i64 2], .agg #[.int .i64 a, .bool b], .agg #[.int .i64 c, .bool d], .int .i64 n] w (RB w Q) := by
  have H := Lib.hid HG
  clear HG
  have HJ := Lib.hid HI
  clear HI
  go_enter Tryz.func44, Tryz.ntmps44
  go_wp2_with fail
  refine (H.out _).mono ?_
  rintro e w1 ⟨rfl, hq⟩
  have h1 := (Tri.new w (.int .i64 o) (.bool v) (.int .i64 2) (.int .i64 a) (.bool b) (.int .i64 c) (.bool d)).next hq
  clear hq
  obtain ⟨p0, p1, p2, p3, p4, p5, p6, z0, z1⟩ := h1.facts
  go_wp2_with fail
  refine (HJ.out _).mono ?_
  rintro e w2 ⟨rfl, hq⟩
  have h2 := h1.next hq
  clear hq
  go_wp2_with fail
  go_ret
  exact ⟨rfl, h2.below⟩
theorem need_any (o f a c n : Int) (v b d : Bool) (w : World) : Calls Tryz.prog 44 #[.agg #[.int .i64 o, .bool v, .int .i64 f], .agg #[.int .i64 a, .bool b], .agg #[.int .i64 c, .bool d], .int .i64 n] w (RB w (needV o v f a b c d n)) := by
  have HG := fun W => gap_any a c n b d W
  unfold needV
  by_cases h0 : gpE a c n = 0
  · rw [h0] at HG
    rw [gpV_ok b d h0] at HG
    by_cases h1 : n < gp a c n b d
    · rw [if_pos (Or.inr h1)]
      exact need_far o f a c n _ v b d w HG h1
    rw [if_neg (by omega)]
    by_cases f0 : f = 0
    · subst f0
      rw [if_pos rfl]
      obtain ⟨_, _, h3, h4, h5, h6⟩ := gpE_zero h0
      by_cases hc : a = c
      · subst hc
        by_cases hd : b = d
        · subst hd
          rw [gp_same, decide_eq_false (by omega)]
          rw [gp_same] at HG h1
          exact need_zero o a n 0 v b w HG h1
        · obtain rfl : d = !b := by revert hd; cases b <;> cases d <;> simp
          rw [decide_eq_true (by rw [gp, if_neg hd]; omega)]
          exact need_wrap o a n _ v b w HG h1
      · have hp : 0 < gp a c n b d := by unfold gp; split <;> (try split) <;> omega
        rw [decide_eq_true hp]
        exact need_at o a c n _ v b d w HG h1 (beq_eq_false_iff_ne.2 hc)
    rw [if_neg f0]
    by_cases f2 : f = 2
    · subst f2
      rw [if_pos rfl]
      refine need_two o a c n _ v b d _ w HG h1 (fun W => ?_)
      have hI := am_any o a (gp a c n b d) n v b W
      have e : decide (gpE a o n = 0 ∧ gpV a o n b v < gp a c n b d) = decide (gpE a o n = 0 ∧ gp a o n b v < gp a c n b d) := by
        by_cases k : gpE a o n = 0
        · rw [gpV_ok b v k]
        · rw [decide_eq_false (fun h => k h.1), decide_eq_false (fun h => k h.1)]
      rwa [e] at hI
    · rw [if_neg f2]
      exact need_none o f a c n _ v b d w HG h1 (beq_eq_false_iff_ne.2 f0) (beq_eq_false_iff_ne.2 f2)
  · rw [if_pos (Or.inl h0)]
    exact need_bad o f a c n _ _ v b d w HG (by simpa using h0)
end Go.Proofs.YtbpgblmhacpjlaaGreat.Sp
namespace Go.Proofs.YtbpgblmhacpjlaaGreat.Sp
open Go.RowKit

theorem rneed_bad (o f a c n G E : Int) (v b d : Bool) (w : World) (HG : ∀ W, Calls Tryz.prog 74 #[.agg #[.int .i64 a, .bool b], .agg #[.int .i64 c, .bool d], .int .i64 n] W (RG W G E)) (hE : (E != 0) = true) : Calls Tryz.prog 46 #[.agg #[.int .i64 o, .bool v, .int .i64 f], .agg #[.int .i64 a, .bool b], .agg #[.int .i64 c, .bool d], .int .i64 n] w (RB w false) := by
  have H := Lib.hid HG
  clear HG
  go_enter Tryz.func46, Tryz.ntmps46
  go_wp2_with fail
  refine (H.out _).mono ?_
  rintro e w1 ⟨rfl, hq⟩
  have h1 := (Tri.new w (.int .i64 o) (.bool v) (.int .i64 f) (.int .i64 a) (.bool b) (.int .i64 c) (.bool d)).next hq
  clear hq
  obtain ⟨p0, p1, p2, p3, p4, p5, p6, z0, z1⟩ := h1.facts
  go_wp2_with fail
  go_ret
  exact ⟨rfl, h1.below⟩
theorem rneed_far (o f a c n G : Int) (v b d : Bool) (w : World) (HG : ∀ W, Calls Tryz.prog 74 #[.agg #[.int .i64 a, .bool b], .agg #[.int .i64 c, .bool d], .int .i64 n] W (RG W G 0)) (h : n < G) : Calls Tryz.prog 46 #[.agg #[.int .i64 o, .bool v, .int .i64 f], .agg #[.int .i64 a, .bool b], .agg #[.int .i64 c, .bool d], .int .i64 n] w (RB w false) := by
  have H := Lib.hid HG
  clear HG
  go_enter Tryz.func46, Tryz.ntmps46
  go_wp2_with fail
  refine (H.out _).mono ?_
  rintro e w1 ⟨rfl, hq⟩
  have h1 := (Tri.new w (.int .i64 o) (.bool v) (.int .i64 f) (.int .i64 a) (.bool b) (.int .i64 c) (.bool d)).next hq
  clear hq
  obtain ⟨p0, p1, p2, p3, p4, p5, p6, z0, z1⟩ := h1.facts
  go_wp2_with fail
  go_ret
  exact ⟨rfl, h1.below⟩
theorem rneed_zero (o a c n G : Int) (v b d : Bool) (w : World) (HG : ∀ W, Calls Tryz.prog 74 #[.agg #[.int .i64 a, .bool b], .agg #[.int .i64 c, .bool d], .int .i64 n] W (RG W G 0)) (h : ¬ n < G) : Calls Tryz.prog 46 #[.agg #[.int .i64 o, .bool v, .int .i64 0], .agg #[.int .i64 a, .bool b], .agg #[.int .i64 c, .bool d], .int .i64 n] w (RB w (decide (0 < G))) := by
  have H := Lib.hid HG
  clear HG
  go_enter Tryz.func46, Tryz.ntmps46
  go_wp2_with fail
  refine (H.out _).mono ?_
  rintro e w1 ⟨rfl, hq⟩
  have h1 := (Tri.new w (.int .i64 o) (.bool v) (.int .i64 0) (.int .i64 a) (.bool b) (.int .i64 c) (.bool d)).next hq
  clear hq
  obtain ⟨p0, p1, p2, p3, p4, p5, p6, z0, z1⟩ := h1.facts
  go_wp2_with fail
  go_ret
  exact ⟨rfl, h1.below⟩
theorem rneed_none (o f a c n : Int) (G : Nat) (v b d : Bool) (w : World) (HG : ∀ W, Calls Tryz.prog 74 #[.agg #[.int .i64 a, .bool b], .agg #[.int .i64 c, .bool d], .int .i64 n] W (RG W G 0)) (f0 : (f == 0) = false) (f2 : (f == 2) = false) (h : (G : Int) ≤ n) (h1 : 1 ≤ n) (h2 : n ≤ 32768) (h3 : 0 ≤ a) (h4 : a < n) : Calls Tryz.prog 46 #[.agg #[.int .i64 o, .bool v, .int .i64 f], .agg #[.int .i64 a, .bool b], .agg #[.int .i64 c, .bool d], .int .i64 n] w (RB w false) := by
  have H := Lib.hid HG
  clear HG
  have HL := Lib.hid h4
  clear h4
  go_enter Tryz.func46, Tryz.ntmps46
  go_wp2_with fail
  refine (H.out _).mono ?_
  rintro e w1 ⟨rfl, hq⟩
  have t1 := (Tri.new w (.int .i64 o) (.bool v) (.int .i64 f) (.int .i64 a) (.bool b) (.int .i64 c) (.bool d)).next hq
  clear hq
  obtain ⟨p0, p1, p2, p3, p4, p5, p6, z0, z1⟩ := t1.facts
  go_wp2_with fail
  clear p0 p1 p2 p3 p4 p5 p6 z0 z1
  go_loopw [11] (fun i wr => ∃ k : Nat, k ≤ G ∧ i = .int .i64 k ∧ ∃ x y, 0 ≤ x ∧ x < n ∧ gp a x n b y = k ∧ Tri w (.int .i64 o) (.bool v) (.int .i64 f) (.int .i64 x) (.bool y) (.int .i64 c) (.bool d) wr) (fun i _ => G - (intOf i).toNat)
  case atStart => exact ⟨0, Nat.zero_le _, rfl, a, b, h3, HL.out, gp_same a n b, t1⟩
  case round =>
    obtain ⟨k, hk, rfl, x, y, x0, x1, hg, t2⟩ := hrel
    clear t1
    by_cases hlt : k < G
    · have hG := Lib.hid hg
      have hs : gp a x n b y + 1 < 2 * n := by omega
      obtain ⟨p0, p1, p2, p3, p4, p5, p6, z0, z1⟩ := t2.facts
      by_cases ht : x = n - 1
      · subst ht
        have HT := Lib.hid (gp_turn (b := b) (y := y) h3 HL.out hs)
        clear hg hs
        go_wp2_with fail
        refine (one_top n y _ h1 h2).mono ?_
        rintro e w3 ⟨rfl, hq⟩
        clear p0 p1 p2 p3 p4 p5 p6 z0 z1
        have t3 := t2.next hq
        clear hq
        obtain ⟨p0, p1, p2, p3, p4, p5, p6, z0, z1⟩ := t3.facts
        go_wp2_with fail
        have t4 := (t3.put0 (.int .i64 0)).put1 (.bool (!y))
        go_roundw
        case rel => exact ⟨k + 1, by omega, by go_num, 0, !y, by omega, by omega, by rw [HT.out, hG.out]; rfl, t4⟩
        case measure => simp [intOf]; omega
      · have hx : x < n - 1 := by omega
        have HT := Lib.hid (gp_step (b := b) (y := y) h3 HL.out x0 hx hs)
        clear hg hs
        go_wp2_with fail
        refine (one_low x n y _ h1 h2 x0 hx).mono ?_
        rintro e w3 ⟨rfl, hq⟩
        clear p0 p1 p2 p3 p4 p5 p6 z0 z1
        have t3 := t2.next hq
        clear hq
        obtain ⟨p0, p1, p2, p3, p4, p5, p6, z0, z1⟩ := t3.facts
        go_wp2_with fail
        have t4 := (t3.put0 (.int .i64 (x + 1))).put1 (.bool y)
        go_roundw
        case rel => exact ⟨k + 1, by omega, by go_num, x + 1, y, by omega, by omega, by rw [HT.out, hG.out]; rfl, t4⟩
        case measure => simp [intOf]; omega
    · obtain rfl : k = G := by omega
      obtain ⟨p0, p1, p2, p3, p4, p5, p6, z0, z1⟩ := t2.facts
      clear hg
      go_wp2_with fail
      go_ret
      exact ⟨rfl, t2.below⟩
theorem rneed_miss (o a c n : Int) (G : Nat) (v b d : Bool) (w : World) (HG : ∀ W, Calls Tryz.prog 74 #[.agg #[.int .i64 a, .bool b], .agg #[.int .i64 c, .bool d], .int .i64 n] W (RG W G 0)) (h : (G : Int) ≤ n) (hM : ∀ x y, 0 ≤ x → x < n → gp a x n b y < G → ¬ (x = o ∧ y = v)) (h1 : 1 ≤ n) (h2 : n ≤ 32768) (h3 : 0 ≤ a) (h4 : a < n) : Calls Tryz.prog 46 #[.agg #[.int .i64 o, .bool v, .int .i64 2], .agg #[.int .i64 a, .bool b], .agg #[.int .i64 c, .bool d], .int .i64 n] w (RB w false) := by
  have H := Lib.hid HG
  clear HG
  have HM := Lib.hid hM
  clear hM
  have HL := Lib.hid h4
  clear h4
  go_enter Tryz.func46, Tryz.ntmps46
  go_wp2_with fail
  refine (H.out _).mono ?_
  rintro e w1 ⟨rfl, hq⟩
  have t1 := (Tri.new w (.int .i64 o) (.bool v) (.int .i64 2) (.int .i64 a) (.bool b) (.int .i64 c) (.bool d)).next hq
  clear hq
  obtain ⟨p0, p1, p2, p3, p4, p5, p6, z0, z1⟩ := t1.facts
  go_wp2_with fail
  clear p0 p1 p2 p3 p4 p5 p6 z0 z1
  go_loopw [11] (fun i wr => ∃ k : Nat, k ≤ G ∧ i = .int .i64 k ∧ ∃ x y, 0 ≤ x ∧ x < n ∧ gp a x n b y = k ∧ Tri w (.int .i64 o) (.bool v) (.int .i64 2) (.int .i64 x) (.bool y) (.int .i64 c) (.bool d) wr) (fun i _ => G - (intOf i).toNat)
  case atStart => exact ⟨0, Nat.zero_le _, rfl, a, b, h3, HL.out, gp_same a n b, t1⟩
  case round =>
    obtain ⟨k, hk, rfl, x, y, x0, x1, hg, t2⟩ := hrel
    clear t1
    by_cases hlt : k < G
    · have hG := Lib.hid hg
      have hs : gp a x n b y + 1 < 2 * n := by omega
      obtain ⟨p0, p1, p2, p3, p4, p5, p6, z0, z1⟩ := t2.facts
      by_cases hc : x = o
      · subst hc
        obtain rfl : v = !y := by
          have hne : y ≠ v := by
            rintro rfl
            exact HM.out x y x0 x1 (by omega) ⟨rfl, rfl⟩
          revert hne; cases y <;> cases v <;> simp
        by_cases ht : x = n - 1
        · subst ht
          have HT := Lib.hid (gp_turn (b := b) (y := y) h3 HL.out hs)
          clear hg hs
          go_wp2_with fail
          refine (one_top n y _ h1 h2).mono ?_
          rintro e w3 ⟨rfl, hq⟩
          clear p0 p1 p2 p3 p4 p5 p6 z0 z1
          have t3 := t2.next hq
          clear hq
          obtain ⟨p0, p1, p2, p3, p4, p5, p6, z0, z1⟩ := t3.facts
          go_wp2_with fail
          have t4 := (t3.put0 (.int .i64 0)).put1 (.bool (!y))
          go_roundw
          case rel => exact ⟨k + 1, by omega, by go_num, 0, !y, by omega, by omega, by rw [HT.out, hG.out]; rfl, t4⟩
          case measure => simp [intOf]; omega
        · have hx : x < n - 1 := by omega
          have HT := Lib.hid (gp_step (b := b) (y := y) h3 HL.out x0 hx hs)
          clear hg hs
          go_wp2_with fail
          refine (one_low x n y _ h1 h2 x0 hx).mono ?_
          rintro e w3 ⟨rfl, hq⟩
          clear p0 p1 p2 p3 p4 p5 p6 z0 z1
          have t3 := t2.next hq
          clear hq
          obtain ⟨p0, p1, p2, p3, p4, p5, p6, z0, z1⟩ := t3.facts
          go_wp2_with fail
          have t4 := (t3.put0 (.int .i64 (x + 1))).put1 (.bool y)
          go_roundw
          case rel => exact ⟨k + 1, by omega, by go_num, x + 1, y, by omega, by omega, by rw [HT.out, hG.out]; rfl, t4⟩
          case measure => simp [intOf]; omega
      · have hne : (x == o) = false := beq_eq_false_iff_ne.2 hc
        clear hc
        by_cases ht : x = n - 1
        · subst ht
          have HT := Lib.hid (gp_turn (b := b) (y := y) h3 HL.out hs)
          clear hg hs
          go_wp2_with fail
          refine (one_top n y _ h1 h2).mono ?_
          rintro e w3 ⟨rfl, hq⟩
          clear p0 p1 p2 p3 p4 p5 p6 z0 z1
          have t3 := t2.next hq
          clear hq
          obtain ⟨p0, p1, p2, p3, p4, p5, p6, z0, z1⟩ := t3.facts
          go_wp2_with fail
          have t4 := (t3.put0 (.int .i64 0)).put1 (.bool (!y))
          go_roundw
          case rel => exact ⟨k + 1, by omega, by go_num, 0, !y, by omega, by omega, by rw [HT.out, hG.out]; rfl, t4⟩
          case measure => simp [intOf]; omega
        · have hx : x < n - 1 := by omega
          have HT := Lib.hid (gp_step (b := b) (y := y) h3 HL.out x0 hx hs)
          clear hg hs
          go_wp2_with fail
          refine (one_low x n y _ h1 h2 x0 hx).mono ?_
          rintro e w3 ⟨rfl, hq⟩
          clear p0 p1 p2 p3 p4 p5 p6 z0 z1
          have t3 := t2.next hq
          clear hq
          obtain ⟨p0, p1, p2, p3, p4, p5, p6, z0, z1⟩ := t3.facts
          go_wp2_with fail
          have t4 := (t3.put0 (.int .i64 (x + 1))).put1 (.bool y)
          go_roundw
          case rel => exact ⟨k + 1, by omega, by go_num, x + 1, y, by omega, by omega, by rw [HT.out, hG.out]; rfl, t4⟩
          case measure => simp [intOf]; omega
    · obtain rfl : k = G := by omega
      obtain ⟨p0, p1, p2, p3, p4, p5, p6, z0, z1⟩ := t2.facts
      clear hg
      go_wp2_with fail
      go_ret
      exact ⟨rfl, t2.below⟩
theorem rneed_hit (o a c n : Int) (G : Nat) (v b d : Bool) (w : World) (HG : ∀ W, Calls Tryz.prog 74 #[.agg #[.int .i64 a, .bool b], .agg #[.int .i64 c, .bool d], .int .i64 n] W (RG W G 0)) (h : (G : Int) ≤ n) (D : Nat) (hD : D < G) (hO : gp a o n b v = D) (hM : ∀ x y, 0 ≤ x → x < n → gp a x n b y = D → x = o ∧ y = v) (h1 : 1 ≤ n) (h2 : n ≤ 32768) (h3 : 0 ≤ a) (h4 : a < n) : Calls Tryz.prog 46 #[.agg #[.int .i64 o, .bool v, .int .i64 2], .agg #[.int .i64 a, .bool b], .agg #[.int .i64 c, .bool d], .int .i64 n] w (RB w true) := by
  have H := Lib.hid HG
  clear HG
  have HM := Lib.hid hM
  have HO := Lib.hid hO
  clear hM hO
  have HL := Lib.hid h4
  clear h4
  go_enter Tryz.func46, Tryz.ntmps46
  go_wp2_with fail
  refine (H.out _).mono ?_
  rintro e w1 ⟨rfl, hq⟩
  have t1 := (Tri.new w (.int .i64 o) (.bool v) (.int .i64 2) (.int .i64 a) (.bool b) (.int .i64 c) (.bool d)).next hq
  clear hq
  obtain ⟨p0, p1, p2, p3, p4, p5, p6, z0, z1⟩ := t1.facts
  go_wp2_with fail
  clear p0 p1 p2 p3 p4 p5 p6 z0 z1
  go_loopw [11] (fun i wr => ∃ k : Nat, k ≤ D ∧ i = .int .i64 k ∧ ∃ x y, 0 ≤ x ∧ x < n ∧ gp a x n b y = k ∧ Tri w (.int .i64 o) (.bool v) (.int .i64 2) (.int .i64 x) (.bool y) (.int .i64 c) (.bool d) wr) (fun i _ => D - (intOf i).toNat)
  case atStart => exact ⟨0, Nat.zero_le _, rfl, a, b, h3, HL.out, gp_same a n b, t1⟩
  case round =>
    obtain ⟨k, hk, rfl, x, y, x0, x1, hg, t2⟩ := hrel
    clear t1
    by_cases hlt : k < D
    · have hG := Lib.hid hg
      have hs : gp a x n b y + 1 < 2 * n := by omega
      obtain ⟨p0, p1, p2, p3, p4, p5, p6, z0, z1⟩ := t2.facts
      by_cases hc : x = o
      · subst hc
        obtain rfl : v = !y := by
          have hne : y ≠ v := by
            rintro rfl
            have := HO.out
            omega
          revert hne; cases y <;> cases v <;> simp
        by_cases ht : x = n - 1
        · subst ht
          have HT := Lib.hid (gp_turn (b := b) (y := y) h3 HL.out hs)
          clear hg hs
          go_wp2_with fail
          refine (one_top n y _ h1 h2).mono ?_
          rintro e w3 ⟨rfl, hq⟩
          clear p0 p1 p2 p3 p4 p5 p6 z0 z1
          have t3 := t2.next hq
          clear hq
          obtain ⟨p0, p1, p2, p3, p4, p5, p6, z0, z1⟩ := t3.facts
          go_wp2_with fail
          have t4 := (t3.put0 (.int .i64 0)).put1 (.bool (!y))
          go_roundw
          case rel => exact ⟨k + 1, by omega, by go_num, 0, !y, by omega, by omega, by rw [HT.out, hG.out]; rfl, t4⟩
          case measure => simp [intOf]; omega
        · have hx : x < n - 1 := by omega
          have HT := Lib.hid (gp_step (b := b) (y := y) h3 HL.out x0 hx hs)
          clear hg hs
          go_wp2_with fail
          refine (one_low x n y _ h1 h2 x0 hx).mono ?_
          rintro e w3 ⟨rfl, hq⟩
          clear p0 p1 p2 p3 p4 p5 p6 z0 z1
          have t3 := t2.next hq
          clear hq
          obtain ⟨p0, p1, p2, p3, p4, p5, p6, z0, z1⟩ := t3.facts
          go_wp2_with fail
          have t4 := (t3.put0 (.int .i64 (x + 1))).put1 (.bool y)
          go_roundw
          case rel => exact ⟨k + 1, by omega, by go_num, x + 1, y, by omega, by omega, by rw [HT.out, hG.out]; rfl, t4⟩
          case measure => simp [intOf]; omega
      · have hne : (x == o) = false := beq_eq_false_iff_ne.2 hc
        clear hc
        by_cases ht : x = n - 1
        · subst ht
          have HT := Lib.hid (gp_turn (b := b) (y := y) h3 HL.out hs)
          clear hg hs
          go_wp2_with fail
          refine (one_top n y _ h1 h2).mono ?_
          rintro e w3 ⟨rfl, hq⟩
          clear p0 p1 p2 p3 p4 p5 p6 z0 z1
          have t3 := t2.next hq
          clear hq
          obtain ⟨p0, p1, p2, p3, p4, p5, p6, z0, z1⟩ := t3.facts
          go_wp2_with fail
          have t4 := (t3.put0 (.int .i64 0)).put1 (.bool (!y))
          go_roundw
          case rel => exact ⟨k + 1, by omega, by go_num, 0, !y, by omega, by omega, by rw [HT.out, hG.out]; rfl, t4⟩
          case measure => simp [intOf]; omega
        · have hx : x < n - 1 := by omega
          have HT := Lib.hid (gp_step (b := b) (y := y) h3 HL.out x0 hx hs)
          clear hg hs
          go_wp2_with fail
          refine (one_low x n y _ h1 h2 x0 hx).mono ?_
          rintro e w3 ⟨rfl, hq⟩
          clear p0 p1 p2 p3 p4 p5 p6 z0 z1
          have t3 := t2.next hq
          clear hq
          obtain ⟨p0, p1, p2, p3, p4, p5, p6, z0, z1⟩ := t3.facts
          go_wp2_with fail
          have t4 := (t3.put0 (.int .i64 (x + 1))).put1 (.bool y)
          go_roundw
          case rel => exact ⟨k + 1, by omega, by go_num, x + 1, y, by omega, by omega, by rw [HT.out, hG.out]; rfl, t4⟩
          case measure => simp [intOf]; omega
    · obtain rfl : k = D := by omega
      obtain ⟨rfl, rfl⟩ := HM.out x y x0 x1 hg
      obtain ⟨p0, p1, p2, p3, p4, p5, p6, z0, z1⟩ := t2.facts
      clear hg
      go_wp2_with fail
      go_ret
      exact ⟨rfl, t2.below⟩
theorem rneed_any (o f a c n : Int) (v b d : Bool) (w : World) : Calls Tryz.prog 46 #[.agg #[.int .i64 o, .bool v, .int .i64 f], .agg #[.int .i64 a, .bool b], .agg #[.int .i64 c, .bool d], .int .i64 n] w (RB w (needV o v f a b c d n)) := by
  have HG := fun W => rgap_any a c n b d W
  unfold needV
  by_cases h0 : gpE a c n = 0
  · rw [h0] at HG
    rw [gpV_ok b d h0] at HG
    by_cases h1 : n < gp a c n b d
    · rw [if_pos (Or.inr h1)]
      exact rneed_far o f a c n _ v b d w HG h1
    rw [if_neg (by omega)]
    obtain ⟨n1, n2, h3, h4, h5, h6⟩ := gpE_zero h0
    by_cases f0 : f = 0
    · subst f0
      rw [if_pos rfl]
      exact rneed_zero o a c n _ v b d w HG h1
    rw [if_neg f0]
    obtain ⟨G, hG⟩ := Int.eq_ofNat_of_zero_le (gp_low (b := b) (d := d) h3 h4 h5 h6)
    rw [hG] at HG h1 ⊢
    by_cases f2 : f = 2
    · subst f2
      rw [if_pos rfl]
      by_cases k : gpE a o n = 0 ∧ gp a o n b v < G
      · rw [decide_eq_true k]
        obtain ⟨k0, k1⟩ := k
        obtain ⟨_, _, _, _, o0, o1⟩ := gpE_zero k0
        obtain ⟨D, hD⟩ := Int.eq_ofNat_of_zero_le (gp_low (b := b) (d := v) h3 h4 o0 o1)
        exact rneed_hit o a c n G v b d w HG (by omega) D (by omega) hD (fun x y x0 x1 hx => gp_inj h4 h3 o0 o1 x0 x1 (hx.trans hD.symm)) n1 n2 h3 h4
      · rw [decide_eq_false k]
        refine rneed_miss o a c n G v b d w HG (by omega) (fun x y x0 x1 hx hxy => ?_) n1 n2 h3 h4
        obtain ⟨rfl, rfl⟩ := hxy
        exact k ⟨gpE_in n1 n2 h3 h4 x0 x1, hx⟩
    · rw [if_neg f2]
      exact rneed_none o f a c n G v b d w HG (beq_eq_false_iff_ne.2 f0) (beq_eq_false_iff_ne.2 f2) (by omega) n1 n2 h3 h4
  · rw [if_pos (Or.inl h0)]
    exact rneed_bad o f a c n _ _ v b d w HG (by simpa using h0)
end Go.Proofs.YtbpgblmhacpjlaaGreat.Sp
