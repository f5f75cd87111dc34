/-
  RssChecks: whether any rules may be, and any table that deals evenly, is as the document says; what is told is its owner's.
-/
import Derived.Test.YtpjndjmneficbaaWfr
import Derived.Test.YtpjndjmneficbaaRrc
import Derived.Test.YtpjndjmneficbaaRfx
namespace Go.Proofs.Ytpjndjmneficbaa
open Go.Joins Go.ChangeShapes Go.WideShapes Go.ChangeAt Go.RowKit Go.Deep
open Go.ChangeMaps (open_string)

set_option maxRecDepth 100000 in
set_option maxHeartbeats 3200000 in
theorem rssChecks_bad (k : Int) (A : Option Addr) (c : Nat) (L : List Int) (x : ByteArray) (d : Int) (n : Nat) (y : ByteArray) (sz q : Int) (v : Int) (w : World)
    (AB : ∀ W, Below w.heap.size w W → Calls Try.prog 10 #[.agg #[.int .i64 k, .slice A L.length c, .string x, .int .i64 d]] W fun e w' => e = .returned (.agg #[.int .i64 k, .slice A n c, .string y, .int .i64 d]) ∧ Below W.heap.size W w')
    (AE : ∀ W, Calls Try.prog 11 #[.int .i64 sz, .int .i64 q] W fun e w' => e = .returned (.slice none 0 0) ∧ W = w')
    (AR : ∀ W : World, Calls Try.prog 13 #[.int .i64 sz, .int .i64 q] W fun e w' => e = .returned (.slice (some ⟨W.heap.size, 0, none⟩) 0 0) ∧ GI W.heap.size W.heap.size 0 0 [] W w')
    (A14 : ∀ W, Below w.heap.size w W → Calls Try.prog 14 #[.agg #[.int .i64 k, .slice A n c, .string y, .int .i64 d]] W fun e w' => e = .returned (.int .i64 v) ∧ Below W.heap.size W w')
    (A15 : ∀ W, Below w.heap.size w W → Calls Try.prog 15 #[.agg #[.int .i64 k, .slice A n c, .string y, .int .i64 d]] W fun e w' => e = .returned (.int .i64 v) ∧ Below W.heap.size W w') :
    Calls Try.prog 3 #[.agg #[.int .i64 k, .slice A L.length c, .string x, .int .i64 d], .int .i64 sz, .int .i64 q] w fun e w' => e = .returned (.bool true) ∧ Below w.heap.size w w' := by
  have HB := Lib.hid AB
  have HE := Lib.hid AE
  have HR := Lib.hid AR
  have H14 := Lib.hid A14
  have H15 := Lib.hid A15
  clear AB AE AR A14 A15
  go_enter Try.func3, Try.ntmps3
  go_wp2_with fail
  refine (HB.out _ ((Below.refl _ _).alloc (Nat.le_refl _) _)).mono ?_
  rintro e w1 ⟨rfl, hq⟩
  have h1 := (Held.new w 24 #[.int .i64 k, .slice A L.length c, .string x, .int .i64 d]).next hq
  clear hq
  have z0 := h1.blk.frozen 0
  have z1 := h1.blk.frozen 1
  have z2 := h1.blk.frozen 2
  have z3 := h1.blk.frozen 3
  have c0 := h1.blk.cell 0
  have c1 := h1.blk.cell 1
  have c2 := h1.blk.cell 2
  have c3 := h1.blk.cell 3
  simp only [List.getElem?_toArray, List.getElem?_cons_zero, List.getElem?_cons_succ] at c0 c1 c2 c3
  have h2 := h1.set4 (.int .i64 k) (.slice A n c) (.string y) (.int .i64 d)
  obtain ⟨w2, hw2⟩ : ∃ w2, ((((w1.setCell ⟨w.heap.size, 0, none⟩ (.int .i64 k)).setCell ⟨w.heap.size, 1, none⟩ (.slice A n c)).setCell ⟨w.heap.size, 2, none⟩ (.string y)).setCell ⟨w.heap.size, 3, none⟩ (.int .i64 d)) = w2 := ⟨_, rfl⟩
  rw [hw2] at h2
  have HW := Lib.hid hw2
  clear hw2 h1
  go_wp2_with (rw [HW.out]; clear z0 z1 z2 z3 c0 c1 c2 c3 HW)
  go_loopw [7] (fun i wr => ∃ j : Nat, j ≤ 2 ∧ i = .int .i64 j ∧ Held w 24 #[.int .i64 k, .slice A n c, .string y, .int .i64 d] wr) (fun i _ => 2 - (intOf i).toNat)
  case atStart => exact ⟨0, by omega, rfl, h2⟩
  case round =>
    obtain ⟨j, hj, rfl, h5⟩ := hrel
    clear h2
    by_cases hlt : j < 2
    · have g1 : (j : Int) < 2 := by omega
      go_wp2_with fail
      refine (HE.out _).mono ?_
      rintro e w3 ⟨rfl, rfl⟩
      go_wp2_with fail
      refine (HR.out _).mono ?_
      rintro e w4 ⟨rfl, hg⟩
      have h6 := h5.next hg.below
      have ht := hg.tab
      clear hg h5
      go_wp2_with fail
      refine (same_yes [] none (some ⟨wr.heap.size, 0, none⟩) 0 0 w4 (by simp) (fun h => absurd h (by simp)) ht).mono ?_
      rintro e w5 ⟨rfl, hq⟩
      have h7 := h6.next hq
      clear hq h6 ht
      go_wp2_with fail
      go_loopw [9] (fun i wi => i = .int .i64 0 ∧ Held w 24 #[.int .i64 k, .slice A n c, .string y, .int .i64 d] wi) (fun _ _ => 0)
      case atStart => exact ⟨rfl, h7⟩
      case round =>
        obtain ⟨rfl, h8⟩ := hrel
        clear h7
        go_wp2_with fail
        go_roundw
        case rel => exact ⟨j + 1, by omega, by go_num, h8⟩
        case measure => simp [intOf]; omega
    · obtain rfl : j = 2 := by omega
      go_wp2_with fail
      have q0 := ru_str h5.drew
      go_region_held (fun w' => (w'.cell? ⟨w.heap.size, 0, none⟩ = some (.int .i64 k) ∧ w'.cell? ⟨w.heap.size, 1, none⟩ = some (.slice A n c) ∧ w'.cell? ⟨w.heap.size, 2, none⟩ = some (.string y) ∧ w'.cell? ⟨w.heap.size, 3, none⟩ = some (.int .i64 d)) ∧ Held w 24 #[.int .i64 k, .slice A n c, .string y, .int .i64 d] w')
        (first | exact q0 | assumption | exact ru_on (by assumption) hq)
        (first
          | (go_at_call 14; ((with_reducible refine (H14.out _ (ru_below (by assumption))).mono ?_); rintro e w' ⟨rfl, hq⟩))
          | (go_at_call 15; ((with_reducible refine (H15.out _ (ru_below (by assumption))).mono ?_); rintro e w' ⟨rfl, hq⟩))
          | (go_at_call 16; ((with_reducible refine (fixed_any _).mono ?_); rintro e w' ⟨rfl, hq⟩)))
      all_goals
        rename_i hH
        have hB := hH.2.below
        go_wp2
        go_ret
        exact ⟨rfl, hB⟩
set_option maxRecDepth 100000 in
set_option maxHeartbeats 3200000 in
theorem rssChecks_good (k : Int) (A : Option Addr) (c : Nat) (L : List Int) (x : ByteArray) (d : Int) (n : Nat) (y : ByteArray) (N q : Nat) (l : List Int) (v : Int) (w : World)
    (AB : ∀ W, Below w.heap.size w W → Calls Try.prog 10 #[.agg #[.int .i64 k, .slice A L.length c, .string x, .int .i64 d]] W fun e w' => e = .returned (.agg #[.int .i64 k, .slice A n c, .string y, .int .i64 d]) ∧ Below W.heap.size W w')
    (AE : ∀ W : World, Calls Try.prog 11 #[.int .i64 N, .int .i64 q] W fun e w' => e = .returned (.slice (some ⟨W.heap.size, 0, none⟩) N N) ∧ GI W.heap.size W.heap.size N N l W w')
    (AR : ∀ W : World, Calls Try.prog 13 #[.int .i64 N, .int .i64 q] W fun e w' => ∃ g cap, e = .returned (.slice (some ⟨g, 0, none⟩) N cap) ∧ GI W.heap.size g N cap l W w')
    (AS : ∀ (A A' : Option Addr) (c c' : Nat) W, Tab A l W → Tab A' l W → Calls Try.prog 12 #[.slice A N c, .slice A' N c'] W fun e w' => e = .returned (.bool true) ∧ Below W.heap.size W w')
    (hN : N ≤ 128)
    (A14 : ∀ W, Below w.heap.size w W → Calls Try.prog 14 #[.agg #[.int .i64 k, .slice A n c, .string y, .int .i64 d]] W fun e w' => e = .returned (.int .i64 v) ∧ Below W.heap.size W w')
    (A15 : ∀ W, Below w.heap.size w W → Calls Try.prog 15 #[.agg #[.int .i64 k, .slice A n c, .string y, .int .i64 d]] W fun e w' => e = .returned (.int .i64 v) ∧ Below W.heap.size W w') :
    Calls Try.prog 3 #[.agg #[.int .i64 k, .slice A L.length c, .string x, .int .i64 d], .int .i64 N, .int .i64 q] w fun e w' => e = .returned (.bool true) ∧ Below w.heap.size w w' := by
  have HB := Lib.hid AB
  have HE := Lib.hid AE
  have HR := Lib.hid AR
  have HS := Lib.hid AS
  have H14 := Lib.hid A14
  have H15 := Lib.hid A15
  clear AB AE AR AS A14 A15
  go_enter Try.func3, Try.ntmps3
  go_wp2_with fail
  refine (HB.out _ ((Below.refl _ _).alloc (Nat.le_refl _) _)).mono ?_
  rintro e w1 ⟨rfl, hq⟩
  have h1 := (Held.new w 24 #[.int .i64 k, .slice A L.length c, .string x, .int .i64 d]).next hq
  clear hq
  have z0 := h1.blk.frozen 0
  have z1 := h1.blk.frozen 1
  have z2 := h1.blk.frozen 2
  have z3 := h1.blk.frozen 3
  have c0 := h1.blk.cell 0
  have c1 := h1.blk.cell 1
  have c2 := h1.blk.cell 2
  have c3 := h1.blk.cell 3
  simp only [List.getElem?_toArray, List.getElem?_cons_zero, List.getElem?_cons_succ] at c0 c1 c2 c3
  have h2 := h1.set4 (.int .i64 k) (.slice A n c) (.string y) (.int .i64 d)
  obtain ⟨w2, hw2⟩ : ∃ w2, ((((w1.setCell ⟨w.heap.size, 0, none⟩ (.int .i64 k)).setCell ⟨w.heap.size, 1, none⟩ (.slice A n c)).setCell ⟨w.heap.size, 2, none⟩ (.string y)).setCell ⟨w.heap.size, 3, none⟩ (.int .i64 d)) = w2 := ⟨_, rfl⟩
  rw [hw2] at h2
  have HW := Lib.hid hw2
  clear hw2 h1
  go_wp2_with (rw [HW.out]; clear z0 z1 z2 z3 c0 c1 c2 c3 HW)
  go_loopw [7] (fun i wr => ∃ j : Nat, j ≤ 2 ∧ i = .int .i64 j ∧ Held w 24 #[.int .i64 k, .slice A n c, .string y, .int .i64 d] wr) (fun i _ => 2 - (intOf i).toNat)
  case atStart => exact ⟨0, by omega, rfl, h2⟩
  case round =>
    obtain ⟨j, hj, rfl, h5⟩ := hrel
    clear h2
    by_cases hlt : j < 2
    · have g1 : (j : Int) < 2 := by omega
      go_wp2_with fail
      refine (HE.out _).mono ?_
      rintro e w3 ⟨rfl, hg⟩
      go_wp2_with fail
      refine (HR.out _).mono ?_
      rintro e w4 ⟨g', cap', rfl, hg'⟩
      have hg4 := hg.kept hg'.below
      have ht := hg4.tab
      have ht' := hg'.tab
      clear hg hg'
      go_wp2_with fail
      refine (HS.out _ _ _ _ _ ht ht').mono ?_
      rintro e w5 ⟨rfl, hq⟩
      have hg5 := hg4.kept hq
      clear hq hg4 ht ht'
      go_wp2_with fail
      go_loopw [9] (fun i wi => ∃ (m : Nat) (xs : List Int), m ≤ N ∧ i = .int .i64 m ∧ GI wr.heap.size wr.heap.size N N xs wr wi) (fun i _ => N - (intOf i).toNat)
      case atStart => exact ⟨0, _, by omega, rfl, hg5⟩
      case round =>
        obtain ⟨m, xs, hm, rfl, hg6⟩ := hrel
        clear hg5
        by_cases hmn : m < N
        · have g2 : (m : Int) < (N : Int) := by omega
          have hlen := hg6.len
          have hc := hg6.cell m (by omega)
          have hf := hg6.free m
          generalize xs[m]'(by omega) = z at hc
          have HS2 := Lib.hid (hg6.set m (-1))
          clear hg6 hlen
          go_wp2_with fail
          go_roundw
          case rel => exact ⟨m + 1, _, by omega, by go_num, HS2.out⟩
          case measure => simp [intOf]; omega
        · have g2 : ¬ (m : Int) < (N : Int) := by omega
          have h8 := h5.next hg6.below
          clear hg6 h5
          go_wp2_with fail
          go_roundw
          case rel => exact ⟨j + 1, by omega, by go_num, h8⟩
          case measure => simp [intOf]; omega
    · obtain rfl : j = 2 := by omega
      go_wp2_with fail
      have q0 := ru_str h5.drew
      go_region_held (fun w' => (w'.cell? ⟨w.heap.size, 0, none⟩ = some (.int .i64 k) ∧ w'.cell? ⟨w.heap.size, 1, none⟩ = some (.slice A n c) ∧ w'.cell? ⟨w.heap.size, 2, none⟩ = some (.string y) ∧ w'.cell? ⟨w.heap.size, 3, none⟩ = some (.int .i64 d)) ∧ Held w 24 #[.int .i64 k, .slice A n c, .string y, .int .i64 d] w')
        (first | exact q0 | assumption | exact ru_on (by assumption) hq)
        (first
          | (go_at_call 14; ((with_reducible refine (H14.out _ (ru_below (by assumption))).mono ?_); rintro e w' ⟨rfl, hq⟩))
          | (go_at_call 15; ((with_reducible refine (H15.out _ (ru_below (by assumption))).mono ?_); rintro e w' ⟨rfl, hq⟩))
          | (go_at_call 16; ((with_reducible refine (fixed_any _).mono ?_); rintro e w' ⟨rfl, hq⟩)))
      all_goals
        rename_i hH
        have hB := hH.2.below
        go_wp2
        go_ret
        exact ⟨rfl, hB⟩
theorem rssChecks_any (k : Int) (A : Option Addr) (c : Nat) (L : List Int) (x : ByteArray) (d : Int) (sz q : Int) (w : World) (hT : Tin A c L w) (k0 : -9223372036854775808 ≤ k) (k1 : k ≤ 9223372036854775807) :
    Calls Try.prog 3 #[.agg #[.int .i64 k, .slice A L.length c, .string x, .int .i64 d], .int .i64 sz, .int .i64 q] w fun e w' => e = .returned (.bool true) ∧ Below w.heap.size w w' := by
  have hT1 := fun W (hb : Below w.heap.size w W) => (hT.1.take 300).below hb
  have AB := fun W (hb : Below w.heap.size w W) => bound_any k d A c L x W ⟨hT.1.below hb, hT.2⟩
  have hl : (L.take 300).length ≤ 300 := by rw [List.length_take]; omega
  have C1 := fun W (hb : Below w.heap.size w W) => check_any k A c (L.take 300) (x.extract 0 60) d W (hT1 W hb)
  have C2 := fun W (hb : Below w.heap.size w W) => rcheck_any k A c (L.take 300) (x.extract 0 60) d W (hT1 W hb) hl k0 k1
  by_cases h : 1 ≤ sz ∧ sz ≤ 128 ∧ 1 ≤ q ∧ q ≤ 8
  · obtain ⟨N, rfl⟩ := Int.eq_ofNat_of_zero_le (show 0 ≤ sz by omega)
    obtain ⟨Q, rfl⟩ := Int.eq_ofNat_of_zero_le (show 0 ≤ q by omega)
    refine rssChecks_good k A c L x d _ _ N Q (evenL N Q) _ w AB (fun W => even_good N Q W (by omega) (by omega) (by omega) (by omega)) (fun W => reven_good N Q W (by omega) (by omega) (by omega) (by omega)) (fun A A' c c' W h h' => ?_) (by omega) C1 C2
    have := same_yes (evenL N Q) A A' c c' W (by rw [evenL_length]; omega) h h'
    rw [evenL_length] at this
    exact this
  · refine rssChecks_bad k A c L x d _ _ sz q _ w AB (fun W => even_bad sz q W _ rfl (fun hb => ?_)) (fun W => reven_bad sz q W _ _ _ _ rfl rfl rfl rfl ?_) C1 C2
    · simp only [fromB, Bool.and_eq_true, decide_eq_true_eq] at hb
      simp only [fromB, Bool.and_eq_false_iff, decide_eq_false_iff_not]
      omega
    · simp only [Bool.and_eq_false_iff, decide_eq_false_iff_not]
      omega

set_option maxRecDepth 100000 in
theorem rssChecks_lifted (os : Os) (started : os.Started) (H : Type) (enc : TypeId × Value → H) :
    ReturnsInHanded {} Try.checked os 3 .any (Rows.rssChecksSpec.pre6 enc Try.prog Try.f3 Rows.rssChecksRow.domain false) (Rows.rssChecksSpec.post enc Try.prog Try.f3 false true false false) := by
  have e : Try.f3.params.toList = [24, 3, 3] := by rw [Try.params3]
  refine law_of_walk (C := Try.checked) (tb := 4) H enc Try.own started (by kernel_rfl) Try.func3 Try.laidOut rfl rfl Try.underlying4 ?_ ?_
    (ChangeSpec.witness6 (enc := enc) (C := Try.checked) false ⟨#[], #[.agg #[.int .i64 0, .slice none 0 0, .string ByteArray.empty, .int .i64 0], .int .i64 0, .int .i64 0], []⟩ 8 (by kernel_rfl) (by kernel_rfl) (by kernel_rfl) (by kernel_rfl)) ?_
  · rw [e]
    intro t ht
    simp only [List.mem_cons, List.not_mem_nil, or_false] at ht
    rcases ht with rfl | rfl | rfl <;> exact ⟨by kernel_rfl, of_decide_eq_true (by kernel_rfl)⟩
  · intro ds hds
    rw [e] at hds
    match ds, hds with
    | [d0, d1, d2], _ => rfl
  · intro W base args ds p hval0 hA0 hsz0
    have hval : ∀ (j : Nat) t v, Try.f3.params[j]? = some t → args[j]? = some v → Value.okWide Try.prog W .any base t v := hval0
    have hA : DataW.TrodAll enc Try.prog W 0 (fun _ => true) true Try.f3.params.toList args.toList ds p := hA0
    have hsz : (DataW.weightsEach Try.prog Try.f3.params.toList ds).all (· ≤ reachBytes) = true := hsz0
    rw [Try.params3] at hA hval hsz
    obtain ⟨v0, v1, v2, d0, d1, d2, p0, p1, p2, rfl, rfl, rfl, h0, h1, h2⟩ := trodAll_three hA
    obtain ⟨k, A, c, L, x, dv, rfl, hT, hk, hd⟩ := open_rss (hval 0 24 v0 rfl rfl) h0
    obtain ⟨x1, rfl, rfl, rfl, k1⟩ := open_int Try.underlying3 (hval 1 3 v1 rfl rfl) h1
    have i1 := bounds_i64 k1
    obtain ⟨x2, rfl, rfl, rfl, k2⟩ := open_int Try.underlying3 (hval 2 3 v2 rfl rfl) h2
    have i2 := bounds_i64 k2
    exact rssChecks_any k A c L x dv x1 x2 W hT hk.1 hk.2

theorem rssChecks_holds : Rows.RssChecksSaid :=
  OpenClaim.holds_of_wide 3 Try.f3 rfl rfl rfl rfl rfl rfl rfl ⟨rfl, rfl, rfl, rfl, rfl⟩ rfl rfl rfl rfl rfl (by kernel_rfl) Try.func3 (by kernel_rfl)
    (of_decide_eq_true (by kernel_rfl)) (by unfold Func.isWrapper; first | (rw [if_pos (by decide +kernel)]; kernel_rfl) | (rw [if_neg (by decide +kernel)]; exact ⟨rfl, rfl⟩))
    (fun os started H enc _ => rssChecks_lifted os started H enc)
end Go.Proofs.Ytpjndjmneficbaa
