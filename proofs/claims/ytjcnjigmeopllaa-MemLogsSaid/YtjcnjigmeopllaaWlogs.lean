/-
  For every input the law MemLogs returns true, and its arguments read afterwards as before; no condition beyond the form's own reach.
-/
import Derived.Test.YtjcnjigmeopllaaThree
namespace Go.Proofs.Ytjcnjigmeopllaa
open Go.Joins Go.ChangeShapes Go.WideShapes Go.ChangeAt Go.RowKit Go.Deep

/-- A slice of numbers that came in, nil let in. -/
def IntsAt (A : Option Addr) (n : Nat) (w : World) : Prop := 0 < n → ∃ b off, A = some ⟨b, off, none⟩ ∧ b < w.heap.size ∧ ∀ i, i < n → ∃ z : Int, w.cell? ⟨b, off + i, none⟩ = some (.int .i64 z)
theorem IntsAt.cell {A : Option Addr} {n : Nat} {w w' : World} (h : IntsAt A n w) (hb : Below w.heap.size w w') (i : Nat) (hi : i < n) : ∃ b off, ∃ z : Int, A = some ⟨b, off, none⟩ ∧ b < w.heap.size ∧ w'.cell? ⟨b, off + i, none⟩ = some (.int .i64 z) := by
  obtain ⟨b, off, hA, hlt, hc⟩ := h (by omega)
  obtain ⟨z, hz⟩ := hc i hi
  exact ⟨b, off, z, hA, hlt, (hb.cell (p := ⟨b, off + i, none⟩) hlt).trans hz⟩
theorem low_and (n : Int) (j : Nat) (m : Int) (hj : j ≤ 32) (hm : (BitVec.ofInt 64 m).toNat = 2 ^ j - 1) : ∃ X : Nat, X < 2 ^ j ∧ bits .and .i64 n m = (X : Int) := by
  have h : bits .and .i64 n m = IntKind.i64.wrap (((BitVec.ofInt 64 n).toNat % 2 ^ j : Nat) : Int) := by
    show IntKind.i64.wrap (((BitVec.ofInt 64 n &&& BitVec.ofInt 64 m).toNat : Nat) : Int) = _
    rw [BitVec.toNat_and, hm, Nat.and_two_pow_sub_one_eq_mod]
  have hb : (BitVec.ofInt 64 n).toNat % 2 ^ j < 2 ^ j := Nat.mod_lt _ (Nat.two_pow_pos j)
  have hp : 2 ^ j ≤ 2 ^ 32 := Nat.pow_le_pow_right (by omega) hj
  rw [IntWalk.i64_in _ (by omega)] at h
  exact ⟨_, hb, h⟩
/-- what holds at a round's head -/
def Rel (w0 : World) (g k : Nat) (vw vg : Value) (w : World) : Prop :=
  ∃ X ag LG WL GL, X.length = 64 ∧ WL.length = k ∧ GL ++ LG = WL ∧ Three w0 g X ag LG vw WL vg GL w
theorem own_form' {w : World} {B e size n k : Nat} {v : Value} {xs : List Value} (h : w.ownsRow B e size v n xs) (hk : n = k) : ∃ A cap, v = .slice A k cap := by
  subst hk; exact own_form h
section
variable {w0 w w' : World} {g : Nat} {X : List UInt8} {ag : Int} {LG WL GL : List Acc} {vw vg : Value}
theorem three_store4 (h : Three w0 g X ag LG vw WL vg GL w) (a : Nat) (hX : X.length = 64) (ha : a < 32) (hl : LG.length ≤ 60) :
    Calls Try.prog 18 #[.pointer (some ⟨g, 0, none⟩), .int .i64 a, .int .i64 4, .int .u64 7] w fun e w' => e = .returned (.int .i64 0) ∧ ∃ X' : List UInt8, X'.length = 64 ∧ Three w0 g X' ag (LG ++ [⟨ag, a, 4, true⟩]) vw WL vg GL w' := by
  refine (three_store h a 4 7 (by omega) (.inr (.inr (.inl rfl))) (by decide) (by omega)).mono fun e w' ⟨he, hT⟩ => ⟨he, _, ?_, hT⟩
  rw [over_length _ _ _ (by rw [numS_size]; omega)]; exact hX
theorem three_read4 (h : Three w0 g X ag LG vw WL vg GL w) (a : Nat) (hX : X.length = 64) (ha : a < 32) (hl : LG.length ≤ 60) :
    Calls Try.prog 16 #[.pointer (some ⟨g, 0, none⟩), .int .i64 a, .int .i64 4] w fun e w' => ∃ s, e = .returned (.tuple #[.string s, .int .i64 0]) ∧ ∃ X' : List UInt8, X'.length = 64 ∧ Three w0 g X' ag (LG ++ [⟨ag, a, 4, false⟩]) vw WL vg GL w' :=
  (three_read h a 4 (by omega) (by omega)).mono fun e w' ⟨he, hT⟩ => ⟨_, he, _, hX, hT⟩
/-- what lies ready for the append of what is wanted -/
theorem three_ready {A : Option Addr} {k c : Nat} (h : Three w0 g X ag LG (.slice A k c) WL vg GL w) (hk : WL.length = k) (x : Acc) :
    (w.alloc (.cells (accCells x).toArray 44)).ownsRow w0.heap.size 44 4 (.slice A k c) k (logCells WL) ∧
    (∀ j u, (accCells x)[j]? = some u → (w.alloc (.cells (accCells x).toArray 44)).cell? ((⟨w.heap.size, 0, none⟩ : Addr).add j) = some u) ∧
    w0.heap.size ≤ w.heap.size ∧
    (∀ gl cap w2, w2.ownsRow w0.heap.size 44 4 (.slice (some ⟨gl, 0, none⟩) (k + 1) cap) (k + 1) (logCells WL ++ accCells x) → (w.alloc (.cells (accCells x).toArray 44)).grownBy w2 (Value.slice A k c).ownBlock → ((Value.slice A k c).ownBlock = some gl ∨ gl = w.heap.size + 1) →
      Three w0 g X ag LG (.slice (some ⟨gl, 0, none⟩) (k + 1) cap) (WL ++ [x]) vg GL w2) := by
  subst hk
  refine ⟨h.want.alloc _, World.news_of_block (B := w.heap.size) (cs := (accCells x).toArray) (t := 44) (fr := (0, 0)) (heap_alloc_new w _), h.below.size, fun gl cap w2 hown hgrow hat => ?_⟩
  exact h.more (bla (Below.refl _ _) _) hown hgrow (by simpa using hat)
/-- what lies ready for the append of what is told -/
theorem three_gets {A : Option Addr} {j c : Nat} {L : List Acc} (h : Three w0 g X ag [] vw WL (.slice A j c) GL w) (hj : GL.length = j) (hl : (GL ++ L).length ≤ 60) :
    w.ownsRow w0.heap.size 44 4 (.slice A j c) j (logCells GL) ∧ w0.heap.size ≤ w.heap.size ∧ j + L.length ≤ 60 ∧
    (∀ v' w2, w2.ownsRow w0.heap.size 44 4 v' (j + L.length) (logCells GL ++ logCells L) → w.grownBy w2 (Value.slice A j c).ownBlock → (v'.ownBlock = (Value.slice A j c).ownBlock ∨ v'.ownBlock = some w.heap.size) →
      Three w0 g X ag [] vw WL v' (GL ++ L) w2) := by
  subst hj
  exact ⟨h.got, h.below.size, by simpa using hl, fun v' w2 hown hgrow hat => h.gets hown hgrow hat⟩
end
/-- what was got is what was wanted -/
theorem logs_same {w0 w : World} {g : Nat} {X : List UInt8} {ag : Int} {LG WL : List Acc} {A A' : Option Addr} {k c c' : Nat} (h : Three w0 g X ag LG (.slice A k c) WL (.slice A' k c') WL w) (hk : WL.length = k) (hl : WL.length ≤ 60) :
    Calls Try.prog 17 #[.slice A' k c', .slice A k c] w fun e w' => e = .returned (.bool true) ∧ Below w.heap.size w w' := by
  subst hk
  exact same_yes WL A' A c' c w (by omega) (LogAt.of_own h.got) (LogAt.of_own h.want)
theorem Three.after {w0 w w' : World} {g : Nat} {X : List UInt8} {ag : Int} {LG WL GL : List Acc} {vw vg : Value} (h : Three w0 g X ag LG vw WL vg GL w) (hb : Below w.heap.size w w') : Three w0 g X ag LG vw WL vg GL w' := by
  obtain ⟨gb, lv, hm, n1, n2⟩ := h.mem
  exact ⟨⟨gb, lv, hm.below hb (Nat.le_refl _), n1, n2⟩, own_same h.want (fun k hk => hb.block k (h.want.lt k hk).2), own_same h.got (fun k hk => hb.block k (h.got.lt k hk).2), h.apart, bl h.below hb⟩
set_option maxRecDepth 100000 in
set_option maxHeartbeats 8000000 in
theorem logs_any (A A' : Option Addr) (n c m c' : Nat) (w : World) (h1 : IntsAt A n w) (h2 : IntsAt A' m w) (hn : n ≤ maxLen) (hm : m ≤ maxLen) :
    Calls Try.prog 6 #[.slice A n c, .slice A' m c'] w fun e w' => e = .returned (.bool true) ∧ Below w.heap.size w w' := by
  obtain ⟨i0, hi, hz0, hz1, hz2⟩ := info_parts Try.info44
  have HI := Lib.hid hi
  have HZ0 := Lib.hid hz0
  have HZ1 := Lib.hid hz1
  have HZ2 := Lib.hid hz2
  clear hi hz0 hz1 hz2
  have n1 : Calls Try.prog 9 #[.int .i64 64] w fun e w' => ∃ g, e = .returned (.tuple #[.pointer (some ⟨g, 0, none⟩), .int .i64 0]) ∧ M w g (List.replicate 64 0) 0 [] w' := new_ok 64 w (by omega) (by omega)
  obtain ⟨X0, hX0, eX⟩ : ∃ X, X.length = 64 ∧ List.replicate 64 (0 : UInt8) = X := ⟨_, List.length_replicate .., rfl⟩
  rw [eX] at n1
  have N1 := Lib.hid n1
  have HX0 := Lib.hid hX0
  have H1 := Lib.hid h1
  have H2 := Lib.hid h2
  clear n1 eX hX0 h1 h2
  unfold maxLen at hn hm
  go_enter Try.func6, Try.ntmps6
  go_wp2_with (go_at_call 9; ((with_reducible refine N1.out.mono ?_); rintro e w1 ⟨g, rfl, hM⟩))
  go_loopw [7, 8, 9] (fun vw vg i wr => ∃ k : Nat, k ≤ n ∧ k ≤ 60 ∧ i = .int .i64 k ∧ Rel w g k vw vg wr) (fun _ _ i _ => 60 - (intOf i).toNat)
  case atStart => exact ⟨0, by omega, by omega, rfl, X0, 0, [], [], [], HX0.out, rfl, rfl, Three.start hM rfl rfl⟩
  case round =>
    obtain ⟨k, hk1, hk2, rfl, hR⟩ := hrel
    obtain ⟨X, ag, LG, WL, GL, hX, hW, hL, hT⟩ := hR
    obtain ⟨Aw, cw, rfl⟩ := own_form' hT.want hW
    obtain ⟨Ag, cg, rfl⟩ := own_form hT.got
    have hlg : LG.length ≤ k := by
      have := congrArg List.length hL
      simp at this; omega
    have HX := Lib.hid hX
    have HW := Lib.hid hW
    have HL := Lib.hid hL
    clear hX hW hL hM N1 HX0
    by_cases hlt : k < n ∧ k < 60
    · obtain ⟨l1, l2⟩ := hlt
      replace hlg : LG.length ≤ 60 := by omega
      obtain ⟨b1, o1, z, rfl, hlt1, hcell⟩ := H1.out.cell hT.below k l1
      obtain ⟨a, ha0, ea⟩ := low_and z 5 31 (by omega) (by decide)
      have ha : a < 32 := ha0
      clear ha0
      by_cases hpar : k % 2 = 0
      · have hp : ((k : Int) % 2 == 0) = true := by simp; omega
        rcases Nat.eq_zero_or_pos m with hm0 | hm0
        · subst hm0
          go_wp2_with (first
              | (go_at_call 20; ((with_reducible refine (three_as hT (k : Int)).mono ?_); rintro e w2 ⟨rfl, hT1⟩; clear hT))
              | (go_at_call 21; ((with_reducible refine (three_may hT1 _ _ (by omega) (by omega) (by rw [HX.out]; omega)).mono ?_); rintro e w3 ⟨rfl, rfl⟩))
              | (go_at_call 18; ((with_reducible refine (three_store4 hT1 a HX.out ha hlg).mono ?_); rintro e w4 ⟨rfl, X', hX', hT3⟩; have HX' := Lib.hid hX'; clear hX' hT1; have HR := Lib.hid (three_ready hT3 HW.out ⟨(k : Int), (a : Int), 4, true⟩)))
              | (at_builtin; refine wpList_append_lies _ rfl (.tmp 53) (.tmp 60) 38 rfl w.heap.size 44 i0 _ 4 32 Try.underlying38 HI.out HZ0.out HZ1.out HZ2.out rfl (by decide) (.slice Aw k cw) k (logCells WL) rfl HR.out.1 ⟨w4.heap.size, 0, none⟩ 1 1 (accCells ⟨(k : Int), (a : Int), 4, true⟩) rfl rfl HR.out.2.1 (acc_one _) (by decide) (by unfold maxLen; omega) (by omega) (by have := HR.out.2.2.1; simp; omega) (w4.heap.size + 1) (by simp) ?_; intro gl cap' w5 hown hgrow hat _; have hT4 := HR.out.2.2.2 gl cap' w5 hown hgrow hat; clear hown hgrow hat HR hT3)
              | (go_at_call 13; ((with_reducible refine (three_image hT4).mono ?_); rintro e w8 ⟨rfl, rfl⟩)))
          go_roundw
          case rel => exact ⟨k + 1, by omega, by omega, by go_num, X', (k : Int), _, _, _, HX'.out, by simp [HW.out], by rw [← List.append_assoc, HL.out], hT4⟩
          case measure => simp [intOf]; omega
        · obtain ⟨J, hJ, eJ⟩ : ∃ J : Nat, J < m ∧ (k : Int).tmod (m : Int) = (J : Int) := by
            have p1 := Int.emod_nonneg (k : Int) (show (m : Int) ≠ 0 by omega)
            have p2 := Int.emod_lt_of_pos (k : Int) (show (0 : Int) < (m : Int) by omega)
            exact ⟨((k : Int) % (m : Int)).toNat, by omega, by rw [Int.tmod_eq_emod_of_nonneg (by omega)]; omega⟩
          have eJ2 : (k : Int) % (m : Int) = (J : Int) := by rw [← eJ, Int.tmod_eq_emod_of_nonneg (by omega)]
          obtain ⟨b2, o2, zj, rfl, hlt2, hcj⟩ := H2.out.cell (Below.refl _ _) J hJ
          have HJ := Lib.hid hcj
          clear hcj
          by_cases hbit : (bits .and .i64 zj 1 == 1) = true
          · go_wp2_with (first
                | (go_at_call 20; ((with_reducible refine (three_as hT (k : Int)).mono ?_); rintro e w2 ⟨rfl, hT1⟩; clear hT))
                | (go_at_call 21; ((with_reducible refine (three_may hT1 _ _ (by omega) (by omega) (by rw [HX.out]; omega)).mono ?_); rintro e w3 ⟨rfl, rfl⟩))
                | (go_at_call 18; ((with_reducible refine (three_store4 hT1 a HX.out ha hlg).mono ?_); rintro e w4 ⟨rfl, X', hX', hT3⟩; have HX' := Lib.hid hX'; clear hX' hT1; have HR := Lib.hid (three_ready hT3 HW.out ⟨(k : Int), (a : Int), 4, true⟩)))
                | (at_builtin; refine wpList_append_lies _ rfl (.tmp 53) (.tmp 60) 38 rfl w.heap.size 44 i0 _ 4 32 Try.underlying38 HI.out HZ0.out HZ1.out HZ2.out rfl (by decide) (.slice Aw k cw) k (logCells WL) rfl HR.out.1 ⟨w4.heap.size, 0, none⟩ 1 1 (accCells ⟨(k : Int), (a : Int), 4, true⟩) rfl rfl HR.out.2.1 (acc_one _) (by decide) (by unfold maxLen; omega) (by omega) (by have := HR.out.2.2.1; simp; omega) (w4.heap.size + 1) (by simp) ?_; intro gl cap' w5 hown hgrow hat _; have hT4 := HR.out.2.2.2 gl cap' w5 hown hgrow hat; clear hown hgrow hat HR hT3; have cj := (hT4.below.cell (p := ⟨b2, o2 + J, none⟩) hlt2).trans HJ.out; obtain ⟨L, eL⟩ : ∃ L, LG ++ ([⟨(k : Int), (a : Int), 4, true⟩] : List Acc) = L := ⟨_, rfl⟩; rw [eL] at hT4; have hLl : L.length ≤ 61 := (by rw [← eL, List.length_append]; exact Nat.add_le_add hlg (Nat.le_refl 1)); have HEL := Lib.hid eL; clear eL)
                | (go_at_call 15; ((with_reducible refine (three_log hT4 (by omega)).mono ?_); rintro e w6 ⟨A2, cap2, rfl, hrd, hT5⟩; clear hT4 cj; have HG := Lib.hid (three_gets (L := L) hT5 rfl (by rw [← HEL.out, ← List.append_assoc, HL.out, List.length_append, HW.out]; exact l2)); have HRD := Lib.hid hrd; clear hrd))
                | (at_builtin; refine wpList_append_any _ rfl (.tmp 76) (.tmp 78) 38 rfl w.heap.size 44 i0 _ 4 32 Try.underlying38 HI.out HZ0.out HZ1.out HZ2.out rfl (by decide) (.slice Ag GL.length cg) GL.length (logCells GL) rfl HG.out.1 w6.heap.size A2 L.length cap2 (logCells L) rfl HRD.out (log_one _) (by have := HG.out.2.2.1; unfold maxLen; omega) (by have := HG.out.2.2.1; omega) HG.out.2.1 ?_; intro v7 w7 hown hgrow hat; have hT6 := HG.out.2.2.2 v7 w7 hown hgrow hat; clear hown hgrow hat HG hT5 HRD)
                | (go_at_call 13; ((with_reducible refine (three_image hT6).mono ?_); rintro e w8 ⟨rfl, rfl⟩)))
            go_roundw
            case rel => exact ⟨k + 1, by omega, by omega, by go_num, X', (k : Int), [], _, _, HX'.out, by simp [HW.out], by rw [List.append_nil, ← HEL.out, ← List.append_assoc, HL.out], hT6⟩
            case measure => simp [intOf]; omega
          · have hbit' : (bits .and .i64 zj 1 == 1) = false := by simpa using hbit
            clear hbit
            go_wp2_with (first
                | (go_at_call 20; ((with_reducible refine (three_as hT (k : Int)).mono ?_); rintro e w2 ⟨rfl, hT1⟩; clear hT))
                | (go_at_call 21; ((with_reducible refine (three_may hT1 _ _ (by omega) (by omega) (by rw [HX.out]; omega)).mono ?_); rintro e w3 ⟨rfl, rfl⟩))
                | (go_at_call 18; ((with_reducible refine (three_store4 hT1 a HX.out ha hlg).mono ?_); rintro e w4 ⟨rfl, X', hX', hT3⟩; have HX' := Lib.hid hX'; clear hX' hT1; have HR := Lib.hid (three_ready hT3 HW.out ⟨(k : Int), (a : Int), 4, true⟩)))
                | (at_builtin; refine wpList_append_lies _ rfl (.tmp 53) (.tmp 60) 38 rfl w.heap.size 44 i0 _ 4 32 Try.underlying38 HI.out HZ0.out HZ1.out HZ2.out rfl (by decide) (.slice Aw k cw) k (logCells WL) rfl HR.out.1 ⟨w4.heap.size, 0, none⟩ 1 1 (accCells ⟨(k : Int), (a : Int), 4, true⟩) rfl rfl HR.out.2.1 (acc_one _) (by decide) (by unfold maxLen; omega) (by omega) (by have := HR.out.2.2.1; simp; omega) (w4.heap.size + 1) (by simp) ?_; intro gl cap' w5 hown hgrow hat _; have hT4 := HR.out.2.2.2 gl cap' w5 hown hgrow hat; clear hown hgrow hat HR hT3; have cj := (hT4.below.cell (p := ⟨b2, o2 + J, none⟩) hlt2).trans HJ.out)
                | (go_at_call 13; ((with_reducible refine (three_image hT4).mono ?_); rintro e w8 ⟨rfl, rfl⟩)))
            go_roundw
            case rel => exact ⟨k + 1, by omega, by omega, by go_num, X', (k : Int), _, _, _, HX'.out, by simp [HW.out], by rw [← List.append_assoc, HL.out], hT4⟩
            case measure => simp [intOf]; omega
      · have hp : ((k : Int) % 2 == 0) = false := by simp; omega
        rcases Nat.eq_zero_or_pos m with hm0 | hm0
        · subst hm0
          go_wp2_with (first
              | (go_at_call 20; ((with_reducible refine (three_as hT (k : Int)).mono ?_); rintro e w2 ⟨rfl, hT1⟩; clear hT))
              | (go_at_call 21; ((with_reducible refine (three_may hT1 _ _ (by omega) (by omega) (by rw [HX.out]; omega)).mono ?_); rintro e w3 ⟨rfl, rfl⟩))
              | (go_at_call 16; ((with_reducible refine (three_read4 hT1 a HX.out ha hlg).mono ?_); rintro e w4 ⟨s4, rfl, X', hX', hT3⟩; have HX' := Lib.hid hX'; clear hX' hT1; have HR := Lib.hid (three_ready hT3 HW.out ⟨(k : Int), (a : Int), 4, false⟩)))
              | (at_builtin; refine wpList_append_lies _ rfl (.tmp 53) (.tmp 60) 38 rfl w.heap.size 44 i0 _ 4 32 Try.underlying38 HI.out HZ0.out HZ1.out HZ2.out rfl (by decide) (.slice Aw k cw) k (logCells WL) rfl HR.out.1 ⟨w4.heap.size, 0, none⟩ 1 1 (accCells ⟨(k : Int), (a : Int), 4, false⟩) rfl rfl HR.out.2.1 (acc_one _) (by decide) (by unfold maxLen; omega) (by omega) (by have := HR.out.2.2.1; simp; omega) (w4.heap.size + 1) (by simp) ?_; intro gl cap' w5 hown hgrow hat _; have hT4 := HR.out.2.2.2 gl cap' w5 hown hgrow hat; clear hown hgrow hat HR hT3)
              | (go_at_call 13; ((with_reducible refine (three_image hT4).mono ?_); rintro e w8 ⟨rfl, rfl⟩)))
          go_roundw
          case rel => exact ⟨k + 1, by omega, by omega, by go_num, X', (k : Int), _, _, _, HX'.out, by simp [HW.out], by rw [← List.append_assoc, HL.out], hT4⟩
          case measure => simp [intOf]; omega
        · obtain ⟨J, hJ, eJ⟩ : ∃ J : Nat, J < m ∧ (k : Int).tmod (m : Int) = (J : Int) := by
            have p1 := Int.emod_nonneg (k : Int) (show (m : Int) ≠ 0 by omega)
            have p2 := Int.emod_lt_of_pos (k : Int) (show (0 : Int) < (m : Int) by omega)
            exact ⟨((k : Int) % (m : Int)).toNat, by omega, by rw [Int.tmod_eq_emod_of_nonneg (by omega)]; omega⟩
          have eJ2 : (k : Int) % (m : Int) = (J : Int) := by rw [← eJ, Int.tmod_eq_emod_of_nonneg (by omega)]
          obtain ⟨b2, o2, zj, rfl, hlt2, hcj⟩ := H2.out.cell (Below.refl _ _) J hJ
          have HJ := Lib.hid hcj
          clear hcj
          by_cases hbit : (bits .and .i64 zj 1 == 1) = true
          · go_wp2_with (first
                | (go_at_call 20; ((with_reducible refine (three_as hT (k : Int)).mono ?_); rintro e w2 ⟨rfl, hT1⟩; clear hT))
                | (go_at_call 21; ((with_reducible refine (three_may hT1 _ _ (by omega) (by omega) (by rw [HX.out]; omega)).mono ?_); rintro e w3 ⟨rfl, rfl⟩))
                | (go_at_call 16; ((with_reducible refine (three_read4 hT1 a HX.out ha hlg).mono ?_); rintro e w4 ⟨s4, rfl, X', hX', hT3⟩; have HX' := Lib.hid hX'; clear hX' hT1; have HR := Lib.hid (three_ready hT3 HW.out ⟨(k : Int), (a : Int), 4, false⟩)))
                | (at_builtin; refine wpList_append_lies _ rfl (.tmp 53) (.tmp 60) 38 rfl w.heap.size 44 i0 _ 4 32 Try.underlying38 HI.out HZ0.out HZ1.out HZ2.out rfl (by decide) (.slice Aw k cw) k (logCells WL) rfl HR.out.1 ⟨w4.heap.size, 0, none⟩ 1 1 (accCells ⟨(k : Int), (a : Int), 4, false⟩) rfl rfl HR.out.2.1 (acc_one _) (by decide) (by unfold maxLen; omega) (by omega) (by have := HR.out.2.2.1; simp; omega) (w4.heap.size + 1) (by simp) ?_; intro gl cap' w5 hown hgrow hat _; have hT4 := HR.out.2.2.2 gl cap' w5 hown hgrow hat; clear hown hgrow hat HR hT3; have cj := (hT4.below.cell (p := ⟨b2, o2 + J, none⟩) hlt2).trans HJ.out; obtain ⟨L, eL⟩ : ∃ L, LG ++ ([⟨(k : Int), (a : Int), 4, false⟩] : List Acc) = L := ⟨_, rfl⟩; rw [eL] at hT4; have hLl : L.length ≤ 61 := (by rw [← eL, List.length_append]; exact Nat.add_le_add hlg (Nat.le_refl 1)); have HEL := Lib.hid eL; clear eL)
                | (go_at_call 15; ((with_reducible refine (three_log hT4 (by omega)).mono ?_); rintro e w6 ⟨A2, cap2, rfl, hrd, hT5⟩; clear hT4 cj; have HG := Lib.hid (three_gets (L := L) hT5 rfl (by rw [← HEL.out, ← List.append_assoc, HL.out, List.length_append, HW.out]; exact l2)); have HRD := Lib.hid hrd; clear hrd))
                | (at_builtin; refine wpList_append_any _ rfl (.tmp 76) (.tmp 78) 38 rfl w.heap.size 44 i0 _ 4 32 Try.underlying38 HI.out HZ0.out HZ1.out HZ2.out rfl (by decide) (.slice Ag GL.length cg) GL.length (logCells GL) rfl HG.out.1 w6.heap.size A2 L.length cap2 (logCells L) rfl HRD.out (log_one _) (by have := HG.out.2.2.1; unfold maxLen; omega) (by have := HG.out.2.2.1; omega) HG.out.2.1 ?_; intro v7 w7 hown hgrow hat; have hT6 := HG.out.2.2.2 v7 w7 hown hgrow hat; clear hown hgrow hat HG hT5 HRD)
                | (go_at_call 13; ((with_reducible refine (three_image hT6).mono ?_); rintro e w8 ⟨rfl, rfl⟩)))
            go_roundw
            case rel => exact ⟨k + 1, by omega, by omega, by go_num, X', (k : Int), [], _, _, HX'.out, by simp [HW.out], by rw [List.append_nil, ← HEL.out, ← List.append_assoc, HL.out], hT6⟩
            case measure => simp [intOf]; omega
          · have hbit' : (bits .and .i64 zj 1 == 1) = false := by simpa using hbit
            clear hbit
            go_wp2_with (first
                | (go_at_call 20; ((with_reducible refine (three_as hT (k : Int)).mono ?_); rintro e w2 ⟨rfl, hT1⟩; clear hT))
                | (go_at_call 21; ((with_reducible refine (three_may hT1 _ _ (by omega) (by omega) (by rw [HX.out]; omega)).mono ?_); rintro e w3 ⟨rfl, rfl⟩))
                | (go_at_call 16; ((with_reducible refine (three_read4 hT1 a HX.out ha hlg).mono ?_); rintro e w4 ⟨s4, rfl, X', hX', hT3⟩; have HX' := Lib.hid hX'; clear hX' hT1; have HR := Lib.hid (three_ready hT3 HW.out ⟨(k : Int), (a : Int), 4, false⟩)))
                | (at_builtin; refine wpList_append_lies _ rfl (.tmp 53) (.tmp 60) 38 rfl w.heap.size 44 i0 _ 4 32 Try.underlying38 HI.out HZ0.out HZ1.out HZ2.out rfl (by decide) (.slice Aw k cw) k (logCells WL) rfl HR.out.1 ⟨w4.heap.size, 0, none⟩ 1 1 (accCells ⟨(k : Int), (a : Int), 4, false⟩) rfl rfl HR.out.2.1 (acc_one _) (by decide) (by unfold maxLen; omega) (by omega) (by have := HR.out.2.2.1; simp; omega) (w4.heap.size + 1) (by simp) ?_; intro gl cap' w5 hown hgrow hat _; have hT4 := HR.out.2.2.2 gl cap' w5 hown hgrow hat; clear hown hgrow hat HR hT3; have cj := (hT4.below.cell (p := ⟨b2, o2 + J, none⟩) hlt2).trans HJ.out)
                | (go_at_call 13; ((with_reducible refine (three_image hT4).mono ?_); rintro e w8 ⟨rfl, rfl⟩)))
            go_roundw
            case rel => exact ⟨k + 1, by omega, by omega, by go_num, X', (k : Int), _, _, _, HX'.out, by simp [HW.out], by rw [← List.append_assoc, HL.out], hT4⟩
            case measure => simp [intOf]; omega
    · have hk3 : ¬ k < n ∨ (k < n ∧ ¬ k < 60) := by omega
      clear hlt
      have hlog := three_log hT (by omega)
      have HLG := Lib.hid hlog
      clear hlog hT
      have hwl : WL.length ≤ 60 := by have := HW.out; omega
      have hgl : (GL ++ LG).length ≤ 60 := by rw [HL.out]; exact hwl
      rcases hk3 with hk3 | ⟨hk4, hk3⟩
      all_goals
        go_wp2_with (first
          | (go_at_call 15; ((with_reducible refine HLG.out.mono ?_); rintro e w6 ⟨A2, cap2, rfl, hrd, hT5⟩; have HG := Lib.hid (three_gets (L := LG) hT5 rfl hgl); have HRD := Lib.hid hrd; clear hrd HLG))
          | (at_builtin; refine wpList_append_any _ rfl (.tmp 82) (.tmp 84) 38 rfl w.heap.size 44 i0 _ 4 32 Try.underlying38 HI.out HZ0.out HZ1.out HZ2.out rfl (by decide) (.slice Ag GL.length cg) GL.length (logCells GL) rfl HG.out.1 w6.heap.size A2 _ cap2 (logCells LG) rfl HRD.out (log_one _) (by have := HG.out.2.2.1; unfold maxLen; omega) (by have := HG.out.2.2.1; omega) HG.out.2.1 ?_; intro v7 w7 hown hgrow hat; have hT6 := HG.out.2.2.2 v7 w7 hown hgrow hat; clear hown hgrow hat HG hT5 HRD; rw [HL.out] at hT6; obtain ⟨A7, c7, rfl⟩ := own_form' hT6.got HW.out; have hS := logs_same hT6 HW.out hwl; have HS := Lib.hid hS; clear hS)
          | (go_at_call 17; ((with_reducible refine HS.out.mono ?_); rintro e w8 ⟨rfl, hq⟩; have hT7 := hT6.after hq; clear hT6 hq HS))
          | (go_at_call 15; ((with_reducible refine (three_log hT7 (by simp)).mono ?_); rintro e w9 ⟨A3, cap3, rfl, _, hT8⟩; have hB := hT8.below; clear hT7 hT8))
          | (go_at_call 11; refine (fixed_any _).mono ?_; rintro e w10 ⟨rfl, hq⟩; replace hB := bl hB hq; clear hq))
        go_ret
        exact ⟨rfl, hB⟩
theorem Try.cells3 : Try.prog.cellsOf 3 = 1 := by kernel_rfl
theorem ints_at {H : Type} {enc : TypeId × Value → H} {w : World} {spare : Nat → Bool} {held : Bool} {A : Option Addr} {n c : Nat} {d : DataW H} {p : List MemPlace} (h : DataW.Trod enc Try.prog w 0 spare held 50 (.slice A n c) d p) : IntsAt A n w ∧ n ≤ maxLen := by
  obtain ⟨fuel, hf⟩ := h
  rcases open_ints Try.underlying50 Try.underlying3 Try.cells3 hf with ⟨hcs, _⟩ | ⟨a, len', cap', zs, hcs, _, hl, hm, hz, _, hcell, _⟩
  · simp [Value.cells] at hcs
    obtain ⟨rfl, rfl, rfl⟩ := hcs
    exact ⟨fun h => absurd h (by omega), by unfold maxLen; omega⟩
  · simp [Value.cells] at hcs
    obtain ⟨rfl, rfl, rfl⟩ := hcs
    refine ⟨fun hn => ?_, Nat.le_trans hl hm⟩
    have hzl : n ≤ zs.length := by rw [hz]; split <;> omega
    have c0 := hcell 0 (by omega)
    obtain ⟨b, off, sp⟩ := a
    have hsp : sp = none := by simpa [Addr.add] using World.cell?_spot c0
    subst hsp
    refine ⟨b, off, rfl, World.block_lt_of_cell? w _ c0, fun i hi => ⟨zs.getD i 0, ?_⟩⟩
    have := hcell i (by omega)
    rwa [Addr.add_lit] at this

set_option maxRecDepth 100000 in
theorem memLogs_lifted (os : Os) (started : os.Started) (H : Type) (enc : TypeId × Value → H) :
    ReturnsInHanded {} Try.checked os 6 .any (Rows.memLogsSpec.pre6 enc Try.prog Try.f6 Rows.memLogsRow.domain false) (Rows.memLogsSpec.post enc Try.prog Try.f6 false true false false) := by
  have e : Try.f6.params.toList = [50, 50] := by rw [Try.params6]
  refine law_of_walk (C := Try.checked) (tb := 4) H enc Try.own started (by kernel_rfl) Try.func6 Try.laidOut rfl rfl Try.underlying4 ?_ ?_
    (ChangeSpec.witness6 (enc := enc) (C := Try.checked) false ⟨#[], #[.slice none 0 0, .slice none 0 0], []⟩ 8 (by kernel_rfl) (by kernel_rfl) (by kernel_rfl) (by kernel_rfl)) ?_
  · rw [e]
    intro t ht
    simp only [List.mem_cons, List.not_mem_nil, or_false] at ht
    rcases ht with rfl | rfl <;> exact ⟨by kernel_rfl, of_decide_eq_true (by kernel_rfl)⟩
  · intro ds hds
    rw [e] at hds
    match ds, hds with
    | [d0, d1], _ => rfl
  · intro W base args ds p hval0 hA0 hsz0
    have hval : ∀ (j : Nat) t v, Try.f6.params[j]? = some t → args[j]? = some v → Value.okWide Try.prog W .any base t v := hval0
    have hA : DataW.TrodAll enc Try.prog W 0 (fun _ => true) true Try.f6.params.toList args.toList ds p := hA0
    have hsz : (DataW.weightsEach Try.prog Try.f6.params.toList ds).all (· ≤ reachBytes) = true := hsz0
    rw [Try.params6] at hA hval hsz
    obtain ⟨v0, v1, d0, d1, p0, p1, rfl, rfl, rfl, h0, h1⟩ := trodAll_two hA
    obtain ⟨a0, len0, cap0, rfl⟩ := okWide_slice Try.underlying50 (hval 0 50 v0 rfl rfl)
    obtain ⟨a1, len1, cap1, rfl⟩ := okWide_slice Try.underlying50 (hval 1 50 v1 rfl rfl)
    obtain ⟨i0, m0⟩ := ints_at h0
    obtain ⟨i1, m1⟩ := ints_at h1
    clear hsz hsz0
    exact logs_any a0 a1 len0 cap0 len1 cap1 W i0 i1 m0 m1

theorem memLogs_holds : Rows.MemLogsSaid :=
  OpenClaim.holds_of_wide 6 Try.f6 rfl rfl rfl rfl rfl rfl rfl ⟨rfl, rfl, rfl, rfl, rfl⟩ rfl rfl rfl rfl rfl (by kernel_rfl) Try.func6 (by kernel_rfl)
    (of_decide_eq_true (by kernel_rfl)) (by unfold Func.isWrapper; first | (rw [if_pos (by decide +kernel)]; kernel_rfl) | (rw [if_neg (by decide +kernel)]; exact ⟨rfl, rfl⟩))
    (fun os started H enc _ => memLogs_lifted os started H enc)
end Go.Proofs.Ytjcnjigmeopllaa
