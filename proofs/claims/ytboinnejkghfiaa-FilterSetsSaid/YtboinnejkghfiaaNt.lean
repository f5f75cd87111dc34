/-
  What the document's Nets answers, for every list of numbers; no condition.
-/
import Derived.Test.YtboinnejkghfiaaCk
namespace Go.Proofs.Ytboinnejkghfiaa
open Go.RowKit

theorem lastP_at (L : List Int) (k : Nat) (h : 0 < k) (hk : k ≤ L.length) : lastP L k = L[k - 1]'(by omega) + 1 := by
  rw [lastP, dif_pos ⟨h, hk⟩]
set_option maxHeartbeats 1600000 in
theorem nets_any (B : Nat) (A : Option Addr) (c : Nat) (L : List Int) (w : World) (h : Rd B A (L.map intV) w) (hl : L.length ≤ 100) : Calls Try.prog 26 #[.slice A L.length c] w fun e w' => e = .returned (.bool (ascB L)) ∧ ∃ n, w' = w.drewN n := by
  have HT := Lib.hid h
  clear h
  have HN := Lib.hid (asc_next L)
  have HB := Lib.hid (asc_bad L)
  have HE := Lib.hid (asc_end L)
  have H0 : ascG (lastP L 0) (L.drop 0) = ascB L := by rw [lastP_zero]; rfl
  have HS := Lib.hid H0
  clear H0
  generalize ascB L = T at *
  go_enter Try.func26, Try.ntmps26
  go_wp2
  go_loopw [3] (fun i wr => ∃ k m : Nat, k ≤ L.length ∧ i = .int .i64 k ∧ wr = w.drewN m ∧ ascG (lastP L k) (L.drop k) = T) (fun i _ => L.length - (intOf i).toNat)
  case atStart => exact ⟨0, 0, Nat.zero_le _, rfl, rfl, HS.out⟩
  case round =>
    obtain ⟨k, m, hk, rfl, rfl, hall⟩ := hrel
    have HL := Lib.hid hall
    clear hall
    by_cases hlt : k < L.length
    · obtain ⟨b, off, x, hA, hx, hc⟩ := HT.out.int k hlt
      have hgo : isV x = true → lastP L k ≤ x → ascG (lastP L (k + 1)) (L.drop (k + 1)) = T := fun q1 q2 => by
        rw [lastP_next L k hlt]
        exact HN.out _ k hlt HL.out (by rw [hx]; exact q1) (by rw [hx]; exact q2)
      have hno : isV x = false ∨ x < lastP L k → T = false := fun q => HB.out _ k hlt HL.out (by rw [hx]; exact q)
      have HX := Lib.hid hx
      have HG := Lib.hid hgo
      have HO := Lib.hid hno
      clear hx hgo hno
      by_cases x0 : x < 0
      · have hf := HO.out (.inl (by simp [isV]; omega))
        have HF := Lib.hid hf
        clear hf
        subst hA
        go_wp2
        go_quiet (fail)
        go_wp2
        go_ret
        exact ⟨by rw [HF.out]; rfl, _, by first | rfl | exact World.drewN_drewN _ _ _⟩
      have d0 : decide (x < 0) = false := decide_eq_false x0
      by_cases x1 : 4094 < x
      · have d1 : decide (4094 < x) = true := decide_eq_true x1
        have hf := HO.out (.inl (by simp [isV]; omega))
        have HF := Lib.hid hf
        clear hf
        subst hA
        go_wp2
        go_quiet (fail)
        go_wp2
        go_ret
        exact ⟨by rw [HF.out]; rfl, _, by first | rfl | exact World.drewN_drewN _ _ _⟩
      have d1 : decide (4094 < x) = false := decide_eq_false x1
      have hv : isV x = true := by simp [isV]; omega
      by_cases k0 : k = 0
      · subst k0
        have hg := HG.out hv (by rw [lastP_zero]; omega)
        have HR := Lib.hid hg
        clear hg hv
        subst hA
        have hc0 : w.cell? ⟨b, off, none⟩ = some (.int .i64 x) := hc
        have hi0 : (0 : Int) < L.length := by omega
        clear hc
        go_wp2
        go_quiet (fail)
        go_wp2
        go_roundw
        case rel => exact ⟨1, _, by omega, rfl, by first | rfl | exact World.drewN_drewN _ _ _, HR.out⟩
        case measure => simp [intOf]; omega
      · obtain ⟨j, hj⟩ : ∃ j, j = k - 1 := ⟨_, rfl⟩
        have hjl : j < L.length := by omega
        obtain ⟨b', off', y, hA', hy, hc'⟩ := HT.out.int j hjl
        rw [hA'] at hA
        injection hA with hA
        injection hA with hb ho _
        subst hb ho hA'
        have hlast : lastP L k = y + 1 := by
          rw [lastP_at L k (by omega) hk, ← hy]
          subst hj; rfl
        rw [hlast] at HG HO
        have HJ := Lib.hid hj
        have hkj : k = j + 1 := by omega
        subst hkj
        clear hj hlast hy k0
        have j1 : ((j + 1 : Nat) : Int) - 1 = j := by omega
        have j2 : decide ((0 : Int) < (j : Int) + 1) = true := decide_eq_true (by omega)
        have j3 : (0 : Int) < (j : Int) + 1 := by omega
        have j4 : (j : Int) + 1 - 1 = j := by omega
        have j5 : 0 < j + 1 := by omega
        have j6 : decide (0 < j + 1) = true := decide_eq_true (by omega)
        by_cases hxy : x ≤ y
        · have d2 : decide (x ≤ y) = true := decide_eq_true hxy
          have hf := HO.out (.inr (by omega))
          have HF := Lib.hid hf
          clear hf
          go_wp2
          go_quiet (fail)
          go_wp2
          go_ret
          exact ⟨by rw [HF.out]; rfl, _, by first | rfl | exact World.drewN_drewN _ _ _⟩
        · have d2 : decide (x ≤ y) = false := decide_eq_false hxy
          have hg := HG.out hv (by omega)
          have HR := Lib.hid hg
          clear hg hv
          go_wp2
          go_quiet (fail)
          go_wp2
          go_roundw
          case rel => exact ⟨j + 1 + 1, _, by omega, by go_num, by first | rfl | exact World.drewN_drewN _ _ _, HR.out⟩
          case measure => simp [intOf]; omega
    · have hf := HE.out _ k (by omega) HL.out
      have HF := Lib.hid hf
      clear hf
      go_wp2
      go_ret
      exact ⟨by rw [HF.out]; rfl, _, by first | rfl | exact World.drewN_drewN _ _ _⟩
theorem rcheck_0 (mac : ByteArray) (pr au am nu nm na vo : Bool) (U M V : Option Addr) (us ms : List ByteArray) (vs : List Int) (uc mc vc : Nat) (w : World) (h0 : (kindV mac != 1) = true) :
    Calls Try.prog 12 #[.agg #[.string mac, .bool pr, .bool au, .bool am, .bool nu, .bool nm, .bool na, .slice U us.length uc, .slice M ms.length mc, .bool vo, .slice V vs.length vc]] w fun e w' => e = .returned (.int .i64 160) ∧ Below w.heap.size w w' := by
  have H0 := Lib.hid rkind_any
  go_enter Try.func12, Try.ntmps12
  go_wp2_with (first | (go_at_call 24; ((with_reducible refine (H0.out _ _).mono ?_); rintro e w' ⟨rfl, rfl⟩)))
  go_ret
  exact ⟨rfl, (Below.refl _ _).alloc (Nat.le_refl _) _⟩
theorem rcheck_1 (mac : ByteArray) (pr au am nu nm na vo : Bool) (U M V : Option Addr) (us ms : List ByteArray) (vs : List Int) (uc mc vc : Nat) (w : World) (h0 : (kindV mac != 1) = false) (A1 : ∀ W, Below w.heap.size w W → Calls Try.prog 25 #[.slice U us.length uc, .int .i64 1] W fun e w' => e = .returned (.bool false) ∧ W = w') :
    Calls Try.prog 12 #[.agg #[.string mac, .bool pr, .bool au, .bool am, .bool nu, .bool nm, .bool na, .slice U us.length uc, .slice M ms.length mc, .bool vo, .slice V vs.length vc]] w fun e w' => e = .returned (.int .i64 160) ∧ Below w.heap.size w w' := by
  have H0 := Lib.hid rkind_any
  have H1 := Lib.hid A1
  clear A1
  go_enter Try.func12, Try.ntmps12
  go_wp2_with (first | (go_at_call 24; ((with_reducible refine (H0.out _ _).mono ?_); rintro e w' ⟨rfl, rfl⟩)) | (go_at_call 25; ((with_reducible refine (H1.out _ ((Below.refl _ _).alloc (Nat.le_refl _) _)).mono ?_); rintro e w' ⟨rfl, rfl⟩)))
  go_ret
  exact ⟨rfl, (Below.refl _ _).alloc (Nat.le_refl _) _⟩
theorem rcheck_2 (mac : ByteArray) (pr au am nu nm na vo : Bool) (U M V : Option Addr) (us ms : List ByteArray) (vs : List Int) (uc mc vc : Nat) (w : World) (h0 : (kindV mac != 1) = false) (A1 : ∀ W, Below w.heap.size w W → Calls Try.prog 25 #[.slice U us.length uc, .int .i64 1] W fun e w' => e = .returned (.bool true) ∧ W = w') (A2 : ∀ W, Below w.heap.size w W → Calls Try.prog 25 #[.slice M ms.length mc, .int .i64 2] W fun e w' => e = .returned (.bool false) ∧ W = w') :
    Calls Try.prog 12 #[.agg #[.string mac, .bool pr, .bool au, .bool am, .bool nu, .bool nm, .bool na, .slice U us.length uc, .slice M ms.length mc, .bool vo, .slice V vs.length vc]] w fun e w' => e = .returned (.int .i64 160) ∧ Below w.heap.size w w' := by
  have H0 := Lib.hid rkind_any
  have H1 := Lib.hid A1
  clear A1
  have H2 := Lib.hid A2
  clear A2
  go_enter Try.func12, Try.ntmps12
  go_wp2_with (first | (go_at_call 24; ((with_reducible refine (H0.out _ _).mono ?_); rintro e w' ⟨rfl, rfl⟩)) | (go_at_call 25; ((with_reducible refine (H1.out _ ((Below.refl _ _).alloc (Nat.le_refl _) _)).mono ?_); rintro e w' ⟨rfl, rfl⟩)) | (go_at_call 25; ((with_reducible refine (H2.out _ ((Below.refl _ _).alloc (Nat.le_refl _) _)).mono ?_); rintro e w' ⟨rfl, rfl⟩)))
  go_ret
  exact ⟨rfl, (Below.refl _ _).alloc (Nat.le_refl _) _⟩
theorem rcheck_3 (mac : ByteArray) (pr au am nu nm na vo : Bool) (U M V : Option Addr) (us ms : List ByteArray) (vs : List Int) (uc mc vc : Nat) (w : World) (h0 : (kindV mac != 1) = false) (A1 : ∀ W, Below w.heap.size w W → Calls Try.prog 25 #[.slice U us.length uc, .int .i64 1] W fun e w' => e = .returned (.bool true) ∧ W = w') (A2 : ∀ W, Below w.heap.size w W → Calls Try.prog 25 #[.slice M ms.length mc, .int .i64 2] W fun e w' => e = .returned (.bool true) ∧ W = w') (A3 : ∀ W, Below w.heap.size w W → Calls Try.prog 26 #[.slice V vs.length vc] W fun e w' => e = .returned (.bool false) ∧ ∃ n, w' = W.drewN n) :
    Calls Try.prog 12 #[.agg #[.string mac, .bool pr, .bool au, .bool am, .bool nu, .bool nm, .bool na, .slice U us.length uc, .slice M ms.length mc, .bool vo, .slice V vs.length vc]] w fun e w' => e = .returned (.int .i64 160) ∧ Below w.heap.size w w' := by
  have H0 := Lib.hid rkind_any
  have H1 := Lib.hid A1
  clear A1
  have H2 := Lib.hid A2
  clear A2
  have H3 := Lib.hid A3
  clear A3
  go_enter Try.func12, Try.ntmps12
  go_wp2_with (first | (go_at_call 24; ((with_reducible refine (H0.out _ _).mono ?_); rintro e w' ⟨rfl, rfl⟩)) | (go_at_call 25; ((with_reducible refine (H1.out _ ((Below.refl _ _).alloc (Nat.le_refl _) _)).mono ?_); rintro e w' ⟨rfl, rfl⟩)) | (go_at_call 25; ((with_reducible refine (H2.out _ ((Below.refl _ _).alloc (Nat.le_refl _) _)).mono ?_); rintro e w' ⟨rfl, rfl⟩)) | (go_at_call 26; ((with_reducible refine (H3.out _ ((Below.refl _ _).alloc (Nat.le_refl _) _)).mono ?_); rintro e w' ⟨rfl, nq, rfl⟩)))
  go_ret
  exact ⟨rfl, below_drewN ((Below.refl _ _).alloc (Nat.le_refl _) _) _⟩
theorem rcheck_4 (mac : ByteArray) (pr au am nu nm na vo : Bool) (U M V : Option Addr) (us ms : List ByteArray) (vs : List Int) (uc mc vc : Nat) (w : World) (h0 : (kindV mac != 1) = false) (A1 : ∀ W, Below w.heap.size w W → Calls Try.prog 25 #[.slice U us.length uc, .int .i64 1] W fun e w' => e = .returned (.bool true) ∧ W = w') (A2 : ∀ W, Below w.heap.size w W → Calls Try.prog 25 #[.slice M ms.length mc, .int .i64 2] W fun e w' => e = .returned (.bool true) ∧ W = w') (A3 : ∀ W, Below w.heap.size w W → Calls Try.prog 26 #[.slice V vs.length vc] W fun e w' => e = .returned (.bool true) ∧ ∃ n, w' = W.drewN n) :
    Calls Try.prog 12 #[.agg #[.string mac, .bool pr, .bool au, .bool am, .bool nu, .bool nm, .bool na, .slice U us.length uc, .slice M ms.length mc, .bool vo, .slice V vs.length vc]] w fun e w' => e = .returned (.int .i64 0) ∧ Below w.heap.size w w' := by
  have H0 := Lib.hid rkind_any
  have H1 := Lib.hid A1
  clear A1
  have H2 := Lib.hid A2
  clear A2
  have H3 := Lib.hid A3
  clear A3
  go_enter Try.func12, Try.ntmps12
  go_wp2_with (first | (go_at_call 24; ((with_reducible refine (H0.out _ _).mono ?_); rintro e w' ⟨rfl, rfl⟩)) | (go_at_call 25; ((with_reducible refine (H1.out _ ((Below.refl _ _).alloc (Nat.le_refl _) _)).mono ?_); rintro e w' ⟨rfl, rfl⟩)) | (go_at_call 25; ((with_reducible refine (H2.out _ ((Below.refl _ _).alloc (Nat.le_refl _) _)).mono ?_); rintro e w' ⟨rfl, rfl⟩)) | (go_at_call 26; ((with_reducible refine (H3.out _ ((Below.refl _ _).alloc (Nat.le_refl _) _)).mono ?_); rintro e w' ⟨rfl, nq, rfl⟩)))
  go_ret
  exact ⟨rfl, below_drewN ((Below.refl _ _).alloc (Nat.le_refl _) _) _⟩
theorem rcheck_any (F : Fl) (B : Nat) (w : World) (hF : F.At B w) (hB : B ≤ w.heap.size) (hl : F.Few) :
    Calls Try.prog 12 #[F.val] w fun e w' => e = .returned (.int .i64 (chkV F)) ∧ Below w.heap.size w w' := by
  have A1 := fun W (hb : Below w.heap.size w W) => kinds_any B F.U F.uc F.us 1 W (hF.u.far hB hb) hl.u
  have A2 := fun W (hb : Below w.heap.size w W) => kinds_any B F.M F.mc F.ms 2 W (hF.m.far hB hb) hl.m
  have A3 := fun W (hb : Below w.heap.size w W) => nets_any B F.V F.vc F.vs W (hF.v.far hB hb) hl.v
  have hk : (kindV F.mac != 1) = !(kindV F.mac == 1) := rfl
  unfold chkV filB
  generalize (kindV F.mac == 1) = b0 at *
  generalize macsB F.us 1 = b1 at *
  generalize macsB F.ms 2 = b2 at *
  generalize ascB F.vs = b3 at *
  cases b0
  · exact rcheck_0 F.mac F.pr F.au F.am F.nu F.nm F.na F.vo F.U F.M F.V F.us F.ms F.vs F.uc F.mc F.vc w hk
  cases b1
  · exact rcheck_1 F.mac F.pr F.au F.am F.nu F.nm F.na F.vo F.U F.M F.V F.us F.ms F.vs F.uc F.mc F.vc w hk A1
  cases b2
  · exact rcheck_2 F.mac F.pr F.au F.am F.nu F.nm F.na F.vo F.U F.M F.V F.us F.ms F.vs F.uc F.mc F.vc w hk A1 A2
  cases b3
  · exact rcheck_3 F.mac F.pr F.au F.am F.nu F.nm F.na F.vo F.U F.M F.V F.us F.ms F.vs F.uc F.mc F.vc w hk A1 A2 A3
  · exact rcheck_4 F.mac F.pr F.au F.am F.nu F.nm F.na F.vo F.U F.M F.V F.us F.ms F.vs F.uc F.mc F.vc w hk A1 A2 A3
end Go.Proofs.Ytboinnejkghfiaa
