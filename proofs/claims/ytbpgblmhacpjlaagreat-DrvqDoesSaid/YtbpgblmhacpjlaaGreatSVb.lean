/-
  drvq: smallest; parts in a slice; isChain; no condition.
-/
import Derived.Test.YtbpgblmhacpjlaaGreatSVa
namespace Go.Proofs.YtbpgblmhacpjlaaGreat
open Go.RowKit

theorem smallest_v {w : World} {gq bm low : Nat} {hs : List Nat} (h9 : w.cell? ⟨gq, 9, none⟩ = some (.map (some bm))) (h11 : w.cell? ⟨gq, 11, none⟩ = some (.int .i64 (low : Int))) (hm : MapAt bm hs w) (hl : LowOk low hs) (hn : leastId hs < hs.length) (hb : hs.length ≤ 32768) :
    Calls Tryz.prog 28 #[.pointer (some ⟨gq, 0, none⟩)] w fun e w' => e = .returned (.int .i64 (leastId hs : Int)) ∧ w = w' := by
  have HM := Lib.hid hm
  have HL := Lib.hid (low_le hl hn)
  have HN := Lib.hid hn
  have HB := Lib.hid hb
  clear hm hl hn hb
  go_enter Tryz.func28, Tryz.ntmps28
  go_wp2_with fail
  go_loop [3] (fun s => ∃ i : Nat, i ≤ leastId hs ∧ s = .int .i64 i) (fun s => leastId hs - (RowKit.intOf s).toNat)
  case atStart => exact ⟨low, HL.out, rfl⟩
  case round =>
    obtain ⟨i, hi, rfl⟩ := hrel
    have hi2 : i ≤ 32768 := by have := HN.out; have := HB.out; omega
    have hrun := HM.out.look i (by omega)
    by_cases hlt : i < leastId hs
    · have hp := least_pos hlt
      generalize hs.getD i 0 = X at hrun hp
      have hp2 : (0 : Int) < (X : Int) := by omega
      have HI := Lib.hid hlt
      clear hlt hi
      go_wp2_with fail
      go_round
      case rel => exact ⟨i + 1, by have := HI.out; omega, by go_num⟩
      case measure => have := HI.out; simp [RowKit.intOf]; omega
    · obtain rfl : i = leastId hs := by omega
      rw [least_zero HN.out] at hrun
      clear hlt hi
      go_wp2_with fail
      go_ret
      exact ⟨rfl, rfl⟩

/-! parts in a slice -/
structure IPt where
  at_ : Int
  n : Int
  wr : Bool
def PsAt (A : Option Addr) (l : List IPt) (w : World) : Prop :=
  ∀ j (h : j < l.length), ∃ b off, A = some ⟨b, off, none⟩ ∧ b < w.heap.size ∧ w.cell? ⟨b, off + j * 3, none⟩ = some (.int .i64 l[j].at_) ∧ w.cell? ⟨b, off + j * 3 + 1, none⟩ = some (.int .i64 l[j].n) ∧ w.cell? ⟨b, off + j * 3 + 2, none⟩ = some (.bool l[j].wr)
theorem PsAt.below {A : Option Addr} {l : List IPt} {w w' : World} (h : PsAt A l w) (hb : Below w.heap.size w w') : PsAt A l w' := by
  intro j hj
  obtain ⟨b, off, e, hlt, c0, c1, c2⟩ := h j hj
  have hc := (bcell hb).1
  exact ⟨b, off, e, by have := hb.size; omega, (hc _ _ hlt).trans c0, (hc _ _ hlt).trans c1, (hc _ _ hlt).trans c2⟩
/-- .. while a call turns other blocks -/
theorem PsAt.step {A : Option Addr} {l : List IPt} {F : Nat → Prop} {w w' : World} (h : PsAt A l w) (hs : Step F w w') (hF : ∀ ad, A = some ad → ¬ F ad.block) : PsAt A l w' := by
  intro j hj
  obtain ⟨b, off, e, hlt, c0, c1, c2⟩ := h j hj
  have hh := hs.block b hlt (hF _ e)
  have hc : ∀ o, w'.cell? ⟨b, o, none⟩ = w.cell? ⟨b, o, none⟩ := fun o => World.cell?_of_block (w := w) hh
  exact ⟨b, off, e, by have := hs.size; omega, (hc _).trans c0, (hc _).trans c1, (hc _).trans c2⟩
/-- may a chain have these parts? -/
def chainGo (xs : List UInt8) : List IPt → Bool → Bool
  | [], _ => true
  | p :: r, v => decide (0 < p.n) && (mayB xs p.at_ p.n && ((!v || p.wr) && chainGo xs r p.wr))
def chainB (xs : List UInt8) (l : List IPt) : Bool := decide (1 ≤ l.length ∧ l.length ≤ 64) && chainGo xs l false
/-- the writable flag ahead of part j -/
def wrAt (l : List IPt) (j : Nat) : Bool := match j with | 0 => false | k + 1 => match l[k]? with | some p => p.wr | none => false
theorem wrAt_succ {l : List IPt} {j : Nat} (h : j < l.length) : wrAt l (j + 1) = l[j].wr := by simp [wrAt, h]
set_option maxHeartbeats 1600000 in
theorem isChain_bad {w : World} {gq : Nat} {A : Option Addr} {l : List IPt} {cap : Nat} (hl : l.length ≤ 1099511627776) (k : ¬ (1 ≤ l.length ∧ l.length ≤ 64)) :
    Calls Tryz.prog 27 #[.pointer (some ⟨gq, 0, none⟩), .slice A l.length cap] w fun e w' => e = .returned (.bool false) ∧ w = w' := by
  generalize l.length = n at *
  by_cases h0 : n = 0
  · subst h0
    clear k hl
    go_enter Tryz.func27, Tryz.ntmps27
    go_wp2_with fail
    go_ret
    exact ⟨rfl, rfl⟩
  · have e1 : ((n : Int) == 0) = false := by simp [h0]
    have e2 : (64 : Int) < n := by omega
    clear k h0 hl
    go_enter Tryz.func27, Tryz.ntmps27
    go_wp2_with fail
    go_ret
    exact ⟨rfl, rfl⟩
/-- isChain's round: what it reads -/
def IC (w : World) (K gq g : Nat) (a n v : Value) (W : World) : Prop :=
  (W.cell? ⟨K, 0, none⟩ = some a ∧ W.cell? ⟨K, 1, none⟩ = some n ∧ W.cell? ⟨K, 2, none⟩ = some v ∧ W.cell? ⟨gq, 0, none⟩ = some (.pointer (some ⟨g, 0, none⟩))) ∧ Below w.heap.size w W
set_option maxRecDepth 100000 in
set_option maxHeartbeats 3200000 in
theorem isChain_in {F : Nat → Prop} {w : World} {gq g : Nat} {xs : List UInt8} {A : Option Addr} {l : List IPt} {cap : Nat} (hq : gq < w.heap.size ∧ w.cell? ⟨gq, 0, none⟩ = some (.pointer (some ⟨g, 0, none⟩))) (hM : (memA g xs).P F w) (hP : PsAt A l w) (k : 1 ≤ l.length ∧ l.length ≤ 64)
    (hN : ∀ j (h : j < l.length), l[j].n < 9223372036854775808) (V : Bool) (hV : chainGo xs l false = V) :
    Calls Tryz.prog 27 #[.pointer (some ⟨gq, 0, none⟩), .slice A l.length cap] w fun e w' => e = .returned (.bool V) ∧ Below w.heap.size w w' := by
  have HQ := Lib.hid hq
  have HM := Lib.hid hM
  have HP := Lib.hid hP
  have HN := Lib.hid hN
  have HV := Lib.hid hV
  obtain ⟨m, hm⟩ : ∃ m, l.length = m := ⟨_, rfl⟩
  rw [hm] at k ⊢
  have Hm := Lib.hid hm
  have e1 : ((m : Int) == 0) = false := by have := k.1; simp; omega
  have e2 : ¬ (64 : Int) < m := by omega
  clear hq hM hP hN hV hm
  go_enter Tryz.func27, Tryz.ntmps27
  go_wp2_with fail
  go_loopw [5, 18] (fun v i wr => ∃ j : Nat, j ≤ m ∧ i = .int .i64 j ∧ v = .bool (wrAt l j) ∧ chainGo xs (l.drop j) (wrAt l j) = V ∧ Below w.heap.size w wr) (fun _ i _ => m - (RowKit.intOf i).toNat)
  case atStart => exact ⟨0, Nat.zero_le _, rfl, rfl, HV.out, Below.refl _ _⟩
  case round =>
    obtain ⟨j, hj, rfl, rfl, hg, hb⟩ := hrel
    have HBl := Lib.hid hb
    by_cases hlt : j < m
    · have hjl : j < l.length := by rw [Hm.out]; exact hlt
      obtain ⟨b, off, rfl, hbl, c0, c1, c2⟩ := HP.out.below hb j hjl
      have hw := wrAt_succ hjl
      have hn := HN.out j hjl
      rw [List.drop_eq_getElem_cons hjl] at hg
      rw [← hw] at c2
      unfold chainGo at hg
      rw [← hw] at hg
      have Hw := Lib.hid hw
      have p0 := ((bcell hb).1 gq 0 HQ.out.1).trans HQ.out.2
      have hq1 : gq < wr.heap.size := by have := HQ.out.1; have := hb.size; omega
      have hmw := (memA g xs).keep HM.out (fun k hk => hb.block k ((memA g xs).lt HM.out k hk))
      have HA := Lib.hid hmw
      have hj2 : j ≤ 64 := by omega
      obtain ⟨nv, hnv⟩ : ∃ v, wrAt l (j + 1) = v := ⟨_, rfl⟩
      have Hnv := Lib.hid hnv
      rw [hnv] at hg c2
      generalize wrAt l j = pv at *
      generalize l[j].at_ = pa at *
      generalize l[j].n = pn at *
      have HG := Lib.hid hg
      have Hlt := Lib.hid hlt
      clear hg hw hmw hb hlt hj hnv
      have HMay : ∀ n, Calls Tryz.prog 40 #[.pointer (some ⟨g, 0, none⟩), .int .i64 pa, .int .i64 pn] ((wr.alloc (.cells #[.int .i64 pa, .int .i64 pn, .bool nv] 56)).drewN n) fun e w' => e = .returned (.bool (mayB xs pa pn)) ∧ w' = (wr.alloc (.cells #[.int .i64 pa, .int .i64 pn, .bool nv] 56)).drewN n := fun n =>
        (memA_may ((memA g xs).keep HA.out (fun k hk => Below.heap_alloc wr _ k ((memA g xs).lt HA.out k hk)) : (memA g xs).P F ((wr.alloc (.cells #[.int .i64 pa, .int .i64 pn, .bool nv] 56)).drewN n)) pa pn hn).mono fun _ _ h => ⟨h.1, h.2.symm⟩
      have HB2 := Lib.hid (b0 HBl.out (ba (Below.refl wr.heap.size wr) (.cells #[.int .i64 pa, .int .i64 pn, .bool nv] 56)))
      have hne := Nat.ne_of_lt hq1
      have hjm : (j : Int) < (m : Int) := by have := Hlt.out; omega
      by_cases k1 : 0 < pn
      · have k1' : ¬ pn ≤ 0 := by omega
        cases k2 : mayB xs pa pn
        · rw [k2] at HMay
          have hg := HG.out
          rw [k2] at hg
          obtain rfl : false = V := by simpa using hg
          clear k2 HG hg
          have HMay := Lib.hid HMay
          go_wp2_with fail
          go_quiet ((go_at_call 40; exact Calls.quiet_of_same (HMay.out _)))
          go_wp2_with fail
          go_ret
          exact ⟨rfl, below_drewN HB2.out _⟩
        · rw [k2] at HMay
          have hg := HG.out
          rw [k2] at hg
          cases pv
          · have HV2 : Hid (chainGo xs (l.drop (j + 1)) nv = V) := Lib.hid (by simpa [k1] using hg)
            clear k2 HG hg
            have HMay := Lib.hid HMay
            go_wp2_with fail
            go_quiet ((go_at_call 40; exact Calls.quiet_of_same (HMay.out _)))
            go_wp2_with fail
            go_roundw
            case rel => exact ⟨j + 1, by have := Hlt.out; omega, by go_num, by rw [Hnv.out], by rw [Hnv.out]; exact HV2.out, below_drewN HB2.out _⟩
            case measure => have := Hlt.out; simp [RowKit.intOf]; omega
          · cases nv
            · obtain rfl : false = V := by simpa using hg
              clear k2 HG hg
              have HMay := Lib.hid HMay
              go_wp2_with fail
              go_quiet ((go_at_call 40; exact Calls.quiet_of_same (HMay.out _)))
              go_wp2_with fail
              go_ret
              exact ⟨rfl, below_drewN HB2.out _⟩
            · have HV2 : Hid (chainGo xs (l.drop (j + 1)) true = V) := Lib.hid (by simpa [k1] using hg)
              clear k2 HG hg
              have HMay := Lib.hid HMay
              go_wp2_with fail
              go_quiet ((go_at_call 40; exact Calls.quiet_of_same (HMay.out _)))
              go_wp2_with fail
              go_roundw
              case rel => exact ⟨j + 1, by have := Hlt.out; omega, by go_num, by rw [Hnv.out], by rw [Hnv.out]; exact HV2.out, below_drewN HB2.out _⟩
              case measure => have := Hlt.out; simp [RowKit.intOf]; omega
      · have k1' : pn ≤ 0 := by omega
        have hg := HG.out
        obtain rfl : false = V := by simpa [k1] using hg
        clear HG k1 hg
        have HMay := Lib.hid HMay
        go_wp2_with fail
        go_quiet ((go_at_call 40; exact Calls.quiet_of_same (HMay.out _)))
        go_wp2_with fail
        go_ret
        exact ⟨rfl, below_drewN HB2.out _⟩
    · obtain rfl : j = m := by omega
      have e : chainGo xs (l.drop j) (wrAt l j) = true := by rw [← Hm.out, List.drop_length]; rfl
      rw [e] at hg
      subst hg
      clear hlt hj e
      have hlt : ¬ (j : Int) < (j : Int) := by omega
      go_wp2_with fail
      go_ret
      exact ⟨rfl, HBl.out⟩
end Go.Proofs.YtbpgblmhacpjlaaGreat
