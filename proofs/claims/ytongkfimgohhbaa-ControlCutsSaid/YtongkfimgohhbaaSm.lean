/-
  What filter's small functions (isVlan, areMacs, areVlans, contains) and the document's (kinds, Nets, Has, Net, texts) answer, for lists of any length; no condition.
-/
import Derived.Test.YtongkfimgohhbaaFl
namespace Go.Proofs.Ytongkfimgohhbaa
open Go.RowKit

theorem isV_any (v : Int) (w : World) : Calls Try.prog 62 #[.int .i64 v] w fun e w' => e = .returned (.bool (isV v)) ∧ w = w' := by
  by_cases h : 0 ≤ v
  · go_enter Try.func62, Try.ntmps62
    go_wp2
    go_ret
    exact ⟨ret_bool (by simp [isV, h]), rfl⟩
  · go_enter Try.func62, Try.ntmps62
    go_wp2
    go_ret
    exact ⟨ret_bool (by simp [isV]; omega), rfl⟩
/-- is it in the list? -/
def hasI (L : List Int) (x : Int) : Bool := L.any fun y => decide (y = x)
def hasS (L : List ByteArray) (x : ByteArray) : Bool := L.any fun y => decide (y = x)
theorem hasI_iff {L : List Int} {x : Int} : hasI L x = true ↔ x ∈ L := by
  rw [hasI, List.any_eq_true]
  constructor
  · rintro ⟨y, hy, e⟩; rw [decide_eq_true_eq] at e; exact e ▸ hy
  · intro h; exact ⟨x, h, by simp⟩
theorem hasS_iff {L : List ByteArray} {x : ByteArray} : hasS L x = true ↔ x ∈ L := by
  rw [hasS, List.any_eq_true]
  constructor
  · rintro ⟨y, hy, e⟩; rw [decide_eq_true_eq] at e; exact e ▸ hy
  · intro h; exact ⟨x, h, by simp⟩
theorem hasI_yes {L : List Int} {x : Int} (k : Nat) (hk : k < L.length) (h : L[k] = x) : hasI L x = true := hasI_iff.2 (h ▸ List.getElem_mem hk)
theorem hasS_yes {L : List ByteArray} {x : ByteArray} (k : Nat) (hk : k < L.length) (h : L[k] = x) : hasS L x = true := hasS_iff.2 (h ▸ List.getElem_mem hk)
theorem hasI_no {L : List Int} {x : Int} (h : ∀ (j : Nat) (hj : j < L.length), L[j] ≠ x) : hasI L x = false := by
  rw [Bool.eq_false_iff]
  intro hm
  obtain ⟨j, hj, e⟩ := List.mem_iff_getElem.1 (hasI_iff.1 hm)
  exact h j hj e
theorem hasS_no {L : List ByteArray} {x : ByteArray} (h : ∀ (j : Nat) (hj : j < L.length), L[j] ≠ x) : hasS L x = false := by
  rw [Bool.eq_false_iff]
  intro hm
  obtain ⟨j, hj, e⟩ := List.mem_iff_getElem.1 (hasS_iff.1 hm)
  exact h j hj e
set_option maxHeartbeats 1000000 in
theorem net_any (B : Nat) (A : Option Addr) (c : Nat) (L : List Int) (x : Int) (w : World) (h : Rd B A (L.map intV) w) (hl : L.length ≤ 400) : Calls Try.prog 25 #[.slice A L.length c, .int .i64 x] w fun e w' => e = .returned (.bool (hasI L x)) ∧ w = w' := by
  have HT := Lib.hid h
  have HY := Lib.hid (fun (k : Nat) (hk : k < L.length) (hq : L[k] = x) => hasI_yes k hk hq)
  have HN := Lib.hid (hasI_no (L := L) (x := x))
  clear h
  generalize hasI L x = T at *
  go_enter Try.func25, Try.ntmps25
  go_wp2
  go_loop [5] (fun i => ∃ k : Nat, k ≤ L.length ∧ i = .int .i64 k ∧ ∀ (j : Nat) (hj : j < L.length), j < k → L[j] ≠ x) (fun i => L.length - (intOf i).toNat)
  case atStart => exact ⟨0, Nat.zero_le _, rfl, fun _ _ h => by omega⟩
  case round =>
    obtain ⟨k, hk, rfl, hall⟩ := hrel
    have HL := Lib.hid hall
    clear hall
    by_cases hlt : k < L.length
    · obtain ⟨b, off, y, rfl, hx, hc⟩ := HT.out.int k hlt
      by_cases hq : y = x
      · subst hq
        have hf := HY.out k hlt hx
        clear hx
        go_wp2
        go_ret
        first | exact ⟨rfl, rfl⟩ | exact ⟨ret_bool hf.symm, rfl⟩
      · have hq2 : (y == x) = false := by simpa using hq
        have HX := Lib.hid hx
        have HQ := Lib.hid hq
        clear hq hx
        go_wp2
        go_round
        case rel =>
          refine ⟨k + 1, by omega, by go_num, fun j hj hjk => ?_⟩
          by_cases e : j = k
          · subst e; rw [HX.out]; exact HQ.out
          · exact HL.out j hj (by omega)
        case measure => simp [intOf]; omega
    · have hf := HN.out (fun j hj => HL.out j hj (by omega))
      go_wp2
      go_ret
      first | exact ⟨rfl, rfl⟩ | exact ⟨ret_bool hf.symm, rfl⟩
/-- at most sixteen, all of a kind? -/
def macsB (us : List ByteArray) (k : Int) : Bool := decide (us.length ≤ 16) && us.all (fun u => kindV u == k)
theorem macs_bad {us : List ByteArray} {k : Int} (j : Nat) (hj : j < us.length) (h : (kindV us[j] == k) = false) : macsB us k = false := by
  have : us.all (fun u => kindV u == k) = false := by
    rw [List.all_eq_false]
    exact ⟨us[j], List.getElem_mem hj, by simp [h]⟩
  rw [macsB, this, Bool.and_false]
theorem macs_good {us : List ByteArray} {k : Int} (h : ∀ (j : Nat) (hj : j < us.length), (kindV us[j] == k) = true) : macsB us k = decide (us.length ≤ 16) := by
  have : us.all (fun u => kindV u == k) = true := by
    rw [List.all_eq_true]
    intro x hx
    obtain ⟨j, hj, rfl⟩ := List.mem_iff_getElem.1 hx
    exact h j hj
  rw [macsB, this, Bool.and_true]
set_option maxHeartbeats 1000000 in
theorem macs_any (B : Nat) (A : Option Addr) (c : Nat) (us : List ByteArray) (kd : Int) (w : World) (h : Rd B A (us.map strV) w) (hl : us.length ≤ 400) : Calls Try.prog 43 #[.slice A us.length c, .int .i64 kd] w fun e w' => e = .returned (.bool (macsB us kd)) ∧ w = w' := by
  have HT := Lib.hid h
  clear h
  by_cases h16 : us.length ≤ 16
  · have HB := Lib.hid (fun (j : Nat) (hj : j < us.length) (hq : (kindV us[j] == kd) = false) => macs_bad j hj hq)
    have HG := Lib.hid (fun h => (macs_good (us := us) (k := kd) h).trans (decide_eq_true h16))
    have HQ := Lib.hid akind_any
    generalize macsB us kd = T at *
    go_enter Try.func43, Try.ntmps43
    go_wp2
    go_loop [12] (fun i => ∃ k : Nat, k ≤ us.length ∧ i = .int .i64 k ∧ ∀ (j : Nat) (hj : j < us.length), j < k → (kindV us[j] == kd) = true) (fun i => us.length - (intOf i).toNat)
    case atStart => exact ⟨0, Nat.zero_le _, rfl, fun _ _ h => by omega⟩
    case round =>
      obtain ⟨k, hk, rfl, hall⟩ := hrel
      have HL := Lib.hid hall
      clear hall
      by_cases hlt : k < us.length
      · obtain ⟨b, off, x, rfl, hx, hc⟩ := HT.out.str k hlt
        cases hq : (kindV x == kd) with
        | false =>
          have hf := HB.out k hlt (by rw [hx]; exact hq)
          have hq2 : (kindV x != kd) = true := by rw [bne, hq]; rfl
          go_wp2_with (go_at_call 42; ((with_reducible refine (HQ.out _ _).mono ?_); rintro e w' ⟨rfl, rfl⟩))
          go_ret
          first | exact ⟨rfl, rfl⟩ | exact ⟨ret_bool hf.symm, rfl⟩
        | true =>
          have hq2 : (kindV x != kd) = false := by rw [bne, hq]; rfl
          go_wp2_with (go_at_call 42; ((with_reducible refine (HQ.out _ _).mono ?_); rintro e w' ⟨rfl, rfl⟩))
          go_round
          case rel =>
            refine ⟨k + 1, by omega, by go_num, fun j hj hjk => ?_⟩
            by_cases e : j = k
            · subst e; rw [hx]; exact hq
            · exact HL.out j hj (by omega)
          case measure => simp [intOf]; omega
      · have hf := HG.out (fun j hj => HL.out j hj (by omega))
        go_wp2
        go_ret
        first | exact ⟨rfl, rfl⟩ | exact ⟨ret_bool hf.symm, rfl⟩
  · have e : macsB us kd = false := by simp [macsB, h16]
    rw [e]
    clear e
    go_enter Try.func43, Try.ntmps43
    go_wp2
    go_ret
    exact ⟨rfl, rfl⟩
set_option maxHeartbeats 1000000 in
theorem kinds_any (B : Nat) (A : Option Addr) (c : Nat) (us : List ByteArray) (kd : Int) (w : World) (h : Rd B A (us.map strV) w) (hl : us.length ≤ 400) : Calls Try.prog 50 #[.slice A us.length c, .int .i64 kd] w fun e w' => e = .returned (.bool (macsB us kd)) ∧ w = w' := by
  have HT := Lib.hid h
  clear h
  have HB := Lib.hid (fun (j : Nat) (hj : j < us.length) (hq : (kindV us[j] == kd) = false) => macs_bad j hj hq)
  have HG := Lib.hid (macs_good (us := us) (k := kd))
  have HQ := Lib.hid rkind_any
  generalize macsB us kd = T at *
  go_enter Try.func50, Try.ntmps50
  go_wp2
  go_loop [5] (fun i => ∃ k : Nat, k ≤ us.length ∧ i = .int .i64 k ∧ ∀ (j : Nat) (hj : j < us.length), j < k → (kindV us[j] == kd) = true) (fun i => us.length - (intOf i).toNat)
  case atStart => exact ⟨0, Nat.zero_le _, rfl, fun _ _ h => by omega⟩
  case round =>
    obtain ⟨k, hk, rfl, hall⟩ := hrel
    have HL := Lib.hid hall
    clear hall
    by_cases hlt : k < us.length
    · obtain ⟨b, off, x, rfl, hx, hc⟩ := HT.out.str k hlt
      cases hq : (kindV x == kd) with
      | false =>
        have hf := HB.out k hlt (by rw [hx]; exact hq)
        have hq2 : (kindV x != kd) = true := by rw [bne, hq]; rfl
        go_wp2_with (go_at_call 49; ((with_reducible refine (HQ.out _ _).mono ?_); rintro e w' ⟨rfl, rfl⟩))
        go_ret
        first | exact ⟨rfl, rfl⟩ | exact ⟨ret_bool hf.symm, rfl⟩
      | true =>
        have hq2 : (kindV x != kd) = false := by rw [bne, hq]; rfl
        go_wp2_with (go_at_call 49; ((with_reducible refine (HQ.out _ _).mono ?_); rintro e w' ⟨rfl, rfl⟩))
        go_round
        case rel =>
          refine ⟨k + 1, by omega, by go_num, fun j hj hjk => ?_⟩
          by_cases e : j = k
          · subst e; rw [hx]; exact hq
          · exact HL.out j hj (by omega)
        case measure => simp [intOf]; omega
    · have hf := HG.out (fun j hj => HL.out j hj (by omega))
      go_wp2
      go_ret
      exact ⟨ret_bool (decide_eq_decide.2 (by omega)), rfl⟩
set_option maxHeartbeats 1000000 in
theorem asc_any (B : Nat) (A : Option Addr) (c : Nat) (L : List Int) (w : World) (h : Rd B A (L.map intV) w) (hl : L.length ≤ 400) : Calls Try.prog 44 #[.slice A L.length c] w fun e w' => e = .returned (.bool (ascB L)) ∧ w = w' := by
  have HT := Lib.hid h
  clear h
  have HN := Lib.hid (asc_next L)
  have HB := Lib.hid (asc_bad L)
  have HE := Lib.hid (asc_end L)
  have H0 : ascG 0 (L.drop 0) = ascB L := rfl
  have HS := Lib.hid H0
  have HQ := Lib.hid isV_any
  clear H0
  generalize ascB L = T at *
  go_enter Try.func44, Try.ntmps44
  go_wp2
  go_loop [3, 8] (fun m i => ∃ (k : Nat) (x : Int), k ≤ L.length ∧ i = .int .i64 k ∧ m = .int .i64 x ∧ ascG x (L.drop k) = T) (fun _ i => L.length - (intOf i).toNat)
  case atStart => exact ⟨0, 0, Nat.zero_le _, rfl, rfl, HS.out⟩
  case round =>
    obtain ⟨k, m, hk, rfl, rfl, hall⟩ := hrel
    have HL := Lib.hid hall
    clear hall
    by_cases hlt : k < L.length
    · obtain ⟨b, off, x, rfl, hx, hc⟩ := HT.out.int k hlt
      cases hq : isV x with
      | false =>
        have hf := HB.out m k hlt HL.out (.inl (by rw [hx]; exact hq))
        go_wp2_with (go_at_call 62; ((with_reducible refine (HQ.out _ _).mono ?_); rintro e w' ⟨rfl, rfl⟩))
        go_ret
        first | exact ⟨rfl, rfl⟩ | exact ⟨ret_bool hf.symm, rfl⟩
      | true =>
        have hr : 0 ≤ x ∧ x ≤ 4094 := by simpa [isV] using hq
        by_cases hm : x < m
        · have hf := HB.out m k hlt HL.out (.inr (by rw [hx]; exact hm))
          go_wp2_with (go_at_call 62; ((with_reducible refine (HQ.out _ _).mono ?_); rintro e w' ⟨rfl, rfl⟩))
          go_ret
          first | exact ⟨rfl, rfl⟩ | exact ⟨ret_bool hf.symm, rfl⟩
        · have hn := HN.out m k hlt HL.out (by rw [hx]; exact hq) (by rw [hx]; omega)
          rw [hx] at hn
          have HX := Lib.hid hn
          obtain ⟨hr0, hr1⟩ := hr
          clear hn hx
          go_wp2_with (go_at_call 62; ((with_reducible refine (HQ.out _ _).mono ?_); rintro e w' ⟨rfl, rfl⟩))
          go_round
          case rel => exact ⟨k + 1, x + 1, by omega, by go_num, rfl, HX.out⟩
          case measure => simp [intOf]; omega
    · have hf := HE.out m k (by omega) HL.out
      go_wp2
      go_ret
      first | exact ⟨rfl, rfl⟩ | exact ⟨ret_bool hf.symm, rfl⟩
set_option maxHeartbeats 1000000 in
theorem texts_yes (B B' : Nat) (A A' : Option Addr) (c c' : Nat) (us : List ByteArray) (w : World) (h : Rd B A (us.map strV) w) (h' : Rd B' A' (us.map strV) w) (hl : us.length ≤ 400) :
    Calls Try.prog 45 #[.slice A us.length c, .slice A' us.length c'] w fun e w' => e = .returned (.bool true) ∧ ∃ n, w' = w.drewN n := by
  have HT := Lib.hid h
  have HT' := Lib.hid h'
  clear h h'
  go_enter Try.func45, Try.ntmps45
  go_wp2
  go_loopw [5] (fun i wr => ∃ k m : Nat, k ≤ us.length ∧ i = .int .i64 k ∧ wr = w.drewN m) (fun i _ => us.length - (intOf i).toNat)
  case atStart => exact ⟨0, 0, Nat.zero_le _, rfl, rfl⟩
  case round =>
    obtain ⟨k, m, hk, rfl, rfl⟩ := hrel
    by_cases hlt : k < us.length
    · obtain ⟨b, off, x, rfl, hx, hc⟩ := HT.out.str k hlt
      obtain ⟨b', off', x', rfl, hx', hc'⟩ := HT'.out.str k hlt
      obtain rfl : x = x' := hx.symm.trans hx'
      clear hx hx'
      go_wp2
      go_quiet (fail)
      go_wp2
      go_roundw
      case rel => exact ⟨k + 1, _, by omega, by go_num, rfl⟩
      case measure => simp [intOf]; omega
    · go_wp2
      go_ret
      exact ⟨rfl, _, rfl⟩
end Go.Proofs.Ytongkfimgohhbaa
