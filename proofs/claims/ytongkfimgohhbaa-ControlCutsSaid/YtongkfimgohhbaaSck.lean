/-
  Tables of queues in slices; what rss's small functions and Check answer, and what the laws' bound leaves of rules: for all rules.
-/
import Derived.Test.YtongkfimgohhbaaFl
namespace Go.Proofs.Ytongkfimgohhbaa
namespace Rs
open Go.RowKit

/-- A slice whose cells are these numbers. -/
def Tab (A : Option Addr) (L : List Int) (w : World) : Prop :=
  0 < L.length → ∃ b off, A = some ⟨b, off, none⟩ ∧ b < w.heap.size ∧ ∀ (i : Nat) (h : i < L.length), w.cell? ⟨b, off + i, none⟩ = some (.int .i64 L[i])
theorem Tab.below {w w' : World} {A : Option Addr} {L : List Int} (h : Tab A L w) (hb : Below w.heap.size w w') : Tab A L w' := by
  intro hn
  obtain ⟨b, off, hA, hlt, hc⟩ := h hn
  exact ⟨b, off, hA, by have := hb.size; omega, fun i hi => (hb.cell (p := ⟨b, off + i, none⟩) hlt).trans (hc i hi)⟩
theorem Tab.at {w : World} {A : Option Addr} {L : List Int} (h : Tab A L w) (k : Nat) (hk : k < L.length) : ∃ b off x, A = some ⟨b, off, none⟩ ∧ L[k] = x ∧ w.cell? ⟨b, off + k, none⟩ = some (.int .i64 x) := by
  obtain ⟨b, off, hA, _, hc⟩ := h (by omega)
  exact ⟨b, off, _, hA, rfl, hc k hk⟩
def fromB (v m : Int) : Bool := decide (1 ≤ v) && decide (v ≤ m)
theorem from_any (v m : Int) (w : World) : Calls Try.prog 96 #[.int .i64 v, .int .i64 m] w fun e w' => e = .returned (.bool (fromB v m)) ∧ w = w' := by
  by_cases h : 1 ≤ v
  · go_enter Try.func96, Try.ntmps96
    go_wp2
    go_ret
    exact ⟨ret_bool (by simp [fromB, h]), rfl⟩
  · go_enter Try.func96, Try.ntmps96
    go_wp2
    go_ret
    exact ⟨ret_bool (by simp [fromB]; omega), rfl⟩
def quB (v : Int) : Bool := decide (0 ≤ v) && decide (v < 8)
theorem qu_any (v : Int) (w : World) : Calls Try.prog 92 #[.int .i64 v] w fun e w' => e = .returned (.bool (quB v)) ∧ w = w' := by
  by_cases h : 0 ≤ v
  · go_enter Try.func92, Try.ntmps92
    go_wp2
    go_ret
    exact ⟨ret_bool (by simp [quB, h]), rfl⟩
  · go_enter Try.func92, Try.ntmps92
    go_wp2
    go_ret
    exact ⟨ret_bool (by simp [quB]; omega), rfl⟩
def keyB (s : ByteArray) : Bool := decide (4 ≤ s.size) && decide (s.size ≤ 52)
theorem key_any (s : ByteArray) (w : World) : Calls Try.prog 91 #[.string s] w fun e w' => e = .returned (.bool (keyB s)) ∧ w = w' := by
  by_cases h : 4 ≤ (s.size : Int)
  · go_enter Try.func91, Try.ntmps91
    go_wp2
    go_ret
    exact ⟨ret_bool (by rw [keyB, decide_eq_true (show 4 ≤ s.size by omega), Bool.true_and]; exact decide_eq_decide.2 (by omega)), rfl⟩
  · go_enter Try.func91, Try.ntmps91
    go_wp2
    go_ret
    exact ⟨ret_bool (by simp [keyB]; omega), rfl⟩
def powB (n : Nat) : Bool := bits .and .i64 (n : Int) ((n : Int) - 1) == 0
def tabB (L : List Int) : Bool := fromB L.length 128 && powB L.length && L.all quB
theorem tab_bad {L : List Int} {k : Nat} (hk : k < L.length) (h : quB L[k] = false) : tabB L = false := by
  have : L.all quB = false := by
    rw [List.all_eq_false]
    exact ⟨L[k], List.getElem_mem hk, by simp [h]⟩
  rw [tabB, this, Bool.and_false]
theorem tab_good {L : List Int} (h1 : fromB L.length 128 = true) (h2 : powB L.length = true) (h : ∀ (j : Nat) (hj : j < L.length), quB L[j] = true) : tabB L = true := by
  rw [tabB, h1, h2, Bool.true_and, Bool.true_and, List.all_eq_true]
  intro x hx
  obtain ⟨j, hj, rfl⟩ := List.mem_iff_getElem.1 hx
  exact h j hj
set_option maxHeartbeats 1000000 in
theorem table_any (A : Option Addr) (c : Nat) (L : List Int) (w : World) (h : Tab A L w) : Calls Try.prog 90 #[.slice A L.length c] w fun e w' => e = .returned (.bool (tabB L)) ∧ w = w' := by
  have HT := Lib.hid h
  clear h
  have HA := Lib.hid (fun W => from_any L.length 128 W)
  cases h1 : fromB L.length 128 with
  | false =>
    have e : tabB L = false := by rw [tabB, h1, Bool.false_and, Bool.false_and]
    rw [h1] at HA
    rw [e]
    clear e h1
    go_enter Try.func90, Try.ntmps90
    go_wp2_with (go_at_call 96; ((with_reducible refine (HA.out _).mono ?_); rintro e w' ⟨rfl, rfl⟩))
    go_ret
    exact ⟨rfl, rfl⟩
  | true =>
    have hn : 1 ≤ L.length ∧ L.length ≤ 128 := by
      simp only [fromB, Bool.and_eq_true, decide_eq_true_eq] at h1
      omega
    have H1 := Lib.hid h1
    rw [h1] at HA
    clear h1
    cases h2 : powB L.length with
    | false =>
      have e : tabB L = false := by rw [tabB, h2, Bool.and_false, Bool.false_and]
      rw [e]
      clear e
      have h3 : (bits .and .i64 (L.length : Int) ((L.length : Int) - 1) != 0) = true := by
        have h3 : (bits .and .i64 (L.length : Int) ((L.length : Int) - 1) == 0) = false := h2
        rw [bne, h3]; rfl
      clear h2
      go_enter Try.func90, Try.ntmps90
      go_wp2_with (go_at_call 96; ((with_reducible refine (HA.out _).mono ?_); rintro e w' ⟨rfl, rfl⟩))
      go_ret
      exact ⟨rfl, rfl⟩
    | true =>
      have h3 : (bits .and .i64 (L.length : Int) ((L.length : Int) - 1) != 0) = false := by
        have h3 : (bits .and .i64 (L.length : Int) ((L.length : Int) - 1) == 0) = true := h2
        rw [bne, h3]; rfl
      have H2 := Lib.hid h2
      have HB := Lib.hid (fun (k : Nat) (hk : k < L.length) (hq : quB L[k] = false) => tab_bad hk hq)
      have HG := Lib.hid (tab_good H1.out H2.out)
      have HQ := Lib.hid qu_any
      clear h2 H1 H2
      generalize tabB L = T at *
      go_enter Try.func90, Try.ntmps90
      go_wp2_with (go_at_call 96; ((with_reducible refine (HA.out _).mono ?_); rintro e w' ⟨rfl, rfl⟩))
      go_loopw [20] (fun i wr => ∃ k : Nat, k ≤ L.length ∧ i = .int .i64 k ∧ w = wr ∧ ∀ (j : Nat) (hj : j < L.length), j < k → quB L[j] = true) (fun i _ => L.length - (intOf i).toNat)
      case atStart => exact ⟨0, Nat.zero_le _, rfl, rfl, fun _ _ h => by omega⟩
      case round =>
        obtain ⟨k, hk, rfl, rfl, hall⟩ := hrel
        have HL := Lib.hid hall
        clear hall
        by_cases hlt : k < L.length
        · obtain ⟨b, off, x, rfl, hx, hc⟩ := HT.out.at k hlt
          cases hq : quB x with
          | false =>
            have hf := HB.out k hlt (by rw [hx]; exact hq)
            go_wp2_with (go_at_call 92; ((with_reducible refine (HQ.out _ _).mono ?_); rintro e w' ⟨rfl, rfl⟩))
            go_ret
            exact ⟨ret_bool hf.symm, rfl⟩
          | true =>
            go_wp2_with (go_at_call 92; ((with_reducible refine (HQ.out _ _).mono ?_); rintro e w' ⟨rfl, rfl⟩))
            go_roundw
            case rel =>
              refine ⟨k + 1, by omega, by go_num, trivial, fun j hj hjk => ?_⟩
              by_cases e : j = k
              · subst e; rw [hx]; exact hq
              · exact HL.out j hj (by omega)
            case measure => simp [intOf]; omega
        · have hf := HG.out (fun j hj => HL.out j hj (by omega))
          go_wp2
          go_ret
          exact ⟨ret_bool hf.symm, rfl⟩

theorem check_a (k : Int) (A : Option Addr) (c : Nat) (L : List Int) (x : ByteArray) (d : Int) (w : World) (h0 : (bits .andNot .i64 k 126 != 0) = true) :
    Calls Try.prog 82 #[.agg #[.int .i64 k, .slice A L.length c, .string x, .int .i64 d]] w fun e w' => e = .returned (.int .i64 110) ∧ Below w.heap.size w w' := by
  go_enter Try.func82, Try.ntmps82
  go_wp2
  go_ret
  exact ⟨rfl, (Below.refl _ _).alloc (Nat.le_refl _) _⟩
theorem check_b (k : Int) (A : Option Addr) (c : Nat) (L : List Int) (x : ByteArray) (d : Int) (w : World) (h0 : (bits .andNot .i64 k 126 != 0) = false) (A1 : ∀ W, Below w.heap.size w W → Calls Try.prog 90 #[.slice A L.length c] W fun e w' => e = .returned (.bool false) ∧ W = w') :
    Calls Try.prog 82 #[.agg #[.int .i64 k, .slice A L.length c, .string x, .int .i64 d]] w fun e w' => e = .returned (.int .i64 110) ∧ Below w.heap.size w w' := by
  have H1 := Lib.hid A1
  clear A1
  go_enter Try.func82, Try.ntmps82
  go_wp2_with (first | (go_at_call 90; ((with_reducible refine (H1.out _ ((Below.refl _ _).alloc (Nat.le_refl _) _)).mono ?_); rintro e w' ⟨rfl, rfl⟩)))
  go_ret
  exact ⟨rfl, (Below.refl _ _).alloc (Nat.le_refl _) _⟩
theorem check_c (k : Int) (A : Option Addr) (c : Nat) (L : List Int) (x : ByteArray) (d : Int) (w : World) (h0 : (bits .andNot .i64 k 126 != 0) = false) (A1 : ∀ W, Below w.heap.size w W → Calls Try.prog 90 #[.slice A L.length c] W fun e w' => e = .returned (.bool true) ∧ W = w') (A2 : ∀ W, Calls Try.prog 91 #[.string x] W fun e w' => e = .returned (.bool false) ∧ W = w') :
    Calls Try.prog 82 #[.agg #[.int .i64 k, .slice A L.length c, .string x, .int .i64 d]] w fun e w' => e = .returned (.int .i64 110) ∧ Below w.heap.size w w' := by
  have H1 := Lib.hid A1
  clear A1
  have H2 := Lib.hid A2
  clear A2
  go_enter Try.func82, Try.ntmps82
  go_wp2_with (first | (go_at_call 90; ((with_reducible refine (H1.out _ ((Below.refl _ _).alloc (Nat.le_refl _) _)).mono ?_); rintro e w' ⟨rfl, rfl⟩)) | (go_at_call 91; ((with_reducible refine (H2.out _).mono ?_); rintro e w' ⟨rfl, rfl⟩)))
  go_ret
  exact ⟨rfl, (Below.refl _ _).alloc (Nat.le_refl _) _⟩
theorem check_d (k : Int) (A : Option Addr) (c : Nat) (L : List Int) (x : ByteArray) (d : Int) (w : World) (h0 : (bits .andNot .i64 k 126 != 0) = false) (A1 : ∀ W, Below w.heap.size w W → Calls Try.prog 90 #[.slice A L.length c] W fun e w' => e = .returned (.bool true) ∧ W = w') (A2 : ∀ W, Calls Try.prog 91 #[.string x] W fun e w' => e = .returned (.bool true) ∧ W = w') (A3 : ∀ W, Calls Try.prog 92 #[.int .i64 d] W fun e w' => e = .returned (.bool false) ∧ W = w') :
    Calls Try.prog 82 #[.agg #[.int .i64 k, .slice A L.length c, .string x, .int .i64 d]] w fun e w' => e = .returned (.int .i64 110) ∧ Below w.heap.size w w' := by
  have H1 := Lib.hid A1
  clear A1
  have H2 := Lib.hid A2
  clear A2
  have H3 := Lib.hid A3
  clear A3
  go_enter Try.func82, Try.ntmps82
  go_wp2_with (first | (go_at_call 90; ((with_reducible refine (H1.out _ ((Below.refl _ _).alloc (Nat.le_refl _) _)).mono ?_); rintro e w' ⟨rfl, rfl⟩)) | (go_at_call 91; ((with_reducible refine (H2.out _).mono ?_); rintro e w' ⟨rfl, rfl⟩)) | (go_at_call 92; ((with_reducible refine (H3.out _).mono ?_); rintro e w' ⟨rfl, rfl⟩)))
  go_ret
  exact ⟨rfl, (Below.refl _ _).alloc (Nat.le_refl _) _⟩
theorem check_e (k : Int) (A : Option Addr) (c : Nat) (L : List Int) (x : ByteArray) (d : Int) (w : World) (h0 : (bits .andNot .i64 k 126 != 0) = false) (A1 : ∀ W, Below w.heap.size w W → Calls Try.prog 90 #[.slice A L.length c] W fun e w' => e = .returned (.bool true) ∧ W = w') (A2 : ∀ W, Calls Try.prog 91 #[.string x] W fun e w' => e = .returned (.bool true) ∧ W = w') (A3 : ∀ W, Calls Try.prog 92 #[.int .i64 d] W fun e w' => e = .returned (.bool true) ∧ W = w') :
    Calls Try.prog 82 #[.agg #[.int .i64 k, .slice A L.length c, .string x, .int .i64 d]] w fun e w' => e = .returned (.int .i64 0) ∧ Below w.heap.size w w' := by
  have H1 := Lib.hid A1
  clear A1
  have H2 := Lib.hid A2
  clear A2
  have H3 := Lib.hid A3
  clear A3
  go_enter Try.func82, Try.ntmps82
  go_wp2_with (first | (go_at_call 90; ((with_reducible refine (H1.out _ ((Below.refl _ _).alloc (Nat.le_refl _) _)).mono ?_); rintro e w' ⟨rfl, rfl⟩)) | (go_at_call 91; ((with_reducible refine (H2.out _).mono ?_); rintro e w' ⟨rfl, rfl⟩)) | (go_at_call 92; ((with_reducible refine (H3.out _).mono ?_); rintro e w' ⟨rfl, rfl⟩)))
  go_ret
  exact ⟨rfl, (Below.refl _ _).alloc (Nat.le_refl _) _⟩
def kindsB (k : Int) : Bool := bits .andNot .i64 k 126 == 0
/-- May rules be? -/
def rulesB (k : Int) (L : List Int) (x : ByteArray) (d : Int) : Bool := kindsB k && tabB L && keyB x && quB d
def checkV (k : Int) (L : List Int) (x : ByteArray) (d : Int) : Int := if rulesB k L x d = true then 0 else 110
theorem check_any (k : Int) (A : Option Addr) (c : Nat) (L : List Int) (x : ByteArray) (d : Int) (w : World) (h : Tab A L w) :
    Calls Try.prog 82 #[.agg #[.int .i64 k, .slice A L.length c, .string x, .int .i64 d]] w fun e w' => e = .returned (.int .i64 (checkV k L x d)) ∧ Below w.heap.size w w' := by
  have A1 := fun W (hb : Below w.heap.size w W) => table_any A c L W (h.below hb)
  have A2 := fun W => key_any x W
  have A3 := fun W => qu_any d W
  unfold checkV rulesB
  have hk : (bits .andNot .i64 k 126 != 0) = !kindsB k := rfl
  generalize kindsB k = b0 at *
  generalize tabB L = b1 at *
  generalize keyB x = b2 at *
  generalize quB d = b3 at *
  cases b0
  · exact check_a k A c L x d w hk
  cases b1
  · exact check_b k A c L x d w hk A1
  cases b2
  · exact check_c k A c L x d w hk A1 A2
  cases b3
  · exact check_d k A c L x d w hk A1 A2 A3
  · exact check_e k A c L x d w hk A1 A2 A3

theorem cut_own (s : ByteArray) : s.extract 0 s.size = s := by simp
end Rs
end Go.Proofs.Ytongkfimgohhbaa
