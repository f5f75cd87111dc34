/-
  What rss.Choose answers: for all rules, bytes and numbers of queues.
-/
import Derived.Test.YtpjndjmneficbaaRqo
namespace Go.Proofs.Ytpjndjmneficbaa
open Go.RowKit

theorem ofV_kind (s : ByteArray) : 0 ≤ (ofV s).kind ∧ (ofV s).kind ≤ 6 := by
  unfold ofV
  split
  · simp only
    rcases kindV_cases (ipP (parseF s).b) with h | h | ⟨_, h | h | h | h⟩ <;> omega
  · exact ⟨by decide, by decide⟩
theorem less_kind {f : Fw} (h : 0 ≤ f.kind ∧ f.kind ≤ 6) : 0 ≤ (lessV f).kind ∧ (lessV f).kind ≤ 6 := by
  unfold lessV
  split
  · exact ⟨(by omega : (0 : Int) ≤ 1), (by omega : (1 : Int) ≤ 6)⟩
  · split
    · exact ⟨(by omega : (0 : Int) ≤ 4), (by omega : (4 : Int) ≤ 6)⟩
    · exact h
/-- the queue that valid rules give to a flow -/
def queueV (k : Int) (L : List Int) (x : ByteArray) (d : Int) (f : Fw) : Int := if hasB k f.kind = true then elemV L x f.key else if hasB k (lessV f).kind = true then elemV L x (lessV f).key else d
theorem queue_any (k : Int) (A : Option Addr) (c : Nat) (L : List Int) (x : ByteArray) (d : Int) (f : Fw) (w : World) (hT : Tab A L w) (hn : 1 ≤ L.length) (h4 : 4 ≤ x.size) (h52 : x.size ≤ 52) (hf : 0 ≤ f.kind ∧ f.kind ≤ 6) :
    Calls Try.prog 25 #[.agg #[.int .i64 k, .slice A L.length c, .string x, .int .i64 d], .agg #[.int .i64 f.kind, .string f.key]] w fun e w' => e = .returned (.int .i64 (queueV k L x d f)) ∧ Below w.heap.size w w' := by
  have A1 := fun W => has_any k A c L x d f W hf.1 hf.2
  have A2 := fun W => has_any k A c L x d (lessV f) W (less_kind hf).1 (less_kind hf).2
  unfold queueV
  cases h1 : hasB k f.kind with
  | true =>
    rw [h1] at A1
    rw [if_pos rfl]
    exact queue_own k A c L x d f.kind f.key (lessV f).kind (lessV f).key _ w hT (fun W => less_any f W) A1 (fun W hB hT => elem_any k A c L x d f _ W hB hT hn h4 h52)
  | false =>
    rw [h1] at A1
    rw [if_neg (by simp)]
    cases h2 : hasB k (lessV f).kind with
    | true =>
      rw [h2] at A2
      rw [if_pos rfl]
      exact queue_less k A c L x d f.kind f.key (lessV f).kind (lessV f).key _ w hT (fun W => less_any f W) A1 A2 (fun W hB hT => elem_any k A c L x d (lessV f) _ W hB hT hn h4 h52)
    | false =>
      rw [h2] at A2
      rw [if_neg (by simp)]
      exact queue_none k A c L x d f.kind f.key (lessV f).kind (lessV f).key w (fun W => less_any f W) A1 A2
theorem ru_str {k : Int} {A : Option Addr} {n c : Nat} {x : ByteArray} {d : Int} {w w' : World} (h : Held w 24 #[.int .i64 k, .slice A n c, .string x, .int .i64 d] w') :
    (w'.cell? ⟨w.heap.size, 0, none⟩ = some (.int .i64 k) ∧ w'.cell? ⟨w.heap.size, 1, none⟩ = some (.slice A n c) ∧ w'.cell? ⟨w.heap.size, 2, none⟩ = some (.string x) ∧ w'.cell? ⟨w.heap.size, 3, none⟩ = some (.int .i64 d)) ∧ Held w 24 #[.int .i64 k, .slice A n c, .string x, .int .i64 d] w' :=
  ⟨⟨h.blk.cell 0, h.blk.cell 1, h.blk.cell 2, h.blk.cell 3⟩, h⟩
theorem ru_on {k : Int} {A : Option Addr} {n c : Nat} {x : ByteArray} {d : Int} {w w1 w' : World} (h : (w1.cell? ⟨w.heap.size, 0, none⟩ = some (.int .i64 k) ∧ w1.cell? ⟨w.heap.size, 1, none⟩ = some (.slice A n c) ∧ w1.cell? ⟨w.heap.size, 2, none⟩ = some (.string x) ∧ w1.cell? ⟨w.heap.size, 3, none⟩ = some (.int .i64 d)) ∧ Held w 24 #[.int .i64 k, .slice A n c, .string x, .int .i64 d] w1) (hq : Below w1.heap.size w1 w') :
    (w'.cell? ⟨w.heap.size, 0, none⟩ = some (.int .i64 k) ∧ w'.cell? ⟨w.heap.size, 1, none⟩ = some (.slice A n c) ∧ w'.cell? ⟨w.heap.size, 2, none⟩ = some (.string x) ∧ w'.cell? ⟨w.heap.size, 3, none⟩ = some (.int .i64 d)) ∧ Held w 24 #[.int .i64 k, .slice A n c, .string x, .int .i64 d] w' := ru_str (h.2.next hq)
theorem ru_below {k : Int} {A : Option Addr} {n c : Nat} {x : ByteArray} {d : Int} {w w1 : World} (h : (w1.cell? ⟨w.heap.size, 0, none⟩ = some (.int .i64 k) ∧ w1.cell? ⟨w.heap.size, 1, none⟩ = some (.slice A n c) ∧ w1.cell? ⟨w.heap.size, 2, none⟩ = some (.string x) ∧ w1.cell? ⟨w.heap.size, 3, none⟩ = some (.int .i64 d)) ∧ Held w 24 #[.int .i64 k, .slice A n c, .string x, .int .i64 d] w1) : Below w.heap.size w w1 := h.2.below
theorem choose_bad (k : Int) (A : Option Addr) (c : Nat) (L : List Int) (x : ByteArray) (d : Int) (s : ByteArray) (q : Int) (w : World)
    (A14 : ∀ W, Below w.heap.size w W → Calls Try.prog 14 #[.agg #[.int .i64 k, .slice A L.length c, .string x, .int .i64 d]] W fun e w' => e = .returned (.int .i64 110) ∧ Below W.heap.size W w') :
    Calls Try.prog 17 #[.agg #[.int .i64 k, .slice A L.length c, .string x, .int .i64 d], .string s, .int .i64 q] w fun e w' => e = .returned (.int .i64 0) ∧ Below w.heap.size w w' := by
  have H14 := Lib.hid A14
  clear A14
  go_enter Try.func17, Try.ntmps17
  go_wp2_with fail
  refine (H14.out _ ((Below.refl _ _).alloc (Nat.le_refl _) _)).mono ?_
  rintro e w1 ⟨rfl, hq⟩
  have h1 := (Held.new w 24 #[.int .i64 k, .slice A L.length c, .string x, .int .i64 d]).next hq
  clear hq
  go_wp2_with fail
  go_ret
  exact ⟨rfl, h1.below⟩
theorem choose_none (k : Int) (A : Option Addr) (c : Nat) (L : List Int) (x : ByteArray) (d : Int) (s : ByteArray) (q : Int) (w : World)
    (A14 : ∀ W, Below w.heap.size w W → Calls Try.prog 14 #[.agg #[.int .i64 k, .slice A L.length c, .string x, .int .i64 d]] W fun e w' => e = .returned (.int .i64 0) ∧ Below W.heap.size W w')
    (A21 : ∀ W, Calls Try.prog 21 #[.int .i64 q, .int .i64 8] W fun e w' => e = .returned (.bool false) ∧ W = w') :
    Calls Try.prog 17 #[.agg #[.int .i64 k, .slice A L.length c, .string x, .int .i64 d], .string s, .int .i64 q] w fun e w' => e = .returned (.int .i64 0) ∧ Below w.heap.size w w' := by
  have H14 := Lib.hid A14
  have H21 := Lib.hid A21
  clear A14 A21
  go_enter Try.func17, Try.ntmps17
  go_wp2_with fail
  refine (H14.out _ ((Below.refl _ _).alloc (Nat.le_refl _) _)).mono ?_
  rintro e w1 ⟨rfl, hq⟩
  have h1 := (Held.new w 24 #[.int .i64 k, .slice A L.length c, .string x, .int .i64 d]).next hq
  clear hq
  go_wp2_with (go_at_call 21; ((with_reducible refine (H21.out _).mono ?_); rintro e w' ⟨rfl, rfl⟩))
  go_ret
  exact ⟨rfl, h1.below⟩
set_option maxHeartbeats 1600000 in
theorem choose_walk (k : Int) (A : Option Addr) (c : Nat) (L : List Int) (x : ByteArray) (d : Int) (s : ByteArray) (q : Int) (fk : Int) (fy : ByteArray) (z : Int) (r : Int) (hr : r = if z < q then z else 0) (w : World)
    (A14 : ∀ W, Below w.heap.size w W → Calls Try.prog 14 #[.agg #[.int .i64 k, .slice A L.length c, .string x, .int .i64 d]] W fun e w' => e = .returned (.int .i64 0) ∧ Below W.heap.size W w')
    (A21 : ∀ W, Calls Try.prog 21 #[.int .i64 q, .int .i64 8] W fun e w' => e = .returned (.bool true) ∧ W = w')
    (A20 : ∀ W, Calls Try.prog 20 #[.string s] W fun e w' => e = .returned (.agg #[.int .i64 fk, .string fy]) ∧ Below W.heap.size W w')
    (A25 : ∀ W, Below w.heap.size w W → Calls Try.prog 25 #[.agg #[.int .i64 k, .slice A L.length c, .string x, .int .i64 d], .agg #[.int .i64 fk, .string fy]] W fun e w' => e = .returned (.int .i64 z) ∧ Below W.heap.size W w') :
    Calls Try.prog 17 #[.agg #[.int .i64 k, .slice A L.length c, .string x, .int .i64 d], .string s, .int .i64 q] w fun e w' => e = .returned (.int .i64 r) ∧ Below w.heap.size w w' := by
  have H14 := Lib.hid A14
  have H21 := Lib.hid A21
  have H20 := Lib.hid A20
  have H25 := Lib.hid A25
  have HR := Lib.hid hr
  clear A14 A21 A20 A25 hr
  go_enter Try.func17, Try.ntmps17
  go_wp2_with fail
  refine (H14.out _ ((Below.refl _ _).alloc (Nat.le_refl _) _)).mono ?_
  rintro e w1 ⟨rfl, hq⟩
  have h1 := (Held.new w 24 #[.int .i64 k, .slice A L.length c, .string x, .int .i64 d]).next hq
  clear hq
  go_wp2_with (go_at_call 21; ((with_reducible refine (H21.out _).mono ?_); rintro e w' ⟨rfl, rfl⟩))
  have q0 := ru_str h1.drew
  go_region_held (fun w' => (w'.cell? ⟨w.heap.size, 0, none⟩ = some (.int .i64 k) ∧ w'.cell? ⟨w.heap.size, 1, none⟩ = some (.slice A L.length c) ∧ w'.cell? ⟨w.heap.size, 2, none⟩ = some (.string x) ∧ w'.cell? ⟨w.heap.size, 3, none⟩ = some (.int .i64 d)) ∧ Held w 24 #[.int .i64 k, .slice A L.length c, .string x, .int .i64 d] w')
    (first | exact q0 | assumption | exact ru_on (by assumption) hq)
    (first
      | (go_at_call 20; ((with_reducible refine (H20.out _).mono ?_); rintro e w' ⟨rfl, hq⟩))
      | (go_at_call 25; ((with_reducible refine (H25.out _ (ru_below (by assumption))).mono ?_); rintro e w' ⟨rfl, hq⟩)))
  all_goals
    rename_i hH
    have hB := hH.2.below
    by_cases hz : z < q
    · obtain rfl : r = z := HR.out.trans (if_pos hz)
      go_wp2
      go_ret
      exact ⟨rfl, hB⟩
    · obtain rfl : r = 0 := HR.out.trans (if_neg hz)
      go_wp2
      go_ret
      exact ⟨rfl, hB⟩
/-- what Choose answers -/
def chooseV (k : Int) (L : List Int) (x : ByteArray) (d : Int) (s : ByteArray) (q : Int) : Int :=
  if rulesB k L x d = true ∧ fromB q 8 = true then (if queueV k L x d (ofV s) < q then queueV k L x d (ofV s) else 0) else 0
theorem rules_parts {k : Int} {L : List Int} {x : ByteArray} {d : Int} (h : rulesB k L x d = true) : 1 ≤ L.length ∧ L.length ≤ 128 ∧ 4 ≤ x.size ∧ x.size ≤ 52 ∧ kindsB k = true ∧ quB d = true ∧ L.all quB = true := by
  simp only [rulesB, tabB, keyB, fromB, Bool.and_eq_true, decide_eq_true_eq] at h
  obtain ⟨⟨⟨a, ⟨⟨b1, b2⟩, _⟩, e⟩, f⟩, g⟩ := h
  exact ⟨by omega, by omega, f.1, f.2, a, g, e⟩
theorem chs_any (k : Int) (A : Option Addr) (c : Nat) (L : List Int) (x : ByteArray) (d : Int) (s : ByteArray) (q : Int) (w : World) (hT : Tab A L w) :
    Calls Try.prog 17 #[.agg #[.int .i64 k, .slice A L.length c, .string x, .int .i64 d], .string s, .int .i64 q] w fun e w' => e = .returned (.int .i64 (chooseV k L x d s q)) ∧ Below w.heap.size w w' := by
  have A14 := fun W (hb : Below w.heap.size w W) => check_any k A c L x d W (hT.below hb)
  have A21 := fun W => from_any q 8 W
  unfold chooseV
  by_cases h1 : rulesB k L x d = true
  · rw [checkV, if_pos h1] at A14
    by_cases h2 : fromB q 8 = true
    · rw [h2] at A21
      rw [if_pos ⟨h1, h2⟩]
      obtain ⟨n1, _, n3, n4, _⟩ := rules_parts h1
      exact choose_walk k A c L x d s q (ofV s).kind (ofV s).key _ _ rfl w A14 A21 (fun W => of_any s W) (fun W hb => queue_any k A c L x d (ofV s) W (hT.below hb) n1 n3 n4 (ofV_kind s))
    · rw [if_neg (fun h => h2 h.2)]
      have h2 : fromB q 8 = false := by simpa using h2
      rw [h2] at A21
      exact choose_none k A c L x d s q w A14 A21
  · rw [checkV, if_neg h1] at A14
    rw [if_neg (fun h => h1 h.1)]
    exact choose_bad k A c L x d s q w A14
end Go.Proofs.Ytpjndjmneficbaa
