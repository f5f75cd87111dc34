/-
  devq.Check; no condition.
-/
import Derived.Test.YtbpgblmhacpjlaaVx
namespace Go.Proofs.Ytbpgblmhacpjlaa
open Go.RowKit

theorem blk4 {W : World} {k : Nat} {t : TypeId} {a b d e : Value} (h : Blk W k t #[a, b, d, e]) : W.cell? ⟨k, 0, none⟩ = some a ∧ W.cell? ⟨k, 1, none⟩ = some b ∧ W.cell? ⟨k, 2, none⟩ = some d ∧ W.cell? ⟨k, 3, none⟩ = some e ∧
    W.frozen? ⟨k, 0, none⟩ = false ∧ W.frozen? ⟨k, 1, none⟩ = false ∧ W.frozen? ⟨k, 2, none⟩ = false ∧ W.frozen? ⟨k, 3, none⟩ = false :=
  ⟨h.cell 0, h.cell 1, h.cell 2, h.cell 3, h.frozen 0, h.frozen 1, h.frozen 2, h.frozen 3⟩
def fitsB (xs : List UInt8) (a n u : Int) : Bool := (a.tmod u == 0) && mayB xs a n
section
variable {B g gb : Nat} {lv : Value} {xs : List UInt8} {w : World}
theorem qfits_any (h : Mem B g gb lv xs w) (a n u : Int) (hn : n < 9223372036854775808) (hu : u = 16 ∨ u = 4) :
    Calls Try.prog 56 #[.pointer (some ⟨g, 0, none⟩), .int .i64 a, .int .i64 n, .int .i64 u] w fun e w' => e = .returned (.bool (fitsB xs a n u)) ∧ w = w' := by
  have HM := Lib.hid (may_any h a n hn)
  unfold fitsB
  cases k : (a.tmod u == 0)
  · have u0 : (u == 0) = false := by rcases hu with rfl | rfl <;> rfl
    have u1 : ¬ u = 0 := by rcases hu with rfl | rfl <;> decide
    rcases hu with rfl | rfl
    all_goals
      clear h hn u0 u1
      go_enter Try.func56, Try.ntmps56
      go_wp2_with fail
      go_ret
      exact ⟨rfl, rfl⟩
  · rcases hu with rfl | rfl
    all_goals
      clear h hn
      go_enter Try.func56, Try.ntmps56
      go_wp2_with fail
      refine HM.out.mono ?_
      rintro e w1 ⟨rfl, rfl⟩
      go_wp2_with fail
      go_ret
      exact ⟨rfl, rfl⟩
/-- may a queue lie so? -/
def layB (xs : List UInt8) (ring size drv dev : Int) : Bool :=
  decide (1 ≤ size ∧ size ≤ 32768) && (fitsB xs ring (size * 16) 16 && (fitsB xs drv 4 4 && fitsB xs dev 4 4))
def layE (xs : List UInt8) (ring size drv dev : Int) : Int := if layB xs ring size drv dev then 0 else 140
set_option maxRecDepth 100000 in
theorem check_low (ring size drv dev : Int) (k : size < 1) (w : World) (g : Nat) :
    Calls Try.prog 32 #[.pointer (some ⟨g, 0, none⟩), .agg #[.int .i64 ring, .int .i64 size, .int .i64 drv, .int .i64 dev]] w fun e w' => e = .returned (.int .i64 140) ∧ Below w.heap.size w w' := by
  go_enter Try.func32, Try.ntmps32
  go_wp2_with fail
  go_ret
  exact ⟨rfl, ba (Below.refl _ _) _⟩
set_option maxRecDepth 100000 in
theorem check_high (ring size drv dev : Int) (k0 : ¬ size < 1) (k : 32768 < size) (w : World) (g : Nat) :
    Calls Try.prog 32 #[.pointer (some ⟨g, 0, none⟩), .agg #[.int .i64 ring, .int .i64 size, .int .i64 drv, .int .i64 dev]] w fun e w' => e = .returned (.int .i64 140) ∧ Below w.heap.size w w' := by
  go_enter Try.func32, Try.ntmps32
  go_wp2_with fail
  go_ret
  exact ⟨rfl, ba (Below.refl _ _) _⟩
set_option maxRecDepth 100000 in
theorem check_one (h : Mem B g gb lv xs w) (ring size drv dev : Int) (s1 : 1 ≤ size) (s2 : size ≤ 32768) (k1 : fitsB xs ring (size * 16) 16 = false) :
    Calls Try.prog 32 #[.pointer (some ⟨g, 0, none⟩), .agg #[.int .i64 ring, .int .i64 size, .int .i64 drv, .int .i64 dev]] w fun e w' => e = .returned (.int .i64 140) ∧ Below w.heap.size w w' := by
  have hb1 := ba (Below.refl w.heap.size w) (.cells #[.int .i64 ring, .int .i64 size, .int .i64 drv, .int .i64 dev] 24)
  have v1 : IntKind.i64.wrap (size * 16) = size * 16 := by rw [IntKind.wrap_i64]; omega
  have H1 := Lib.hid (fun W (hb : Below w.heap.size w W) => by have := qfits_any (h.below hb (Nat.le_refl _)) ring (size * 16) 16 (by omega) (.inl rfl); rw [k1] at this; exact this)
  clear k1
  clear h
  go_enter Try.func32, Try.ntmps32
  go_wp2_with (first
    | (go_at_call 56; ((with_reducible refine (H1.out _ hb1).mono ?_); rintro e w1 ⟨rfl, rfl⟩)))
  go_ret
  exact ⟨rfl, ba (Below.refl _ _) _⟩
set_option maxRecDepth 100000 in
theorem check_two (h : Mem B g gb lv xs w) (ring size drv dev : Int) (s1 : 1 ≤ size) (s2 : size ≤ 32768) (k1 : fitsB xs ring (size * 16) 16 = true) (k2 : fitsB xs drv 4 4 = false) :
    Calls Try.prog 32 #[.pointer (some ⟨g, 0, none⟩), .agg #[.int .i64 ring, .int .i64 size, .int .i64 drv, .int .i64 dev]] w fun e w' => e = .returned (.int .i64 140) ∧ Below w.heap.size w w' := by
  have hb1 := ba (Below.refl w.heap.size w) (.cells #[.int .i64 ring, .int .i64 size, .int .i64 drv, .int .i64 dev] 24)
  have v1 : IntKind.i64.wrap (size * 16) = size * 16 := by rw [IntKind.wrap_i64]; omega
  have H1 := Lib.hid (fun W (hb : Below w.heap.size w W) => by have := qfits_any (h.below hb (Nat.le_refl _)) ring (size * 16) 16 (by omega) (.inl rfl); rw [k1] at this; exact this)
  have H2 := Lib.hid (fun W (hb : Below w.heap.size w W) => by have := qfits_any (h.below hb (Nat.le_refl _)) drv (4) 4 (by omega) (.inr rfl); rw [k2] at this; exact this)
  clear k1 k2
  clear h
  go_enter Try.func32, Try.ntmps32
  go_wp2_with (first
    | (go_at_call 56; ((with_reducible refine (H1.out _ hb1).mono ?_); rintro e w1 ⟨rfl, rfl⟩))
    | (go_at_call 56; ((with_reducible refine (H2.out _ hb1).mono ?_); rintro e w1 ⟨rfl, rfl⟩)))
  go_ret
  exact ⟨rfl, ba (Below.refl _ _) _⟩
set_option maxRecDepth 100000 in
theorem check_three (h : Mem B g gb lv xs w) (ring size drv dev : Int) (s1 : 1 ≤ size) (s2 : size ≤ 32768) (k1 : fitsB xs ring (size * 16) 16 = true) (k2 : fitsB xs drv 4 4 = true) (k3 : fitsB xs dev 4 4 = false) :
    Calls Try.prog 32 #[.pointer (some ⟨g, 0, none⟩), .agg #[.int .i64 ring, .int .i64 size, .int .i64 drv, .int .i64 dev]] w fun e w' => e = .returned (.int .i64 140) ∧ Below w.heap.size w w' := by
  have hb1 := ba (Below.refl w.heap.size w) (.cells #[.int .i64 ring, .int .i64 size, .int .i64 drv, .int .i64 dev] 24)
  have v1 : IntKind.i64.wrap (size * 16) = size * 16 := by rw [IntKind.wrap_i64]; omega
  have H1 := Lib.hid (fun W (hb : Below w.heap.size w W) => by have := qfits_any (h.below hb (Nat.le_refl _)) ring (size * 16) 16 (by omega) (.inl rfl); rw [k1] at this; exact this)
  have H2 := Lib.hid (fun W (hb : Below w.heap.size w W) => by have := qfits_any (h.below hb (Nat.le_refl _)) drv (4) 4 (by omega) (.inr rfl); rw [k2] at this; exact this)
  have H3 := Lib.hid (fun W (hb : Below w.heap.size w W) => by have := qfits_any (h.below hb (Nat.le_refl _)) dev (4) 4 (by omega) (.inr rfl); rw [k3] at this; exact this)
  clear k1 k2 k3
  clear h
  go_enter Try.func32, Try.ntmps32
  go_wp2_with (first
    | (go_at_call 56; ((with_reducible refine (H1.out _ hb1).mono ?_); rintro e w1 ⟨rfl, rfl⟩))
    | (go_at_call 56; ((with_reducible refine (H2.out _ hb1).mono ?_); rintro e w1 ⟨rfl, rfl⟩))
    | (go_at_call 56; ((with_reducible refine (H3.out _ hb1).mono ?_); rintro e w1 ⟨rfl, rfl⟩)))
  go_ret
  exact ⟨rfl, ba (Below.refl _ _) _⟩
set_option maxRecDepth 100000 in
theorem check_good (h : Mem B g gb lv xs w) (ring size drv dev : Int) (s1 : 1 ≤ size) (s2 : size ≤ 32768) (k1 : fitsB xs ring (size * 16) 16 = true) (k2 : fitsB xs drv 4 4 = true) (k3 : fitsB xs dev 4 4 = true) :
    Calls Try.prog 32 #[.pointer (some ⟨g, 0, none⟩), .agg #[.int .i64 ring, .int .i64 size, .int .i64 drv, .int .i64 dev]] w fun e w' => e = .returned (.int .i64 0) ∧ Below w.heap.size w w' := by
  have hb1 := ba (Below.refl w.heap.size w) (.cells #[.int .i64 ring, .int .i64 size, .int .i64 drv, .int .i64 dev] 24)
  have v1 : IntKind.i64.wrap (size * 16) = size * 16 := by rw [IntKind.wrap_i64]; omega
  have H1 := Lib.hid (fun W (hb : Below w.heap.size w W) => by have := qfits_any (h.below hb (Nat.le_refl _)) ring (size * 16) 16 (by omega) (.inl rfl); rw [k1] at this; exact this)
  have H2 := Lib.hid (fun W (hb : Below w.heap.size w W) => by have := qfits_any (h.below hb (Nat.le_refl _)) drv (4) 4 (by omega) (.inr rfl); rw [k2] at this; exact this)
  have H3 := Lib.hid (fun W (hb : Below w.heap.size w W) => by have := qfits_any (h.below hb (Nat.le_refl _)) dev (4) 4 (by omega) (.inr rfl); rw [k3] at this; exact this)
  clear k1 k2 k3
  clear h
  go_enter Try.func32, Try.ntmps32
  go_wp2_with (first
    | (go_at_call 56; ((with_reducible refine (H1.out _ hb1).mono ?_); rintro e w1 ⟨rfl, rfl⟩))
    | (go_at_call 56; ((with_reducible refine (H2.out _ hb1).mono ?_); rintro e w1 ⟨rfl, rfl⟩))
    | (go_at_call 56; ((with_reducible refine (H3.out _ hb1).mono ?_); rintro e w1 ⟨rfl, rfl⟩)))
  go_ret
  exact ⟨rfl, ba (Below.refl _ _) _⟩
theorem check_any (h : Mem B g gb lv xs w) (ring size drv dev : Int) :
    Calls Try.prog 32 #[.pointer (some ⟨g, 0, none⟩), .agg #[.int .i64 ring, .int .i64 size, .int .i64 drv, .int .i64 dev]] w fun e w' => e = .returned (.int .i64 (layE xs ring size drv dev)) ∧ Below w.heap.size w w' := by
  unfold layE layB
  by_cases k1 : size < 1
  · rw [if_neg (by simp; omega)]; exact check_low ring size drv dev k1 w g
  by_cases k2 : 32768 < size
  · rw [if_neg (by simp; omega)]; exact check_high ring size drv dev k1 k2 w g
  rw [decide_eq_true (p := 1 ≤ size ∧ size ≤ 32768) (by omega), Bool.true_and]
  cases e1 : fitsB xs ring (size * 16) 16
  · exact check_one h ring size drv dev (by omega) (by omega) e1
  cases e2 : fitsB xs drv 4 4
  · exact check_two h ring size drv dev (by omega) (by omega) e1 e2
  cases e3 : fitsB xs dev 4 4
  · exact check_three h ring size drv dev (by omega) (by omega) e1 e2 e3
  · exact check_good h ring size drv dev (by omega) (by omega) e1 e2 e3
end
theorem lay_facts {xs : List UInt8} {ring size drv dev : Int} (h : layB xs ring size drv dev = true) :
    (1 ≤ size ∧ size ≤ 32768) ∧ (0 ≤ ring ∧ ring + size * 16 ≤ xs.length) ∧ (0 ≤ drv ∧ drv + 4 ≤ xs.length) ∧ (0 ≤ dev ∧ dev + 4 ≤ xs.length) := by
  unfold layB fitsB mayB at h
  simp only [Bool.and_eq_true, decide_eq_true_eq] at h
  omega
end Go.Proofs.Ytbpgblmhacpjlaa
