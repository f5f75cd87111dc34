/-
  fits, Check, New of the code's queue: what they answer, and what they leave.
-/
import Derived.Test.YtoblemgeacllkaaDq11
namespace Go.Proofs.Ytoblemgeacllkaa
open Go.RowKit

def fitsB (xs : List UInt8) (a n u : Int) : Bool := (a.tmod u == 0) && mayB xs a n
section
variable {B g gb : Nat} {lv : Value} {xs : List UInt8} {w : World}
theorem qfits_any (h : Mem B g gb lv xs w) (a n u : Int) (hn : n < 9223372036854775808) (hu : u = 16 ∨ u = 4) :
    Calls Try.prog 61 #[.pointer (some ⟨g, 0, none⟩), .int .i64 a, .int .i64 n, .int .i64 u] w fun e w' => e = .returned (.bool (fitsB xs a n u)) ∧ w = w' := by
  have HM := Lib.hid (may_any h a n hn)
  unfold fitsB
  cases k : (a.tmod u == 0)
  · have u0 : (u == 0) = false := by rcases hu with rfl | rfl <;> rfl
    have u1 : ¬ u = 0 := by rcases hu with rfl | rfl <;> decide
    rcases hu with rfl | rfl
    all_goals
      clear h hn u0 u1
      go_enter Try.func61, Try.ntmps61
      go_wp2_with fail
      go_ret
      exact ⟨rfl, rfl⟩
  · rcases hu with rfl | rfl
    all_goals
      clear h hn
      go_enter Try.func61, Try.ntmps61
      go_wp2_with fail
      refine HM.out.mono ?_
      rintro e w1 ⟨rfl, rfl⟩
      go_wp2_with fail
      go_ret
      exact ⟨rfl, rfl⟩
/-- may a queue lie so? -/
def layB (xs : List UInt8) (ring size drv dev : Int) : Bool :=
  decide (1 ≤ size ∧ size ≤ 32768) && (fitsB xs ring (size * 16) 16 && (fitsB xs drv 4 4 && fitsB xs dev 4 4))
def layE (xs : List UInt8) (ring size drv dev : Int) : Int := if layB xs ring size drv dev then 0 else 140
set_option maxRecDepth 100000 in
theorem check_low (ring size drv dev : Int) (k : size < 1) (w : World) (g : Nat) :
    Calls Try.prog 32 #[.pointer (some ⟨g, 0, none⟩), .agg #[.int .i64 ring, .int .i64 size, .int .i64 drv, .int .i64 dev]] w fun e w' => e = .returned (.int .i64 140) ∧ Below w.heap.size w w' := by
  go_enter Try.func32, Try.ntmps32
  go_wp2_with fail
  go_ret
  exact ⟨rfl, ba (Below.refl _ _) _⟩
set_option maxRecDepth 100000 in
theorem check_high (ring size drv dev : Int) (k0 : ¬ size < 1) (k : 32768 < size) (w : World) (g : Nat) :
    Calls Try.prog 32 #[.pointer (some ⟨g, 0, none⟩), .agg #[.int .i64 ring, .int .i64 size, .int .i64 drv, .int .i64 dev]] w fun e w' => e = .returned (.int .i64 140) ∧ Below w.heap.size w w' := by
  go_enter Try.func32, Try.ntmps32
  go_wp2_with fail
  go_ret
  exact ⟨rfl, ba (Below.refl _ _) _⟩
set_option maxRecDepth 100000 in
theorem check_one (h : Mem B g gb lv xs w) (ring size drv dev : Int) (s1 : 1 ≤ size) (s2 : size ≤ 32768) (k1 : fitsB xs ring (size * 16) 16 = false) :
    Calls Try.prog 32 #[.pointer (some ⟨g, 0, none⟩), .agg #[.int .i64 ring, .int .i64 size, .int .i64 drv, .int .i64 dev]] w fun e w' => e = .returned (.int .i64 140) ∧ Below w.heap.size w w' := by
  have hb1 := ba (Below.refl w.heap.size w) (.cells #[.int .i64 ring, .int .i64 size, .int .i64 drv, .int .i64 dev] 23)
  have v1 : IntKind.i64.wrap (size * 16) = size * 16 := by rw [IntKind.wrap_i64]; omega
  have H1 := Lib.hid (fun W (hb : Below w.heap.size w W) => by have := qfits_any (h.below hb (Nat.le_refl _)) ring (size * 16) 16 (by omega) (.inl rfl); rw [k1] at this; exact this)
  clear k1
  clear h
  go_enter Try.func32, Try.ntmps32
  go_wp2_with (first
    | (go_at_call 61; ((with_reducible refine (H1.out _ hb1).mono ?_); rintro e w1 ⟨rfl, rfl⟩)))
  go_ret
  exact ⟨rfl, ba (Below.refl _ _) _⟩
set_option maxRecDepth 100000 in
theorem check_two (h : Mem B g gb lv xs w) (ring size drv dev : Int) (s1 : 1 ≤ size) (s2 : size ≤ 32768) (k1 : fitsB xs ring (size * 16) 16 = true) (k2 : fitsB xs drv 4 4 = false) :
    Calls Try.prog 32 #[.pointer (some ⟨g, 0, none⟩), .agg #[.int .i64 ring, .int .i64 size, .int .i64 drv, .int .i64 dev]] w fun e w' => e = .returned (.int .i64 140) ∧ Below w.heap.size w w' := by
  have hb1 := ba (Below.refl w.heap.size w) (.cells #[.int .i64 ring, .int .i64 size, .int .i64 drv, .int .i64 dev] 23)
  have v1 : IntKind.i64.wrap (size * 16) = size * 16 := by rw [IntKind.wrap_i64]; omega
  have H1 := Lib.hid (fun W (hb : Below w.heap.size w W) => by have := qfits_any (h.below hb (Nat.le_refl _)) ring (size * 16) 16 (by omega) (.inl rfl); rw [k1] at this; exact this)
  have H2 := Lib.hid (fun W (hb : Below w.heap.size w W) => by have := qfits_any (h.below hb (Nat.le_refl _)) drv (4) 4 (by omega) (.inr rfl); rw [k2] at this; exact this)
  clear k1 k2
  clear h
  go_enter Try.func32, Try.ntmps32
  go_wp2_with (first
    | (go_at_call 61; ((with_reducible refine (H1.out _ hb1).mono ?_); rintro e w1 ⟨rfl, rfl⟩))
    | (go_at_call 61; ((with_reducible refine (H2.out _ hb1).mono ?_); rintro e w1 ⟨rfl, rfl⟩)))
  go_ret
  exact ⟨rfl, ba (Below.refl _ _) _⟩
set_option maxRecDepth 100000 in
theorem check_three (h : Mem B g gb lv xs w) (ring size drv dev : Int) (s1 : 1 ≤ size) (s2 : size ≤ 32768) (k1 : fitsB xs ring (size * 16) 16 = true) (k2 : fitsB xs drv 4 4 = true) (k3 : fitsB xs dev 4 4 = false) :
    Calls Try.prog 32 #[.pointer (some ⟨g, 0, none⟩), .agg #[.int .i64 ring, .int .i64 size, .int .i64 drv, .int .i64 dev]] w fun e w' => e = .returned (.int .i64 140) ∧ Below w.heap.size w w' := by
  have hb1 := ba (Below.refl w.heap.size w) (.cells #[.int .i64 ring, .int .i64 size, .int .i64 drv, .int .i64 dev] 23)
  have v1 : IntKind.i64.wrap (size * 16) = size * 16 := by rw [IntKind.wrap_i64]; omega
  have H1 := Lib.hid (fun W (hb : Below w.heap.size w W) => by have := qfits_any (h.below hb (Nat.le_refl _)) ring (size * 16) 16 (by omega) (.inl rfl); rw [k1] at this; exact this)
  have H2 := Lib.hid (fun W (hb : Below w.heap.size w W) => by have := qfits_any (h.below hb (Nat.le_refl _)) drv (4) 4 (by omega) (.inr rfl); rw [k2] at this; exact this)
  have H3 := Lib.hid (fun W (hb : Below w.heap.size w W) => by have := qfits_any (h.below hb (Nat.le_refl _)) dev (4) 4 (by omega) (.inr rfl); rw [k3] at this; exact this)
  clear k1 k2 k3
  clear h
  go_enter Try.func32, Try.ntmps32
  go_wp2_with (first
    | (go_at_call 61; ((with_reducible refine (H1.out _ hb1).mono ?_); rintro e w1 ⟨rfl, rfl⟩))
    | (go_at_call 61; ((with_reducible refine (H2.out _ hb1).mono ?_); rintro e w1 ⟨rfl, rfl⟩))
    | (go_at_call 61; ((with_reducible refine (H3.out _ hb1).mono ?_); rintro e w1 ⟨rfl, rfl⟩)))
  go_ret
  exact ⟨rfl, ba (Below.refl _ _) _⟩
set_option maxRecDepth 100000 in
theorem check_good (h : Mem B g gb lv xs w) (ring size drv dev : Int) (s1 : 1 ≤ size) (s2 : size ≤ 32768) (k1 : fitsB xs ring (size * 16) 16 = true) (k2 : fitsB xs drv 4 4 = true) (k3 : fitsB xs dev 4 4 = true) :
    Calls Try.prog 32 #[.pointer (some ⟨g, 0, none⟩), .agg #[.int .i64 ring, .int .i64 size, .int .i64 drv, .int .i64 dev]] w fun e w' => e = .returned (.int .i64 0) ∧ Below w.heap.size w w' := by
  have hb1 := ba (Below.refl w.heap.size w) (.cells #[.int .i64 ring, .int .i64 size, .int .i64 drv, .int .i64 dev] 23)
  have v1 : IntKind.i64.wrap (size * 16) = size * 16 := by rw [IntKind.wrap_i64]; omega
  have H1 := Lib.hid (fun W (hb : Below w.heap.size w W) => by have := qfits_any (h.below hb (Nat.le_refl _)) ring (size * 16) 16 (by omega) (.inl rfl); rw [k1] at this; exact this)
  have H2 := Lib.hid (fun W (hb : Below w.heap.size w W) => by have := qfits_any (h.below hb (Nat.le_refl _)) drv (4) 4 (by omega) (.inr rfl); rw [k2] at this; exact this)
  have H3 := Lib.hid (fun W (hb : Below w.heap.size w W) => by have := qfits_any (h.below hb (Nat.le_refl _)) dev (4) 4 (by omega) (.inr rfl); rw [k3] at this; exact this)
  clear k1 k2 k3
  clear h
  go_enter Try.func32, Try.ntmps32
  go_wp2_with (first
    | (go_at_call 61; ((with_reducible refine (H1.out _ hb1).mono ?_); rintro e w1 ⟨rfl, rfl⟩))
    | (go_at_call 61; ((with_reducible refine (H2.out _ hb1).mono ?_); rintro e w1 ⟨rfl, rfl⟩))
    | (go_at_call 61; ((with_reducible refine (H3.out _ hb1).mono ?_); rintro e w1 ⟨rfl, rfl⟩)))
  go_ret
  exact ⟨rfl, ba (Below.refl _ _) _⟩
theorem check_any (h : Mem B g gb lv xs w) (ring size drv dev : Int) :
    Calls Try.prog 32 #[.pointer (some ⟨g, 0, none⟩), .agg #[.int .i64 ring, .int .i64 size, .int .i64 drv, .int .i64 dev]] w fun e w' => e = .returned (.int .i64 (layE xs ring size drv dev)) ∧ Below w.heap.size w w' := by
  unfold layE layB
  by_cases k1 : size < 1
  · rw [if_neg (by simp; omega)]; exact check_low ring size drv dev k1 w g
  by_cases k2 : 32768 < size
  · rw [if_neg (by simp; omega)]; exact check_high ring size drv dev k1 k2 w g
  rw [decide_eq_true (p := 1 ≤ size ∧ size ≤ 32768) (by omega), Bool.true_and]
  cases e1 : fitsB xs ring (size * 16) 16
  · exact check_one h ring size drv dev (by omega) (by omega) e1
  cases e2 : fitsB xs drv 4 4
  · exact check_two h ring size drv dev (by omega) (by omega) e1 e2
  cases e3 : fitsB xs dev 4 4
  · exact check_three h ring size drv dev (by omega) (by omega) e1 e2 e3
  · exact check_good h ring size drv dev (by omega) (by omega) e1 e2 e3
end
/-- a queue at its beginning -/
def newQ (ring size drv dev : Int) : Qs := ⟨ring.toNat, size.toNat, drv.toNat, dev.toNat, 0, true, 0, true, 0, true, 0, 0, false⟩
theorem lay_facts {xs : List UInt8} {ring size drv dev : Int} (h : layB xs ring size drv dev = true) :
    (1 ≤ size ∧ size ≤ 32768) ∧ (0 ≤ ring ∧ ring + size * 16 ≤ xs.length) ∧ (0 ≤ drv ∧ drv + 4 ≤ xs.length) ∧ (0 ≤ dev ∧ dev + 4 ≤ xs.length) := by
  unfold layB fitsB mayB at h
  simp only [Bool.and_eq_true, decide_eq_true_eq] at h
  omega
theorem newQ_ok {xs : List UInt8} {ring size drv dev : Int} (h : layB xs ring size drv dev = true) : (newQ ring size drv dev).Ok xs.length := by
  obtain ⟨⟨a1, a2⟩, ⟨b1, b2⟩, ⟨c1, c2⟩, d1, d2⟩ := lay_facts h
  unfold newQ
  constructor <;> simp only <;> omega
set_option maxRecDepth 100000 in
set_option maxHeartbeats 1600000 in
theorem new_bad {g : Nat} (ring size drv dev E : Int) (hE : (E != 0) = true) (w : World)
    (HC : ∀ W, Below w.heap.size w W → Calls Try.prog 32 #[.pointer (some ⟨g, 0, none⟩), .agg #[.int .i64 ring, .int .i64 size, .int .i64 drv, .int .i64 dev]] W fun e w' => e = .returned (.int .i64 E) ∧ Below W.heap.size W w') :
    Calls Try.prog 35 #[.pointer (some ⟨g, 0, none⟩), .agg #[.int .i64 ring, .int .i64 size, .int .i64 drv, .int .i64 dev]] w fun e w' => e = .returned (.tuple #[.pointer none, .int .i64 E]) ∧ Below w.heap.size w w' := by
  have HC := Lib.hid HC
  have hb1 := ba (Below.refl w.heap.size w) (.cells #[.int .i64 ring, .int .i64 size, .int .i64 drv, .int .i64 dev] 23)
  have HB := Lib.hid hb1
  go_enter Try.func35, Try.ntmps35
  go_wp2_with fail
  refine (HC.out _ HB.out).mono ?_
  rintro e w1 ⟨rfl, hq⟩
  have H1 := Lib.hid (b0 HB.out hq)
  clear hq hb1
  go_wp2_with fail
  go_ret2
  exact ⟨rfl, H1.out⟩
set_option maxRecDepth 100000 in
set_option maxHeartbeats 1600000 in
theorem new_good {g : Nat} (ring size drv dev : Int) (w : World)
    (HC : ∀ W, Below w.heap.size w W → Calls Try.prog 32 #[.pointer (some ⟨g, 0, none⟩), .agg #[.int .i64 ring, .int .i64 size, .int .i64 drv, .int .i64 dev]] W fun e w' => e = .returned (.int .i64 0) ∧ Below W.heap.size W w') :
    Calls Try.prog 35 #[.pointer (some ⟨g, 0, none⟩), .agg #[.int .i64 ring, .int .i64 size, .int .i64 drv, .int .i64 dev]] w fun e w' => ∃ k, e = .returned (.tuple #[.pointer (some ⟨k, 0, none⟩), .int .i64 0]) ∧ w.heap.size ≤ k ∧
      Blk w' k 93 #[.pointer (some ⟨g, 0, none⟩), .int .i64 ring, .int .i64 size, .int .i64 drv, .int .i64 dev, .int .i64 0, .bool true, .int .i64 0, .bool true, .int .i64 0, .int .i64 0, .bool true, .int .i64 0, .bool false] ∧ Below w.heap.size w w' := by
  have HC := Lib.hid HC
  have hb1 := ba (Below.refl w.heap.size w) (.cells #[.int .i64 ring, .int .i64 size, .int .i64 drv, .int .i64 dev] 23)
  have HB := Lib.hid hb1
  have k0 := Blk.new w 23 #[.int .i64 ring, .int .i64 size, .int .i64 drv, .int .i64 dev]
  go_enter Try.func35, Try.ntmps35
  go_wp2_with fail
  refine (HC.out _ HB.out).mono ?_
  rintro e w1 ⟨rfl, hq⟩
  have H1 := Lib.hid (b0 HB.out hq)
  have k1 := k0.same (hq.block _ k0.lt)
  obtain ⟨c0, c1, c2, c3, -, -, -, -⟩ := blk4 k1
  have hl1 := k1.lt
  have hn1 := Nat.ne_of_lt hl1
  have hle := H1.out.size
  have HL := Lib.hid hle
  clear hq hb1 k0 k1 hle
  go_wp2_with fail
  go_ret2
  refine ⟨w1.heap.size + 1, rfl, by have := HL.out; omega, Sp.Blk.new2 _ _ _ _, ba (ba H1.out _) _⟩
def NewP (xs : List UInt8) (g : Nat) (ring size drv dev : Int) (w : World) (e : Ending) (w' : World) : Prop :=
  Below w.heap.size w w' ∧ if layB xs ring size drv dev then ∃ k, e = .returned (.tuple #[.pointer (some ⟨k, 0, none⟩), .int .i64 0]) ∧ w.heap.size ≤ k ∧ Blk w' k 93 ((newQ ring size drv dev).cells g)
  else e = .returned (.tuple #[.pointer none, .int .i64 140])
theorem qnew_any {B g gb : Nat} {lv : Value} {xs : List UInt8} {w : World} (h : Mem B g gb lv xs w) (ring size drv dev : Int) :
    Calls Try.prog 35 #[.pointer (some ⟨g, 0, none⟩), .agg #[.int .i64 ring, .int .i64 size, .int .i64 drv, .int .i64 dev]] w (NewP xs g ring size drv dev w) := by
  have HC := fun W (hb : Below w.heap.size w W) => check_any (h.below hb (Nat.le_refl _)) ring size drv dev
  unfold NewP
  unfold layE at HC
  cases e : layB xs ring size drv dev
  · rw [e] at HC
    exact (new_bad ring size drv dev 140 rfl w HC).mono fun _ _ ⟨h1, h2⟩ => ⟨h2, h1⟩
  · rw [e] at HC
    refine (new_good ring size drv dev w HC).mono fun _ _ ⟨k, h1, h2, h3, h4⟩ => ⟨h4, ?_⟩
    rw [if_pos rfl]
    refine ⟨k, h1, h2, ?_⟩
    obtain ⟨⟨a1, a2⟩, ⟨b1, b2⟩, ⟨c1, c2⟩, d1, d2⟩ := lay_facts e
    have e1 : ((ring.toNat : Nat) : Int) = ring := by omega
    have e2 : ((size.toNat : Nat) : Int) = size := by omega
    have e3 : ((drv.toNat : Nat) : Int) = drv := by omega
    have e4 : ((dev.toNat : Nat) : Int) = dev := by omega
    unfold newQ Qs.cells
    simp only [e1, e2, e3, e4]
    exact h3
end Go.Proofs.Ytoblemgeacllkaa
