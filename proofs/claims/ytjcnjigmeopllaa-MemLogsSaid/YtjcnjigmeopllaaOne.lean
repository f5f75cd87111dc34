/-
  gmem's calls on one memory of the call's own; the calls whose answers the document fixes are answered so; no condition.
-/
import Derived.Test.YtjcnjigmeopllaaLog
namespace Go.Proofs.Ytjcnjigmeopllaa
open Go.RowKit

section
variable {w0 w : World} {g : Nat} {xs : List UInt8} {ag : Int} {lg : List Acc}
theorem M.noted {gb : Nat} {lv : Value} {xs' : List UInt8} {lg' : List Acc} {w' : World} (hm : Mem w0.heap.size g gb lv xs ag lg w) (hb : Below w0.heap.size w0 w) (h : Noted w0.heap.size g gb lv xs' ag lg' w w') : M w0 g xs' ag lg' w' := by
  obtain ⟨lv1, hM, hT, _⟩ := h
  exact ⟨gb, lv1, hM, hb.trans (Touch.under hm hT)⟩
theorem M.len (h : M w0 g xs ag lg w) : xs.length ≤ 1048576 := by obtain ⟨gb, lv, hm, hb⟩ := h; exact hm.len
theorem one_size (h : M w0 g xs ag lg w) : Calls Try.prog 12 #[.pointer (some ⟨g, 0, none⟩)] w fun e w' => e = .returned (.int .i64 xs.length) ∧ w = w' := by
  obtain ⟨gb, lv, hm, hb⟩ := h; exact size_m hm
theorem one_image (h : M w0 g xs ag lg w) : Calls Try.prog 13 #[.pointer (some ⟨g, 0, none⟩)] w fun e w' => e = .returned (.string ⟨xs.toArray⟩) ∧ w = w' := by
  obtain ⟨gb, lv, hm, hb⟩ := h; exact image_m hm
theorem one_may (h : M w0 g xs ag lg w) (a n : Int) (h0 : 0 ≤ n) (h1 : 0 ≤ a) (h2 : a + n ≤ xs.length) :
    Calls Try.prog 21 #[.pointer (some ⟨g, 0, none⟩), .int .i64 a, .int .i64 n] w fun e w' => e = .returned (.bool true) ∧ w = w' := by
  obtain ⟨gb, lv, hm, hb⟩ := h; exact may_yes hm a n h0 h1 h2
theorem one_may_no (h : M w0 g xs ag lg w) (a n : Int) (hn : n < 9223372036854775808) (hno : ¬ (0 ≤ n ∧ 0 ≤ a ∧ a + n ≤ xs.length)) :
    Calls Try.prog 21 #[.pointer (some ⟨g, 0, none⟩), .int .i64 a, .int .i64 n] w fun e w' => e = .returned (.bool false) ∧ w = w' := by
  obtain ⟨gb, lv, hm, hb⟩ := h; exact may_no hm a n hn hno
theorem one_as (h : M w0 g xs ag lg w) (n : Int) : Calls Try.prog 20 #[.pointer (some ⟨g, 0, none⟩), .int .i64 n] w fun e w' => e = .returned (.tuple #[]) ∧ M w0 g xs n lg w' := by
  obtain ⟨gb, lv, hm, hb⟩ := h
  exact (as_m hm n).mono fun e w' ⟨he, h1, h2⟩ => ⟨he, gb, lv, h1, hb.trans (Touch.under hm h2)⟩
theorem one_read (h : M w0 g xs ag lg w) (a n : Nat) (hl : lg.length < 4096) (hn : a + n ≤ xs.length) :
    Calls Try.prog 16 #[.pointer (some ⟨g, 0, none⟩), .int .i64 a, .int .i64 n] w fun e w' =>
      e = .returned (.tuple #[.string ⟨((xs.drop a).take n).toArray⟩, .int .i64 0]) ∧ M w0 g xs ag (note lg ⟨ag, a, n, false⟩) w' := by
  obtain ⟨gb, lv, hm, hb⟩ := h
  exact (read_ok hm a n hl hn).mono fun e w' ⟨he, hN⟩ => ⟨he, M.noted hm hb hN⟩
theorem one_write (h : M w0 g xs ag lg w) (a : Nat) (s : ByteArray) (hl : lg.length < 4096) (hn : a + s.size ≤ xs.length) :
    Calls Try.prog 14 #[.pointer (some ⟨g, 0, none⟩), .int .i64 a, .string s] w fun e w' =>
      e = .returned (.int .i64 0) ∧ M w0 g (over xs a s) ag (note lg ⟨ag, a, s.size, true⟩) w' := by
  obtain ⟨gb, lv, hm, hb⟩ := h
  exact (write_ok hm a s hl hn).mono fun e w' ⟨he, hN⟩ => ⟨he, M.noted hm hb hN⟩
theorem one_write_at (h : M w0 g xs ag lg w) (a : Int) (s : ByteArray) (hs : s.size ≤ maxLen) (hno : ¬ (0 ≤ (s.size : Int) ∧ 0 ≤ a ∧ a + s.size ≤ xs.length)) :
    Calls Try.prog 14 #[.pointer (some ⟨g, 0, none⟩), .int .i64 a, .string s] w fun e w' => e = .returned (.int .i64 41) ∧ w = w' := by
  obtain ⟨gb, lv, hm, hb⟩ := h; exact write_at hm a s hs hno
theorem one_load (h : M w0 g xs ag lg w) (a n : Nat) (hl : lg.length < 4096) (hw : Word n) (hn : a + n ≤ xs.length) :
    Calls Try.prog 19 #[.pointer (some ⟨g, 0, none⟩), .int .i64 a, .int .i64 n] w fun e w' =>
      e = .returned (.tuple #[.int .u64 (val ((xs.drop a).take n)), .int .i64 0]) ∧ M w0 g xs ag (note lg ⟨ag, a, n, false⟩) w' := by
  obtain ⟨gb, lv, hm, hb⟩ := h
  exact (load_ok hm a n hl hw hn).mono fun e w' ⟨he, hN⟩ => ⟨he, M.noted hm hb hN⟩
theorem one_load_at (h : M w0 g xs ag lg w) (a : Int) (n : Nat) (hw : Word n) (hno : ¬ (0 ≤ (n : Int) ∧ 0 ≤ a ∧ a + n ≤ xs.length)) :
    Calls Try.prog 19 #[.pointer (some ⟨g, 0, none⟩), .int .i64 a, .int .i64 n] w fun e w' => e = .returned (.tuple #[.int .u64 0, .int .i64 41]) ∧ w = w' := by
  obtain ⟨gb, lv, hm, hb⟩ := h; exact load_at hm a n hw hno
theorem one_store (h : M w0 g xs ag lg w) (a n v : Nat) (hl : lg.length < 4096) (hw : Word n) (hv : v < 256 ^ n) (hn : a + n ≤ xs.length) :
    Calls Try.prog 18 #[.pointer (some ⟨g, 0, none⟩), .int .i64 a, .int .i64 n, .int .u64 v] w fun e w' =>
      e = .returned (.int .i64 0) ∧ M w0 g (over xs a (numS v n)) ag (note lg ⟨ag, a, n, true⟩) w' := by
  obtain ⟨gb, lv, hm, hb⟩ := h
  exact (store_ok hm a n v hl hw hv hn).mono fun e w' ⟨he, hN⟩ => ⟨he, M.noted hm hb hN⟩
theorem one_store_at (h : M w0 g xs ag lg w) (a : Int) (n v : Nat) (hw : Word n) (hv : v < 256 ^ n) (hno : ¬ (0 ≤ (n : Int) ∧ 0 ≤ a ∧ a + n ≤ xs.length)) :
    Calls Try.prog 18 #[.pointer (some ⟨g, 0, none⟩), .int .i64 a, .int .i64 n, .int .u64 v] w fun e w' => e = .returned (.int .i64 41) ∧ M w0 g xs ag lg w' := by
  have h' := h
  obtain ⟨gb, lv, hm, hb⟩ := h
  exact (store_at hm a n v hw hv hno).mono fun e w' ⟨he, hN⟩ => ⟨he, h'.below hN⟩
/-- what Log tells, and leaves -/
def Tells (w0 : World) (g : Nat) (xs : List UInt8) (ag : Int) (lg : List Acc) (w : World) (e : Ending) (w' : World) : Prop :=
  ∃ A cap, e = .returned (.slice A lg.length cap) ∧ LogAt A lg w' ∧ M w0 g xs ag [] w' ∧ w.heap.size ≤ w'.heap.size
theorem one_log (h : M w0 g xs ag lg w) (hl : lg.length ≤ 4096) : Calls Try.prog 15 #[.pointer (some ⟨g, 0, none⟩)] w (Tells w0 g xs ag lg w) := by
  obtain ⟨gb, lv, hm, hb⟩ := h
  exact (log_m hm hl).mono fun e w' ⟨A, cap, he, ho, hM, hT⟩ => ⟨A, cap, he, LogAt.of_own ho, ⟨gb, _, hM, hb.trans (Touch.under hm hT)⟩, hT.size⟩
end

/-- two accesses held against those that are written out -/
theorem same_two (x y : Acc) (A : Option Addr) (cap : Nat) (w : World) (h : LogAt A [x, y] w) :
    Calls Try.prog 17 #[.slice A 2 cap, .slice (some ⟨w.heap.size, 0, none⟩) 2 2] (w.alloc (.cells #[.int .i64 x.ag, .int .i64 x.at_, .int .i64 x.n, .bool x.wr, .int .i64 y.ag, .int .i64 y.at_, .int .i64 y.n, .bool y.wr] 44))
      fun e w' => e = .returned (.bool true) ∧ Below w.heap.size w w' := by
  have hb : Below w.heap.size w (w.alloc (.cells #[.int .i64 x.ag, .int .i64 x.at_, .int .i64 x.n, .bool x.wr, .int .i64 y.ag, .int .i64 y.at_, .int .i64 y.n, .bool y.wr] 44)) := (Below.refl _ _).alloc (Nat.le_refl _) _
  refine (same_yes [x, y] A (some ⟨w.heap.size, 0, none⟩) cap 2 _ (by simp) (h.below hb) (LogAt.of_blk (Blk.new _ _ _) rfl)).mono fun e w' ⟨he, hw⟩ => ⟨he, hb.trans (hw.mono (by simp))⟩

theorem fx1 : ((over (List.replicate 64 0) 0 (numS 4660 2)).drop 0).take 2 = [52, 18] := by decide +kernel
theorem fx2 : (over (List.replicate 64 0) 0 (numS 4660 2)).length = 64 := by decide +kernel
set_option maxRecDepth 100000 in
set_option maxHeartbeats 2000000 in
theorem fixed_any (w : World) : Calls Try.prog 11 #[] w fun e w' => e = .returned (.bool true) ∧ Below w.heap.size w w' := by
  have n1 : ∀ w, Calls Try.prog 9 #[.int .i64 64] w fun e w' => ∃ g, e = .returned (.tuple #[.pointer (some ⟨g, 0, none⟩), .int .i64 0]) ∧ M w g (List.replicate 64 0) 0 [] w' := fun w => new_ok 64 w (by omega) (by omega)
  obtain ⟨X, eX⟩ : ∃ X, X = List.replicate 64 (0 : UInt8) := ⟨_, rfl⟩
  obtain ⟨Y, eY⟩ : ∃ Y, Y = over X 0 (numS 4660 2) := ⟨_, rfl⟩
  rw [← eX] at n1
  have hX : X.length = 64 := by simp [eX]
  have hY : Y.length = 64 := by rw [eY, eX]; exact fx2
  have hY2 : (Y.drop 0).take 2 = [52, 18] := by rw [eY, eX]; exact fx1
  have s1 : ∀ g w1, M w g X 0 [] w1 → Calls Try.prog 18 #[.pointer (some ⟨g, 0, none⟩), .int .i64 0, .int .i64 2, .int .u64 4660] w1 fun e w' => e = .returned (.int .i64 0) ∧ M w g Y 0 [⟨0, 0, 2, true⟩] w' := fun g w1 h => by
    rw [eY]; exact one_store h 0 2 4660 (by simp) (.inr (.inl rfl)) (by decide) (by omega)
  have r1 : ∀ g w1, M w g Y 0 [⟨0, 0, 2, true⟩] w1 → Calls Try.prog 16 #[.pointer (some ⟨g, 0, none⟩), .int .i64 0, .int .i64 2] w1 fun e w' => e = .returned (.tuple #[.string ⟨#[52, 18]⟩, .int .i64 0]) ∧ M w g Y 0 [⟨0, 0, 2, true⟩, ⟨0, 0, 2, false⟩] w' := fun g w1 h => by
    have := one_read h 0 2 (by simp) (by omega)
    rw [hY2] at this; exact this
  have l1 : ∀ g w1 lg, M w g Y 0 lg w1 → Calls Try.prog 19 #[.pointer (some ⟨g, 0, none⟩), .int .i64 63, .int .i64 2] w1 fun e w' => e = .returned (.tuple #[.int .u64 0, .int .i64 41]) ∧ w1 = w' := fun g w1 lg h => one_load_at h 63 2 (.inr (.inl rfl)) (by rw [hY]; omega)
  have l2 : ∀ g w1, Calls Try.prog 19 #[.pointer (some ⟨g, 0, none⟩), .int .i64 0, .int .i64 3] w1 fun e w' => e = .returned (.tuple #[.int .u64 0, .int .i64 1]) ∧ w1 = w' := fun g w1 => load_word 0 3 w1 (by omega)
  have s2 : ∀ g w1, Calls Try.prog 18 #[.pointer (some ⟨g, 0, none⟩), .int .i64 0, .int .i64 1, .int .u64 256] w1 fun e w' => e = .returned (.int .i64 1) ∧ w1 = w' := fun g w1 => store_great 0 1 256 w1 (.inl rfl) (by omega) (by decide)
  have r2 : ∀ g w1, Calls Try.prog 16 #[.pointer (some ⟨g, 0, none⟩), .int .i64 0, .int .i64 (-1)] w1 fun e w' => e = .returned (.tuple #[.string ⟨#[]⟩, .int .i64 1]) ∧ w1 = w' := fun g w1 => read_neg 0 (-1) (by omega)
  have o1 : ∀ g w1, M w g Y 0 [⟨0, 0, 2, true⟩, ⟨0, 0, 2, false⟩] w1 → Calls Try.prog 15 #[.pointer (some ⟨g, 0, none⟩)] w1 (Tells w g Y 0 [⟨0, 0, 2, true⟩, ⟨0, 0, 2, false⟩] w1) := fun g w1 h => one_log h (by simp)
  have o2 : ∀ g w1, M w g Y 0 [] w1 → Calls Try.prog 15 #[.pointer (some ⟨g, 0, none⟩)] w1 (Tells w g Y 0 [] w1) := fun g w1 h => one_log h (by simp)
  have m1 : ∀ g w1 lg, M w g Y 0 lg w1 → Calls Try.prog 21 #[.pointer (some ⟨g, 0, none⟩), .int .i64 64, .int .i64 0] w1 fun e w' => e = .returned (.bool true) ∧ w1 = w' := fun g w1 lg h => one_may h 64 0 (by omega) (by omega) (by omega)
  have m2 : ∀ g w1 lg, M w g Y 0 lg w1 → Calls Try.prog 21 #[.pointer (some ⟨g, 0, none⟩), .int .i64 64, .int .i64 1] w1 fun e w' => e = .returned (.bool false) ∧ w1 = w' := fun g w1 lg h => one_may_no h 64 1 (by omega) (by rw [hY]; omega)
  have z1 : ∀ g w1 lg, M w g Y 0 lg w1 → Calls Try.prog 12 #[.pointer (some ⟨g, 0, none⟩)] w1 fun e w' => e = .returned (.int .i64 64) ∧ w1 = w' := fun g w1 lg h => by
    have := one_size h
    rw [hY] at this; exact this
  have N1 := Lib.hid n1
  have S1 := Lib.hid s1
  have R1 := Lib.hid r1
  have L1 := Lib.hid l1
  have L2 := Lib.hid l2
  have S2 := Lib.hid s2
  have R2 := Lib.hid r2
  have O1 := Lib.hid o1
  have O2 := Lib.hid o2
  have M1 := Lib.hid m1
  have M2 := Lib.hid m2
  have Z1 := Lib.hid z1
  clear n1 s1 r1 l1 l2 s2 r2 o1 o2 m1 m2 z1 eX eY hX hY hY2
  go_enter Try.func11, Try.ntmps11
  go_wp2_with (first
    | (go_at_call 9; ((with_reducible refine (N1.out _).mono ?_); rintro e w1 ⟨g, rfl, hM⟩))
    | (go_at_call 9; ((with_reducible refine (new_bad 63 _ (.inl (by omega))).mono ?_); rintro e w2 ⟨rfl, rfl⟩))
    | (go_at_call 18; ((with_reducible refine (S1.out _ _ hM).mono ?_); rintro e w2 ⟨rfl, hM1⟩; clear hM))
    | (go_at_call 16; ((with_reducible refine (R1.out _ _ hM1).mono ?_); rintro e w2 ⟨rfl, hM2⟩; clear hM1))
    | (go_at_call 19; ((with_reducible refine (L1.out _ _ _ hM2).mono ?_); rintro e w2 ⟨rfl, rfl⟩))
    | (go_at_call 19; ((with_reducible refine (L2.out _ _).mono ?_); rintro e w2 ⟨rfl, rfl⟩))
    | (go_at_call 18; ((with_reducible refine (S2.out _ _).mono ?_); rintro e w2 ⟨rfl, rfl⟩))
    | (go_at_call 16; ((with_reducible refine (R2.out _ _).mono ?_); rintro e w2 ⟨rfl, rfl⟩))
    | (go_at_call 15; ((with_reducible refine (O1.out _ _ hM2).mono ?_); rintro e w3 ⟨A, cap, rfl, hA, hM3, _⟩; clear hM2; have HA := Lib.hid (same_two _ _ A cap w3 hA); clear hA))
    | (go_at_call 17; ((with_reducible refine HA.out.mono ?_); rintro e w4 ⟨rfl, hq⟩; have hM4 := hM3.below hq; clear hM3 hq HA))
    | (go_at_call 15; ((with_reducible refine (O2.out _ _ hM4).mono ?_); rintro e w5 ⟨A2, cap2, rfl, _, hM5, _⟩; clear hM4))
    | (go_at_call 21; ((with_reducible refine (M1.out _ _ _ hM5).mono ?_); rintro e w6 ⟨rfl, rfl⟩))
    | (go_at_call 21; ((with_reducible refine (M2.out _ _ _ hM5).mono ?_); rintro e w6 ⟨rfl, rfl⟩))
    | (go_at_call 12; ((with_reducible refine (Z1.out _ _ _ hM5).mono ?_); rintro e w6 ⟨rfl, rfl⟩)))
  go_ret
  exact ⟨rfl, hM5.under⟩
end Go.Proofs.Ytjcnjigmeopllaa
