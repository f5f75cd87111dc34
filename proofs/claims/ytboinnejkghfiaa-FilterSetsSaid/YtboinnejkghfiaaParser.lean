/-
  What the document's own Parse answers, for every string.
-/
import Derived.Test.YtboinnejkghfiaaForm
import Derived.Deep.RegionHeld3
namespace Go.Proofs.Ytboinnejkghfiaa
open Go.RowKit

theorem Blk.drewN {w : World} {g : Nat} {t : TypeId} {cs : Array Value} (h : Blk w g t cs) (n : Nat) : Blk (w.drewN n) g t cs := h
theorem Blk.new' (w : World) {g : Nat} (t : TypeId) (cs : Array Value) (hg : g = w.heap.size) : Blk (w.alloc (.cells cs t)) g t cs := hg ▸ Blk.new w t cs
theorem one_A (w : World) (k m : Nat) (F : Array Value) : Blk ((((w.alloc (.cells #[.string ⟨#[]⟩, .string ⟨#[]⟩, .int .i64 0, .int .i64 0, .int .i64 0, .string ⟨#[]⟩] 49)).drewN k).alloc (.cells F 49)).drewN m) w.heap.size 49 (ethC ⟨#[]⟩ ⟨#[]⟩ 0 0 0 ⟨#[]⟩) :=
  (((Blk.new w 49 (ethC ⟨#[]⟩ ⟨#[]⟩ 0 0 0 ⟨#[]⟩)).drewN k).alloc (.cells F 49)).drewN m
theorem one_F (w : World) (k m : Nat) (d r : ByteArray) (v p t : Int) (b : ByteArray) : Blk ((((w.alloc (.cells #[.string ⟨#[]⟩, .string ⟨#[]⟩, .int .i64 0, .int .i64 0, .int .i64 0, .string ⟨#[]⟩] 49)).drewN k).alloc (.cells #[.string d, .string r, .int .i64 v, .int .i64 p, .int .i64 t, .string b] 49)).drewN m) (w.heap.size + 1) 49 (ethC d r v p t b) :=
  (Blk.new' ((w.alloc (.cells #[.string ⟨#[]⟩, .string ⟨#[]⟩, .int .i64 0, .int .i64 0, .int .i64 0, .string ⟨#[]⟩] 49)).drewN k) (g := w.heap.size + 1) 49 (ethC d r v p t b) (by simp)).drewN m
theorem two_A (w : World) (k m : Nat) (d r : ByteArray) (v p t : Int) (b : ByteArray) : Blk ((((((((((w.alloc (.cells #[.string ⟨#[]⟩, .string ⟨#[]⟩, .int .i64 0, .int .i64 0, .int .i64 0, .string ⟨#[]⟩] 49)).alloc (.cells #[.string ⟨#[]⟩, .string ⟨#[]⟩, .int .i64 0, .int .i64 0, .int .i64 0, .string ⟨#[]⟩] 49)).drewN k).setCell ⟨w.heap.size + 1, 0, none⟩ (.string d)).setCell ⟨w.heap.size + 1, 1, none⟩ (.string r)).setCell ⟨w.heap.size + 1, 2, none⟩ (.int .i64 v)).setCell ⟨w.heap.size + 1, 3, none⟩ (.int .i64 p)).setCell ⟨w.heap.size + 1, 4, none⟩ (.int .i64 t)).setCell ⟨w.heap.size + 1, 5, none⟩ (.string b)).drewN m) w.heap.size 49 (ethC ⟨#[]⟩ ⟨#[]⟩ 0 0 0 ⟨#[]⟩) :=
  (((((((((Blk.new w 49 (ethC ⟨#[]⟩ ⟨#[]⟩ 0 0 0 ⟨#[]⟩)).alloc (.cells #[.string ⟨#[]⟩, .string ⟨#[]⟩, .int .i64 0, .int .i64 0, .int .i64 0, .string ⟨#[]⟩] 49)).drewN k).other (by omega) 0 _).other (by omega) 1 _).other (by omega) 2 _).other (by omega) 3 _).other (by omega) 4 _).other (by omega) 5 _).drewN m
theorem two_F (w : World) (k m : Nat) (d r : ByteArray) (v p t : Int) (b : ByteArray) : Blk ((((((((((w.alloc (.cells #[.string ⟨#[]⟩, .string ⟨#[]⟩, .int .i64 0, .int .i64 0, .int .i64 0, .string ⟨#[]⟩] 49)).alloc (.cells #[.string ⟨#[]⟩, .string ⟨#[]⟩, .int .i64 0, .int .i64 0, .int .i64 0, .string ⟨#[]⟩] 49)).drewN k).setCell ⟨w.heap.size + 1, 0, none⟩ (.string d)).setCell ⟨w.heap.size + 1, 1, none⟩ (.string r)).setCell ⟨w.heap.size + 1, 2, none⟩ (.int .i64 v)).setCell ⟨w.heap.size + 1, 3, none⟩ (.int .i64 p)).setCell ⟨w.heap.size + 1, 4, none⟩ (.int .i64 t)).setCell ⟨w.heap.size + 1, 5, none⟩ (.string b)).drewN m) (w.heap.size + 1) 49 (ethC d r v p t b) := by
  have h0 : Blk ((w.alloc (.cells #[.string ⟨#[]⟩, .string ⟨#[]⟩, .int .i64 0, .int .i64 0, .int .i64 0, .string ⟨#[]⟩] 49)).alloc (.cells #[.string ⟨#[]⟩, .string ⟨#[]⟩, .int .i64 0, .int .i64 0, .int .i64 0, .string ⟨#[]⟩] 49)) (w.heap.size + 1) 49 (ethC ⟨#[]⟩ ⟨#[]⟩ 0 0 0 ⟨#[]⟩) := Blk.new' _ 49 _ (by simp)
  exact (((((((h0.drewN k).put 0 (.string d)).put 1 (.string r)).put 2 (.int .i64 v)).put 3 (.int .i64 p)).put 4 (.int .i64 t)).put 5 (.string b)).drewN m
theorem cut_world {c : Code} {Q : Exit → Act → World → Prop} {a : Act} {W : World} (w0 : World) (F : Array Value) (hA : Blk W w0.heap.size 49 (ethC ⟨#[]⟩ ⟨#[]⟩ 0 0 0 ⟨#[]⟩)) (hF : Blk W (w0.heap.size + 1) 49 F) (hB : Below w0.heap.size w0 W)
    (h : ∀ W', Blk W' w0.heap.size 49 (ethC ⟨#[]⟩ ⟨#[]⟩ 0 0 0 ⟨#[]⟩) → Blk W' (w0.heap.size + 1) 49 F → Below w0.heap.size w0 W' → c.wp Try.prog Q a W') : c.wp Try.prog Q a W := h W hA hF hB

set_option maxHeartbeats 1600000 in
theorem refParse_plain_true (s : ByteArray) (w : World) (h : 14 ≤ s.size) (hs : s.size ≤ 1518) (ht : ((num s 12 : Int) == 33024) = false) (hk : kindB (num s 12) = true) :
    Calls Try.prog 30 #[.string s] w fun e w' => e = .returned (.tuple #[.agg (ethC (s.extract 0 6) (s.extract 6 12) (-1) 0 (num s 12) (tail s 14)), .int .i64 0]) ∧ Below w.heap.size w w' := by
  have N : ∀ W, Calls Try.prog 42 #[.string s, .int .i64 12] W fun e w' => e = .returned (.int .i64 (num s 12)) ∧ ∃ n, w' = W.drewN n := fun W => num_any s 12 W (by omega) hs
  have HN := Lib.hid N
  have K := fun W => kind_any (num s 12) W
  rw [hk] at K
  have HK := Lib.hid K
  clear N K hk
  unfold tail
  go_enter Try.func30, Try.ntmps30
  go_wp2_with fail
  have i1 : (6 : Int) ≤ s.size := by omega
  have i2 : (12 : Int) ≤ s.size := by omega
  have i3 : (14 : Int) ≤ s.size := by omega
  have i4 : 6 ≤ s.size := by omega
  have i5 : 12 ≤ s.size := by omega
  have i6 : ¬ (s.size : Int) < 6 := by omega
  have i7 : ¬ (s.size : Int) < 12 := by omega
  have i8 : ¬ (s.size : Int) < 14 := by omega
  go_region_held3 (fun w' => Below w.heap.size w w') (with_reducible (repeat' (first | assumption | exact Below.refl _ _ | refine below_drewN ?_ _ | refine Below.drew ?_ | refine Below.alloc ?_ (by simp) _ | refine Below.setCell ?_ (by simp) _)))
    (first | (go_at_call 42; refine (HN.out _).mono ?_; rintro e w' ⟨rfl, n, rfl⟩))
  all_goals
    rename_i hH
    clear i1 i2 i3 i4 i5 i6 i7 i8
    go_wp2_with (go_at_call 43; (with_reducible refine (HK.out _).mono ?_); rintro e w' ⟨rfl, rfl⟩)
    refine bodyPost_ret (v := .tuple #[.agg (ethC (s.extract 0 6) (s.extract 6 12) (-1) 0 (num s 12) (s.extract 14 s.size)), .int .i64 0]) (by simp [results, Try.results30, go_sem, ethC]) rfl ⟨rfl, ?_⟩
    (with_reducible (repeat' (first | exact Below.refl _ _ | refine below_drewN ?_ _ | refine Below.drew ?_ | refine Below.alloc ?_ (by first | (simp; done) | (simp; omega)) _ | refine Below.setCell ?_ (by first | (simp; done) | (simp; omega)) _)))
set_option maxHeartbeats 1600000 in
theorem refParse_plain_false (s : ByteArray) (w : World) (h : 14 ≤ s.size) (hs : s.size ≤ 1518) (ht : ((num s 12 : Int) == 33024) = false) (hk : kindB (num s 12) = false) :
    Calls Try.prog 30 #[.string s] w fun e w' => e = .returned (.tuple #[.agg (ethC ⟨#[]⟩ ⟨#[]⟩ 0 0 0 ⟨#[]⟩), .int .i64 61]) ∧ Below w.heap.size w w' := by
  have N : ∀ W, Calls Try.prog 42 #[.string s, .int .i64 12] W fun e w' => e = .returned (.int .i64 (num s 12)) ∧ ∃ n, w' = W.drewN n := fun W => num_any s 12 W (by omega) hs
  have HN := Lib.hid N
  have K := fun W => kind_any (num s 12) W
  rw [hk] at K
  have HK := Lib.hid K
  clear N K hk
  go_enter Try.func30, Try.ntmps30
  go_wp2_with fail
  have i1 : (6 : Int) ≤ s.size := by omega
  have i2 : (12 : Int) ≤ s.size := by omega
  have i3 : (14 : Int) ≤ s.size := by omega
  have i4 : 6 ≤ s.size := by omega
  have i5 : 12 ≤ s.size := by omega
  have i6 : ¬ (s.size : Int) < 6 := by omega
  have i7 : ¬ (s.size : Int) < 12 := by omega
  have i8 : ¬ (s.size : Int) < 14 := by omega
  go_region_held3 (fun w' => Below w.heap.size w w') (with_reducible (repeat' (first | assumption | exact Below.refl _ _ | refine below_drewN ?_ _ | refine Below.drew ?_ | refine Below.alloc ?_ (by simp) _ | refine Below.setCell ?_ (by simp) _)))
    (first | (go_at_call 42; refine (HN.out _).mono ?_; rintro e w' ⟨rfl, n, rfl⟩))
  all_goals
    rename_i hH
    clear i1 i2 i3 i4 i5 i6 i7 i8
    go_wp2_with (go_at_call 43; (with_reducible refine (HK.out _).mono ?_); rintro e w' ⟨rfl, rfl⟩)
    refine bodyPost_ret (v := .tuple #[.agg (ethC ⟨#[]⟩ ⟨#[]⟩ 0 0 0 ⟨#[]⟩), .int .i64 61]) (by simp [results, Try.results30, go_sem, ethC]) rfl ⟨rfl, ?_⟩
    (with_reducible (repeat' (first | exact Below.refl _ _ | refine below_drewN ?_ _ | refine Below.drew ?_ | refine Below.alloc ?_ (by first | (simp; done) | (simp; omega)) _ | refine Below.setCell ?_ (by first | (simp; done) | (simp; omega)) _)))
set_option maxRecDepth 100000 in
set_option maxHeartbeats 3200000 in
theorem refParse_short (s : ByteArray) (w : World) (h : 14 ≤ s.size) (hs : s.size ≤ 1518) (ht : ((num s 12 : Int) == 33024) = true) (h1 : s.size < 18) :
    Calls Try.prog 30 #[.string s] w fun e w' => e = .returned (.tuple #[.agg (ethC ⟨#[]⟩ ⟨#[]⟩ 0 0 0 ⟨#[]⟩), .int .i64 60]) ∧ Below w.heap.size w w' := by
  have N : ∀ W, Calls Try.prog 42 #[.string s, .int .i64 12] W fun e w' => e = .returned (.int .i64 (num s 12)) ∧ ∃ n, w' = W.drewN n := fun W => num_any s 12 W (by omega) hs
  have HN := Lib.hid N
  clear N
  go_enter Try.func30, Try.ntmps30
  go_wp2_with fail
  have i1 : (6 : Int) ≤ s.size := by omega
  have i2 : (12 : Int) ≤ s.size := by omega
  have i3 : (14 : Int) ≤ s.size := by omega
  have i4 : 6 ≤ s.size := by omega
  have i5 : 12 ≤ s.size := by omega
  have i6 : ¬ (s.size : Int) < 6 := by omega
  have i7 : ¬ (s.size : Int) < 12 := by omega
  have i8 : ¬ (s.size : Int) < 14 := by omega
  go_region_held3 (fun w' => Below w.heap.size w w') (with_reducible (repeat' (first | assumption | exact Below.refl _ _ | refine below_drewN ?_ _ | refine Below.drew ?_ | refine Below.alloc ?_ (by simp) _ | refine Below.setCell ?_ (by simp) _)))
    (first | (go_at_call 42; refine (HN.out _).mono ?_; rintro e w' ⟨rfl, n, rfl⟩))
  all_goals
    rename_i hH
    clear i1 i2 i3 i4 i5 i6 i7 i8
    go_wp2_with fail
    refine bodyPost_ret (v := .tuple #[.agg (ethC ⟨#[]⟩ ⟨#[]⟩ 0 0 0 ⟨#[]⟩), .int .i64 60]) (by simp [results, Try.results30, go_sem, ethC]) rfl ⟨rfl, ?_⟩
    (with_reducible (repeat' (first | exact Below.refl _ _ | refine below_drewN ?_ _ | refine Below.drew ?_ | refine Below.alloc ?_ (by first | (simp; done) | (simp; omega)) _ | refine Below.setCell ?_ (by first | (simp; done) | (simp; omega)) _)))
set_option maxRecDepth 100000 in
set_option maxHeartbeats 3200000 in
theorem refParse_tag_good (s : ByteArray) (w : World) (h : 14 ≤ s.size) (hs : s.size ≤ 1518) (ht : ((num s 12 : Int) == 33024) = true) (h1 : 18 ≤ s.size) (b1 : ((num s 14 : Int) / 4096 % 2 == 1) = false) (b2 : ((num s 14 : Int) % 4096 == 4095) = false) (hk : kindB (num s 16) = true) :
    Calls Try.prog 30 #[.string s] w fun e w' => e = .returned (.tuple #[.agg (ethC (s.extract 0 6) (s.extract 6 12) ((num s 14 : Int) % 4096) ((num s 14 : Int) / 8192) (num s 16) (s.extract 18 s.size)), .int .i64 0]) ∧ Below w.heap.size w w' := by
  have N : ∀ W, Calls Try.prog 42 #[.string s, .int .i64 12] W fun e w' => e = .returned (.int .i64 (num s 12)) ∧ ∃ n, w' = W.drewN n := fun W => num_any s 12 W (by omega) hs
  have HN := Lib.hid N
  clear N
  have N : ∀ W, Calls Try.prog 42 #[.string s, .int .i64 14] W fun e w' => e = .returned (.int .i64 (num s 14)) ∧ ∃ n, w' = W.drewN n := fun W => num_any s 14 W (by omega) hs
  have HN2 := Lib.hid N
  clear N
  have N : ∀ W, Calls Try.prog 42 #[.string s, .int .i64 16] W fun e w' => e = .returned (.int .i64 (num s 16)) ∧ ∃ n, w' = W.drewN n := fun W => num_any s 16 W (by omega) hs
  have HN3 := Lib.hid N
  clear N
  have hlt := num_lt s 14
  have K := fun W => kind_any (num s 16) W
  rw [hk] at K
  have HK := Lib.hid K
  clear K hk
  go_enter Try.func30, Try.ntmps30
  go_wp2_with fail
  have i1 : (6 : Int) ≤ s.size := by omega
  have i2 : (12 : Int) ≤ s.size := by omega
  have i3 : (14 : Int) ≤ s.size := by omega
  have i4 : 6 ≤ s.size := by omega
  have i5 : 12 ≤ s.size := by omega
  have i6 : ¬ (s.size : Int) < 6 := by omega
  have i7 : ¬ (s.size : Int) < 12 := by omega
  have i8 : ¬ (s.size : Int) < 14 := by omega
  go_region_held3 (fun w' => Below w.heap.size w w') (with_reducible (repeat' (first | assumption | exact Below.refl _ _ | refine below_drewN ?_ _ | refine Below.drew ?_ | refine Below.alloc ?_ (by simp) _ | refine Below.setCell ?_ (by simp) _)))
    (first | (go_at_call 42; refine (HN.out _).mono ?_; rintro e w' ⟨rfl, n, rfl⟩))
  all_goals
    rename_i hH
    have hB := hH
    clear hH
    go_wp2_with (go_at_call 42; (with_reducible refine (HN2.out _).mono ?_); rintro e w' ⟨rfl, n2, rfl⟩)
    refine cut_world w (ethC (s.extract 0 6) (s.extract 6 12) (-1) 0 (num s 12) (s.extract 14 s.size)) ?c1 ?c2 ?c3 ?_
    case c1 => with_reducible first | exact one_A _ _ _ _ | exact two_A _ _ _ _ _ _ _ _ _
    case c2 => with_reducible first | exact one_F _ _ _ _ _ _ _ _ _ | exact two_F _ _ _ _ _ _ _ _ _
    case c3 => (with_reducible (repeat' (first | exact Below.refl _ _ | refine below_drewN ?_ _ | refine Below.drew ?_ | refine Below.alloc ?_ (by first | (simp; done) | (simp; omega)) _ | refine Below.setCell ?_ (by first | (simp; done) | (simp; omega)) _)))
    intro W1 hA hF hB1
    clear hB
    obtain ⟨a0, a1, a2, a3, a4, a5⟩ : W1.cell? ⟨w.heap.size, 0, none⟩ = some (.string ⟨#[]⟩) ∧ W1.cell? ⟨w.heap.size, 1, none⟩ = some (.string ⟨#[]⟩) ∧ W1.cell? ⟨w.heap.size, 2, none⟩ = some (.int .i64 0) ∧ W1.cell? ⟨w.heap.size, 3, none⟩ = some (.int .i64 0) ∧ W1.cell? ⟨w.heap.size, 4, none⟩ = some (.int .i64 0) ∧ W1.cell? ⟨w.heap.size, 5, none⟩ = some (.string ⟨#[]⟩) :=
      ⟨hA.cell 0, hA.cell 1, hA.cell 2, hA.cell 3, hA.cell 4, hA.cell 5⟩
    obtain ⟨c0, c1, c2, c3, c4, c5⟩ : W1.cell? ⟨w.heap.size + 1, 0, none⟩ = some (.string (s.extract 0 6)) ∧ W1.cell? ⟨w.heap.size + 1, 1, none⟩ = some (.string (s.extract 6 12)) ∧ W1.cell? ⟨w.heap.size + 1, 2, none⟩ = some (.int .i64 (-1)) ∧ W1.cell? ⟨w.heap.size + 1, 3, none⟩ = some (.int .i64 0) ∧ W1.cell? ⟨w.heap.size + 1, 4, none⟩ = some (.int .i64 (num s 12)) ∧ W1.cell? ⟨w.heap.size + 1, 5, none⟩ = some (.string (s.extract 14 s.size)) :=
      ⟨hF.cell 0, hF.cell 1, hF.cell 2, hF.cell 3, hF.cell 4, hF.cell 5⟩
    have fa := hA.frozen
    have ff := hF.frozen
    clear hA hF i3 i8
    have q1 : (18 : Int) ≤ s.size := by omega
    have q2 : ¬ (s.size : Int) < 18 := by omega
    have q5 : IntKind.i64.wrap ((num s 14 : Int) % 4096) = (num s 14 : Int) % 4096 := IntWalk.i64_in _ (by omega)
    have q6 : IntKind.i64.wrap ((num s 14 : Int) / 8192) = (num s 14 : Int) / 8192 := IntWalk.i64_in _ (by omega)
    have q3 : ((num s 14 : Int)).tmod 4096 = (num s 14 : Int) % 4096 := Int.tmod_eq_emod_of_nonneg (Int.natCast_nonneg _)
    have q4 : ((num s 14 : Int)).tdiv 8192 = (num s 14 : Int) / 8192 := Int.tdiv_eq_ediv_of_nonneg (Int.natCast_nonneg _)
    go_region_held3 (fun w' => Below w.heap.size w w') (with_reducible (repeat' (first | assumption | exact Below.refl _ _ | refine below_drewN ?_ _ | refine Below.drew ?_ | refine Below.alloc ?_ (by simp) _ | refine Below.setCell ?_ (by simp) _)))
      (first | (go_at_call 42; refine (HN3.out _).mono ?_; rintro e w' ⟨rfl, n3, rfl⟩))
    all_goals
      rename_i hH2
      clear i1 i2 i4 i5 i6 i7 q1 q2 q3 q4 q5 q6 hH2
      go_wp2_with (go_at_call 43; (with_reducible refine (HK.out _).mono ?_); rintro e w' ⟨rfl, rfl⟩)
      refine bodyPost_ret (v := .tuple #[.agg (ethC (s.extract 0 6) (s.extract 6 12) ((num s 14 : Int) % 4096) ((num s 14 : Int) / 8192) (num s 16) (s.extract 18 s.size)), .int .i64 0]) (by simp [results, Try.results30, go_sem, ethC, a0, a1, a2, a3, a4, a5]) rfl ⟨rfl, ?_⟩
      (with_reducible (repeat' (first | exact hB1 | exact Below.refl _ _ | refine below_drewN ?_ _ | refine Below.drew ?_ | refine Below.alloc ?_ (by first | (simp; done) | (simp; omega)) _ | refine Below.setCell ?_ (by first | (simp; done) | (simp; omega)) _)))
set_option maxRecDepth 100000 in
set_option maxHeartbeats 3200000 in
theorem refParse_tag_kind (s : ByteArray) (w : World) (h : 14 ≤ s.size) (hs : s.size ≤ 1518) (ht : ((num s 12 : Int) == 33024) = true) (h1 : 18 ≤ s.size) (b1 : ((num s 14 : Int) / 4096 % 2 == 1) = false) (b2 : ((num s 14 : Int) % 4096 == 4095) = false) (hk : kindB (num s 16) = false) :
    Calls Try.prog 30 #[.string s] w fun e w' => e = .returned (.tuple #[.agg (ethC ⟨#[]⟩ ⟨#[]⟩ 0 0 0 ⟨#[]⟩), .int .i64 61]) ∧ Below w.heap.size w w' := by
  have N : ∀ W, Calls Try.prog 42 #[.string s, .int .i64 12] W fun e w' => e = .returned (.int .i64 (num s 12)) ∧ ∃ n, w' = W.drewN n := fun W => num_any s 12 W (by omega) hs
  have HN := Lib.hid N
  clear N
  have N : ∀ W, Calls Try.prog 42 #[.string s, .int .i64 14] W fun e w' => e = .returned (.int .i64 (num s 14)) ∧ ∃ n, w' = W.drewN n := fun W => num_any s 14 W (by omega) hs
  have HN2 := Lib.hid N
  clear N
  have N : ∀ W, Calls Try.prog 42 #[.string s, .int .i64 16] W fun e w' => e = .returned (.int .i64 (num s 16)) ∧ ∃ n, w' = W.drewN n := fun W => num_any s 16 W (by omega) hs
  have HN3 := Lib.hid N
  clear N
  have hlt := num_lt s 14
  have K := fun W => kind_any (num s 16) W
  rw [hk] at K
  have HK := Lib.hid K
  clear K hk
  go_enter Try.func30, Try.ntmps30
  go_wp2_with fail
  have i1 : (6 : Int) ≤ s.size := by omega
  have i2 : (12 : Int) ≤ s.size := by omega
  have i3 : (14 : Int) ≤ s.size := by omega
  have i4 : 6 ≤ s.size := by omega
  have i5 : 12 ≤ s.size := by omega
  have i6 : ¬ (s.size : Int) < 6 := by omega
  have i7 : ¬ (s.size : Int) < 12 := by omega
  have i8 : ¬ (s.size : Int) < 14 := by omega
  go_region_held3 (fun w' => Below w.heap.size w w') (with_reducible (repeat' (first | assumption | exact Below.refl _ _ | refine below_drewN ?_ _ | refine Below.drew ?_ | refine Below.alloc ?_ (by simp) _ | refine Below.setCell ?_ (by simp) _)))
    (first | (go_at_call 42; refine (HN.out _).mono ?_; rintro e w' ⟨rfl, n, rfl⟩))
  all_goals
    rename_i hH
    have hB := hH
    clear hH
    go_wp2_with (go_at_call 42; (with_reducible refine (HN2.out _).mono ?_); rintro e w' ⟨rfl, n2, rfl⟩)
    refine cut_world w (ethC (s.extract 0 6) (s.extract 6 12) (-1) 0 (num s 12) (s.extract 14 s.size)) ?c1 ?c2 ?c3 ?_
    case c1 => with_reducible first | exact one_A _ _ _ _ | exact two_A _ _ _ _ _ _ _ _ _
    case c2 => with_reducible first | exact one_F _ _ _ _ _ _ _ _ _ | exact two_F _ _ _ _ _ _ _ _ _
    case c3 => (with_reducible (repeat' (first | exact Below.refl _ _ | refine below_drewN ?_ _ | refine Below.drew ?_ | refine Below.alloc ?_ (by first | (simp; done) | (simp; omega)) _ | refine Below.setCell ?_ (by first | (simp; done) | (simp; omega)) _)))
    intro W1 hA hF hB1
    clear hB
    obtain ⟨a0, a1, a2, a3, a4, a5⟩ : W1.cell? ⟨w.heap.size, 0, none⟩ = some (.string ⟨#[]⟩) ∧ W1.cell? ⟨w.heap.size, 1, none⟩ = some (.string ⟨#[]⟩) ∧ W1.cell? ⟨w.heap.size, 2, none⟩ = some (.int .i64 0) ∧ W1.cell? ⟨w.heap.size, 3, none⟩ = some (.int .i64 0) ∧ W1.cell? ⟨w.heap.size, 4, none⟩ = some (.int .i64 0) ∧ W1.cell? ⟨w.heap.size, 5, none⟩ = some (.string ⟨#[]⟩) :=
      ⟨hA.cell 0, hA.cell 1, hA.cell 2, hA.cell 3, hA.cell 4, hA.cell 5⟩
    obtain ⟨c0, c1, c2, c3, c4, c5⟩ : W1.cell? ⟨w.heap.size + 1, 0, none⟩ = some (.string (s.extract 0 6)) ∧ W1.cell? ⟨w.heap.size + 1, 1, none⟩ = some (.string (s.extract 6 12)) ∧ W1.cell? ⟨w.heap.size + 1, 2, none⟩ = some (.int .i64 (-1)) ∧ W1.cell? ⟨w.heap.size + 1, 3, none⟩ = some (.int .i64 0) ∧ W1.cell? ⟨w.heap.size + 1, 4, none⟩ = some (.int .i64 (num s 12)) ∧ W1.cell? ⟨w.heap.size + 1, 5, none⟩ = some (.string (s.extract 14 s.size)) :=
      ⟨hF.cell 0, hF.cell 1, hF.cell 2, hF.cell 3, hF.cell 4, hF.cell 5⟩
    have fa := hA.frozen
    have ff := hF.frozen
    clear hA hF i3 i8
    have q1 : (18 : Int) ≤ s.size := by omega
    have q2 : ¬ (s.size : Int) < 18 := by omega
    have q5 : IntKind.i64.wrap ((num s 14 : Int) % 4096) = (num s 14 : Int) % 4096 := IntWalk.i64_in _ (by omega)
    have q6 : IntKind.i64.wrap ((num s 14 : Int) / 8192) = (num s 14 : Int) / 8192 := IntWalk.i64_in _ (by omega)
    have q3 : ((num s 14 : Int)).tmod 4096 = (num s 14 : Int) % 4096 := Int.tmod_eq_emod_of_nonneg (Int.natCast_nonneg _)
    have q4 : ((num s 14 : Int)).tdiv 8192 = (num s 14 : Int) / 8192 := Int.tdiv_eq_ediv_of_nonneg (Int.natCast_nonneg _)
    go_region_held3 (fun w' => Below w.heap.size w w') (with_reducible (repeat' (first | assumption | exact Below.refl _ _ | refine below_drewN ?_ _ | refine Below.drew ?_ | refine Below.alloc ?_ (by simp) _ | refine Below.setCell ?_ (by simp) _)))
      (first | (go_at_call 42; refine (HN3.out _).mono ?_; rintro e w' ⟨rfl, n3, rfl⟩))
    all_goals
      rename_i hH2
      clear i1 i2 i4 i5 i6 i7 q1 q2 q3 q4 q5 q6 hH2
      go_wp2_with (go_at_call 43; (with_reducible refine (HK.out _).mono ?_); rintro e w' ⟨rfl, rfl⟩)
      refine bodyPost_ret (v := .tuple #[.agg (ethC ⟨#[]⟩ ⟨#[]⟩ 0 0 0 ⟨#[]⟩), .int .i64 61]) (by simp [results, Try.results30, go_sem, ethC, a0, a1, a2, a3, a4, a5]) rfl ⟨rfl, ?_⟩
      (with_reducible (repeat' (first | exact hB1 | exact Below.refl _ _ | refine below_drewN ?_ _ | refine Below.drew ?_ | refine Below.alloc ?_ (by first | (simp; done) | (simp; omega)) _ | refine Below.setCell ?_ (by first | (simp; done) | (simp; omega)) _)))
set_option maxRecDepth 100000 in
set_option maxHeartbeats 3200000 in
theorem refParse_tag_all (s : ByteArray) (w : World) (h : 14 ≤ s.size) (hs : s.size ≤ 1518) (ht : ((num s 12 : Int) == 33024) = true) (h1 : 18 ≤ s.size) (b1 : ((num s 14 : Int) / 4096 % 2 == 1) = false) (b2 : ((num s 14 : Int) % 4096 == 4095) = true)  :
    Calls Try.prog 30 #[.string s] w fun e w' => e = .returned (.tuple #[.agg (ethC ⟨#[]⟩ ⟨#[]⟩ 0 0 0 ⟨#[]⟩), .int .i64 61]) ∧ Below w.heap.size w w' := by
  have N : ∀ W, Calls Try.prog 42 #[.string s, .int .i64 12] W fun e w' => e = .returned (.int .i64 (num s 12)) ∧ ∃ n, w' = W.drewN n := fun W => num_any s 12 W (by omega) hs
  have HN := Lib.hid N
  clear N
  have N : ∀ W, Calls Try.prog 42 #[.string s, .int .i64 14] W fun e w' => e = .returned (.int .i64 (num s 14)) ∧ ∃ n, w' = W.drewN n := fun W => num_any s 14 W (by omega) hs
  have HN2 := Lib.hid N
  clear N
  have N : ∀ W, Calls Try.prog 42 #[.string s, .int .i64 16] W fun e w' => e = .returned (.int .i64 (num s 16)) ∧ ∃ n, w' = W.drewN n := fun W => num_any s 16 W (by omega) hs
  have HN3 := Lib.hid N
  clear N
  have hlt := num_lt s 14
  go_enter Try.func30, Try.ntmps30
  go_wp2_with fail
  have i1 : (6 : Int) ≤ s.size := by omega
  have i2 : (12 : Int) ≤ s.size := by omega
  have i3 : (14 : Int) ≤ s.size := by omega
  have i4 : 6 ≤ s.size := by omega
  have i5 : 12 ≤ s.size := by omega
  have i6 : ¬ (s.size : Int) < 6 := by omega
  have i7 : ¬ (s.size : Int) < 12 := by omega
  have i8 : ¬ (s.size : Int) < 14 := by omega
  go_region_held3 (fun w' => Below w.heap.size w w') (with_reducible (repeat' (first | assumption | exact Below.refl _ _ | refine below_drewN ?_ _ | refine Below.drew ?_ | refine Below.alloc ?_ (by simp) _ | refine Below.setCell ?_ (by simp) _)))
    (first | (go_at_call 42; refine (HN.out _).mono ?_; rintro e w' ⟨rfl, n, rfl⟩))
  all_goals
    rename_i hH
    have hB := hH
    clear hH
    go_wp2_with (go_at_call 42; (with_reducible refine (HN2.out _).mono ?_); rintro e w' ⟨rfl, n2, rfl⟩)
    refine cut_world w (ethC (s.extract 0 6) (s.extract 6 12) (-1) 0 (num s 12) (s.extract 14 s.size)) ?c1 ?c2 ?c3 ?_
    case c1 => with_reducible first | exact one_A _ _ _ _ | exact two_A _ _ _ _ _ _ _ _ _
    case c2 => with_reducible first | exact one_F _ _ _ _ _ _ _ _ _ | exact two_F _ _ _ _ _ _ _ _ _
    case c3 => (with_reducible (repeat' (first | exact Below.refl _ _ | refine below_drewN ?_ _ | refine Below.drew ?_ | refine Below.alloc ?_ (by first | (simp; done) | (simp; omega)) _ | refine Below.setCell ?_ (by first | (simp; done) | (simp; omega)) _)))
    intro W1 hA hF hB1
    clear hB
    obtain ⟨a0, a1, a2, a3, a4, a5⟩ : W1.cell? ⟨w.heap.size, 0, none⟩ = some (.string ⟨#[]⟩) ∧ W1.cell? ⟨w.heap.size, 1, none⟩ = some (.string ⟨#[]⟩) ∧ W1.cell? ⟨w.heap.size, 2, none⟩ = some (.int .i64 0) ∧ W1.cell? ⟨w.heap.size, 3, none⟩ = some (.int .i64 0) ∧ W1.cell? ⟨w.heap.size, 4, none⟩ = some (.int .i64 0) ∧ W1.cell? ⟨w.heap.size, 5, none⟩ = some (.string ⟨#[]⟩) :=
      ⟨hA.cell 0, hA.cell 1, hA.cell 2, hA.cell 3, hA.cell 4, hA.cell 5⟩
    obtain ⟨c0, c1, c2, c3, c4, c5⟩ : W1.cell? ⟨w.heap.size + 1, 0, none⟩ = some (.string (s.extract 0 6)) ∧ W1.cell? ⟨w.heap.size + 1, 1, none⟩ = some (.string (s.extract 6 12)) ∧ W1.cell? ⟨w.heap.size + 1, 2, none⟩ = some (.int .i64 (-1)) ∧ W1.cell? ⟨w.heap.size + 1, 3, none⟩ = some (.int .i64 0) ∧ W1.cell? ⟨w.heap.size + 1, 4, none⟩ = some (.int .i64 (num s 12)) ∧ W1.cell? ⟨w.heap.size + 1, 5, none⟩ = some (.string (s.extract 14 s.size)) :=
      ⟨hF.cell 0, hF.cell 1, hF.cell 2, hF.cell 3, hF.cell 4, hF.cell 5⟩
    have fa := hA.frozen
    have ff := hF.frozen
    clear hA hF i3 i8
    have q1 : (18 : Int) ≤ s.size := by omega
    have q2 : ¬ (s.size : Int) < 18 := by omega
    have q5 : IntKind.i64.wrap ((num s 14 : Int) % 4096) = (num s 14 : Int) % 4096 := IntWalk.i64_in _ (by omega)
    have q6 : IntKind.i64.wrap ((num s 14 : Int) / 8192) = (num s 14 : Int) / 8192 := IntWalk.i64_in _ (by omega)
    have q3 : ((num s 14 : Int)).tmod 4096 = (num s 14 : Int) % 4096 := Int.tmod_eq_emod_of_nonneg (Int.natCast_nonneg _)
    have q4 : ((num s 14 : Int)).tdiv 8192 = (num s 14 : Int) / 8192 := Int.tdiv_eq_ediv_of_nonneg (Int.natCast_nonneg _)
    go_region_held3 (fun w' => Below w.heap.size w w') (with_reducible (repeat' (first | assumption | exact Below.refl _ _ | refine below_drewN ?_ _ | refine Below.drew ?_ | refine Below.alloc ?_ (by simp) _ | refine Below.setCell ?_ (by simp) _)))
      (first | (go_at_call 42; refine (HN3.out _).mono ?_; rintro e w' ⟨rfl, n3, rfl⟩))
    all_goals
      rename_i hH2
      clear i1 i2 i4 i5 i6 i7 q1 q2 q3 q4 q5 q6 hH2
      go_wp2_with fail
      refine bodyPost_ret (v := .tuple #[.agg (ethC ⟨#[]⟩ ⟨#[]⟩ 0 0 0 ⟨#[]⟩), .int .i64 61]) (by simp [results, Try.results30, go_sem, ethC, a0, a1, a2, a3, a4, a5]) rfl ⟨rfl, ?_⟩
      (with_reducible (repeat' (first | exact hB1 | exact Below.refl _ _ | refine below_drewN ?_ _ | refine Below.drew ?_ | refine Below.alloc ?_ (by first | (simp; done) | (simp; omega)) _ | refine Below.setCell ?_ (by first | (simp; done) | (simp; omega)) _)))
set_option maxRecDepth 100000 in
set_option maxHeartbeats 3200000 in
theorem refParse_tag_bit (s : ByteArray) (w : World) (h : 14 ≤ s.size) (hs : s.size ≤ 1518) (ht : ((num s 12 : Int) == 33024) = true) (h1 : 18 ≤ s.size) (b1 : ((num s 14 : Int) / 4096 % 2 == 1) = true)  :
    Calls Try.prog 30 #[.string s] w fun e w' => e = .returned (.tuple #[.agg (ethC ⟨#[]⟩ ⟨#[]⟩ 0 0 0 ⟨#[]⟩), .int .i64 61]) ∧ Below w.heap.size w w' := by
  have N : ∀ W, Calls Try.prog 42 #[.string s, .int .i64 12] W fun e w' => e = .returned (.int .i64 (num s 12)) ∧ ∃ n, w' = W.drewN n := fun W => num_any s 12 W (by omega) hs
  have HN := Lib.hid N
  clear N
  have N : ∀ W, Calls Try.prog 42 #[.string s, .int .i64 14] W fun e w' => e = .returned (.int .i64 (num s 14)) ∧ ∃ n, w' = W.drewN n := fun W => num_any s 14 W (by omega) hs
  have HN2 := Lib.hid N
  clear N
  have N : ∀ W, Calls Try.prog 42 #[.string s, .int .i64 16] W fun e w' => e = .returned (.int .i64 (num s 16)) ∧ ∃ n, w' = W.drewN n := fun W => num_any s 16 W (by omega) hs
  have HN3 := Lib.hid N
  clear N
  have hlt := num_lt s 14
  go_enter Try.func30, Try.ntmps30
  go_wp2_with fail
  have i1 : (6 : Int) ≤ s.size := by omega
  have i2 : (12 : Int) ≤ s.size := by omega
  have i3 : (14 : Int) ≤ s.size := by omega
  have i4 : 6 ≤ s.size := by omega
  have i5 : 12 ≤ s.size := by omega
  have i6 : ¬ (s.size : Int) < 6 := by omega
  have i7 : ¬ (s.size : Int) < 12 := by omega
  have i8 : ¬ (s.size : Int) < 14 := by omega
  go_region_held3 (fun w' => Below w.heap.size w w') (with_reducible (repeat' (first | assumption | exact Below.refl _ _ | refine below_drewN ?_ _ | refine Below.drew ?_ | refine Below.alloc ?_ (by simp) _ | refine Below.setCell ?_ (by simp) _)))
    (first | (go_at_call 42; refine (HN.out _).mono ?_; rintro e w' ⟨rfl, n, rfl⟩))
  all_goals
    rename_i hH
    have hB := hH
    clear hH
    go_wp2_with (go_at_call 42; (with_reducible refine (HN2.out _).mono ?_); rintro e w' ⟨rfl, n2, rfl⟩)
    refine cut_world w (ethC (s.extract 0 6) (s.extract 6 12) (-1) 0 (num s 12) (s.extract 14 s.size)) ?c1 ?c2 ?c3 ?_
    case c1 => with_reducible first | exact one_A _ _ _ _ | exact two_A _ _ _ _ _ _ _ _ _
    case c2 => with_reducible first | exact one_F _ _ _ _ _ _ _ _ _ | exact two_F _ _ _ _ _ _ _ _ _
    case c3 => (with_reducible (repeat' (first | exact Below.refl _ _ | refine below_drewN ?_ _ | refine Below.drew ?_ | refine Below.alloc ?_ (by first | (simp; done) | (simp; omega)) _ | refine Below.setCell ?_ (by first | (simp; done) | (simp; omega)) _)))
    intro W1 hA hF hB1
    clear hB
    obtain ⟨a0, a1, a2, a3, a4, a5⟩ : W1.cell? ⟨w.heap.size, 0, none⟩ = some (.string ⟨#[]⟩) ∧ W1.cell? ⟨w.heap.size, 1, none⟩ = some (.string ⟨#[]⟩) ∧ W1.cell? ⟨w.heap.size, 2, none⟩ = some (.int .i64 0) ∧ W1.cell? ⟨w.heap.size, 3, none⟩ = some (.int .i64 0) ∧ W1.cell? ⟨w.heap.size, 4, none⟩ = some (.int .i64 0) ∧ W1.cell? ⟨w.heap.size, 5, none⟩ = some (.string ⟨#[]⟩) :=
      ⟨hA.cell 0, hA.cell 1, hA.cell 2, hA.cell 3, hA.cell 4, hA.cell 5⟩
    obtain ⟨c0, c1, c2, c3, c4, c5⟩ : W1.cell? ⟨w.heap.size + 1, 0, none⟩ = some (.string (s.extract 0 6)) ∧ W1.cell? ⟨w.heap.size + 1, 1, none⟩ = some (.string (s.extract 6 12)) ∧ W1.cell? ⟨w.heap.size + 1, 2, none⟩ = some (.int .i64 (-1)) ∧ W1.cell? ⟨w.heap.size + 1, 3, none⟩ = some (.int .i64 0) ∧ W1.cell? ⟨w.heap.size + 1, 4, none⟩ = some (.int .i64 (num s 12)) ∧ W1.cell? ⟨w.heap.size + 1, 5, none⟩ = some (.string (s.extract 14 s.size)) :=
      ⟨hF.cell 0, hF.cell 1, hF.cell 2, hF.cell 3, hF.cell 4, hF.cell 5⟩
    have fa := hA.frozen
    have ff := hF.frozen
    clear hA hF i3 i8
    have q1 : (18 : Int) ≤ s.size := by omega
    have q2 : ¬ (s.size : Int) < 18 := by omega
    have q5 : IntKind.i64.wrap ((num s 14 : Int) % 4096) = (num s 14 : Int) % 4096 := IntWalk.i64_in _ (by omega)
    have q6 : IntKind.i64.wrap ((num s 14 : Int) / 8192) = (num s 14 : Int) / 8192 := IntWalk.i64_in _ (by omega)
    have q3 : ((num s 14 : Int)).tmod 4096 = (num s 14 : Int) % 4096 := Int.tmod_eq_emod_of_nonneg (Int.natCast_nonneg _)
    have q4 : ((num s 14 : Int)).tdiv 8192 = (num s 14 : Int) / 8192 := Int.tdiv_eq_ediv_of_nonneg (Int.natCast_nonneg _)
    go_region_held3 (fun w' => Below w.heap.size w w') (with_reducible (repeat' (first | assumption | exact Below.refl _ _ | refine below_drewN ?_ _ | refine Below.drew ?_ | refine Below.alloc ?_ (by simp) _ | refine Below.setCell ?_ (by simp) _)))
      (first | (go_at_call 42; refine (HN3.out _).mono ?_; rintro e w' ⟨rfl, n3, rfl⟩))
    all_goals
      rename_i hH2
      clear i1 i2 i4 i5 i6 i7 q1 q2 q3 q4 q5 q6 hH2
      go_wp2_with fail
      refine bodyPost_ret (v := .tuple #[.agg (ethC ⟨#[]⟩ ⟨#[]⟩ 0 0 0 ⟨#[]⟩), .int .i64 61]) (by simp [results, Try.results30, go_sem, ethC, a0, a1, a2, a3, a4, a5]) rfl ⟨rfl, ?_⟩
      (with_reducible (repeat' (first | exact hB1 | exact Below.refl _ _ | refine below_drewN ?_ _ | refine Below.drew ?_ | refine Below.alloc ?_ (by first | (simp; done) | (simp; omega)) _ | refine Below.setCell ?_ (by first | (simp; done) | (simp; omega)) _)))
end Go.Proofs.Ytboinnejkghfiaa
