/-
  Frames: what the document's Parse answers, and frames there and back.
-/
import Derived.Test.YtalkpllmcigjnaaMc
import Derived.Deep.RegionHeld3
import Derived.Test.YtalkpllmcigjnaaMd
namespace Go.Proofs.Ytalkpllmcigjnaa
open Go.RowKit

theorem Blk.drewN {w : World} {g : Nat} {t : TypeId} {cs : Array Value} (h : Blk w g t cs) (n : Nat) : Blk (w.drewN n) g t cs := h
theorem Blk.new' (w : World) {g : Nat} (t : TypeId) (cs : Array Value) (hg : g = w.heap.size) : Blk (w.alloc (.cells cs t)) g t cs := hg ▸ Blk.new w t cs
theorem one_A (w : World) (k m : Nat) (F : Array Value) : Blk ((((w.alloc (.cells #[.string ⟨#[]⟩, .string ⟨#[]⟩, .int .i64 0, .int .i64 0, .int .i64 0, .string ⟨#[]⟩] 44)).drewN k).alloc (.cells F 44)).drewN m) w.heap.size 44 (ethC ⟨#[]⟩ ⟨#[]⟩ 0 0 0 ⟨#[]⟩) :=
  (((Blk.new w 44 (ethC ⟨#[]⟩ ⟨#[]⟩ 0 0 0 ⟨#[]⟩)).drewN k).alloc (.cells F 44)).drewN m
theorem one_F (w : World) (k m : Nat) (d r : ByteArray) (v p t : Int) (b : ByteArray) : Blk ((((w.alloc (.cells #[.string ⟨#[]⟩, .string ⟨#[]⟩, .int .i64 0, .int .i64 0, .int .i64 0, .string ⟨#[]⟩] 44)).drewN k).alloc (.cells #[.string d, .string r, .int .i64 v, .int .i64 p, .int .i64 t, .string b] 44)).drewN m) (w.heap.size + 1) 44 (ethC d r v p t b) :=
  (Blk.new' ((w.alloc (.cells #[.string ⟨#[]⟩, .string ⟨#[]⟩, .int .i64 0, .int .i64 0, .int .i64 0, .string ⟨#[]⟩] 44)).drewN k) (g := w.heap.size + 1) 44 (ethC d r v p t b) (by simp)).drewN m
theorem two_A (w : World) (k m : Nat) (d r : ByteArray) (v p t : Int) (b : ByteArray) : Blk ((((((((((w.alloc (.cells #[.string ⟨#[]⟩, .string ⟨#[]⟩, .int .i64 0, .int .i64 0, .int .i64 0, .string ⟨#[]⟩] 44)).alloc (.cells #[.string ⟨#[]⟩, .string ⟨#[]⟩, .int .i64 0, .int .i64 0, .int .i64 0, .string ⟨#[]⟩] 44)).drewN k).setCell ⟨w.heap.size + 1, 0, none⟩ (.string d)).setCell ⟨w.heap.size + 1, 1, none⟩ (.string r)).setCell ⟨w.heap.size + 1, 2, none⟩ (.int .i64 v)).setCell ⟨w.heap.size + 1, 3, none⟩ (.int .i64 p)).setCell ⟨w.heap.size + 1, 4, none⟩ (.int .i64 t)).setCell ⟨w.heap.size + 1, 5, none⟩ (.string b)).drewN m) w.heap.size 44 (ethC ⟨#[]⟩ ⟨#[]⟩ 0 0 0 ⟨#[]⟩) :=
  (((((((((Blk.new w 44 (ethC ⟨#[]⟩ ⟨#[]⟩ 0 0 0 ⟨#[]⟩)).alloc (.cells #[.string ⟨#[]⟩, .string ⟨#[]⟩, .int .i64 0, .int .i64 0, .int .i64 0, .string ⟨#[]⟩] 44)).drewN k).other (by omega) 0 _).other (by omega) 1 _).other (by omega) 2 _).other (by omega) 3 _).other (by omega) 4 _).other (by omega) 5 _).drewN m
theorem two_F (w : World) (k m : Nat) (d r : ByteArray) (v p t : Int) (b : ByteArray) : Blk ((((((((((w.alloc (.cells #[.string ⟨#[]⟩, .string ⟨#[]⟩, .int .i64 0, .int .i64 0, .int .i64 0, .string ⟨#[]⟩] 44)).alloc (.cells #[.string ⟨#[]⟩, .string ⟨#[]⟩, .int .i64 0, .int .i64 0, .int .i64 0, .string ⟨#[]⟩] 44)).drewN k).setCell ⟨w.heap.size + 1, 0, none⟩ (.string d)).setCell ⟨w.heap.size + 1, 1, none⟩ (.string r)).setCell ⟨w.heap.size + 1, 2, none⟩ (.int .i64 v)).setCell ⟨w.heap.size + 1, 3, none⟩ (.int .i64 p)).setCell ⟨w.heap.size + 1, 4, none⟩ (.int .i64 t)).setCell ⟨w.heap.size + 1, 5, none⟩ (.string b)).drewN m) (w.heap.size + 1) 44 (ethC d r v p t b) := by
  have h0 : Blk ((w.alloc (.cells #[.string ⟨#[]⟩, .string ⟨#[]⟩, .int .i64 0, .int .i64 0, .int .i64 0, .string ⟨#[]⟩] 44)).alloc (.cells #[.string ⟨#[]⟩, .string ⟨#[]⟩, .int .i64 0, .int .i64 0, .int .i64 0, .string ⟨#[]⟩] 44)) (w.heap.size + 1) 44 (ethC ⟨#[]⟩ ⟨#[]⟩ 0 0 0 ⟨#[]⟩) := Blk.new' _ 44 _ (by simp)
  exact (((((((h0.drewN k).put 0 (.string d)).put 1 (.string r)).put 2 (.int .i64 v)).put 3 (.int .i64 p)).put 4 (.int .i64 t)).put 5 (.string b)).drewN m
theorem cut_world {c : Code} {Q : Exit → Act → World → Prop} {a : Act} {W : World} (w0 : World) (F : Array Value) (hA : Blk W w0.heap.size 44 (ethC ⟨#[]⟩ ⟨#[]⟩ 0 0 0 ⟨#[]⟩)) (hF : Blk W (w0.heap.size + 1) 44 F) (hB : Below w0.heap.size w0 W)
    (h : ∀ W', Blk W' w0.heap.size 44 (ethC ⟨#[]⟩ ⟨#[]⟩ 0 0 0 ⟨#[]⟩) → Blk W' (w0.heap.size + 1) 44 F → Below w0.heap.size w0 W' → c.wp Try.prog Q a W') : c.wp Try.prog Q a W := h W hA hF hB

set_option maxHeartbeats 1600000 in
theorem refParse_plain_true (s : ByteArray) (w : World) (h : 14 ≤ s.size) (hs : s.size ≤ 1518) (ht : ((num s 12 : Int) == 33024) = false) (hk : kindB (num s 12) = true) :
    Calls Try.prog 34 #[.string s] w fun e w' => e = .returned (.tuple #[.agg (ethC (s.extract 0 6) (s.extract 6 12) (-1) 0 (num s 12) (tail s 14)), .int .i64 0]) ∧ Below w.heap.size w w' := by
  have N : ∀ W, Calls Try.prog 73 #[.string s, .int .i64 12] W fun e w' => e = .returned (.int .i64 (num s 12)) ∧ ∃ n, w' = W.drewN n := fun W => num_any s 12 W (by omega) hs
  have HN := Lib.hid N
  have K := fun W => kind_any (num s 12) W
  rw [hk] at K
  have HK := Lib.hid K
  clear N K hk
  unfold tail
  go_enter Try.func34, Try.ntmps34
  go_wp2_with fail
  have i1 : (6 : Int) ≤ s.size := by omega
  have i2 : (12 : Int) ≤ s.size := by omega
  have i3 : (14 : Int) ≤ s.size := by omega
  have i4 : 6 ≤ s.size := by omega
  have i5 : 12 ≤ s.size := by omega
  have i6 : ¬ (s.size : Int) < 6 := by omega
  have i7 : ¬ (s.size : Int) < 12 := by omega
  have i8 : ¬ (s.size : Int) < 14 := by omega
  go_region_held3 (fun w' => Below w.heap.size w w') (with_reducible (repeat' (first | assumption | exact Below.refl _ _ | refine below_drewN ?_ _ | refine Below.drew ?_ | refine Below.alloc ?_ (by simp) _ | refine Below.setCell ?_ (by simp) _)))
    (first | (go_at_call 73; refine (HN.out _).mono ?_; rintro e w' ⟨rfl, n, rfl⟩))
  all_goals
    rename_i hH
    clear i1 i2 i3 i4 i5 i6 i7 i8
    go_wp2_with (go_at_call 74; (with_reducible refine (HK.out _).mono ?_); rintro e w' ⟨rfl, rfl⟩)
    refine bodyPost_ret (v := .tuple #[.agg (ethC (s.extract 0 6) (s.extract 6 12) (-1) 0 (num s 12) (s.extract 14 s.size)), .int .i64 0]) (by simp [results, Try.results34, go_sem, ethC]) rfl ⟨rfl, ?_⟩
    (with_reducible (repeat' (first | exact Below.refl _ _ | refine below_drewN ?_ _ | refine Below.drew ?_ | refine Below.alloc ?_ (by first | (simp; done) | (simp; omega)) _ | refine Below.setCell ?_ (by first | (simp; done) | (simp; omega)) _)))
set_option maxHeartbeats 1600000 in
theorem refParse_plain_false (s : ByteArray) (w : World) (h : 14 ≤ s.size) (hs : s.size ≤ 1518) (ht : ((num s 12 : Int) == 33024) = false) (hk : kindB (num s 12) = false) :
    Calls Try.prog 34 #[.string s] w fun e w' => e = .returned (.tuple #[.agg (ethC ⟨#[]⟩ ⟨#[]⟩ 0 0 0 ⟨#[]⟩), .int .i64 61]) ∧ Below w.heap.size w w' := by
  have N : ∀ W, Calls Try.prog 73 #[.string s, .int .i64 12] W fun e w' => e = .returned (.int .i64 (num s 12)) ∧ ∃ n, w' = W.drewN n := fun W => num_any s 12 W (by omega) hs
  have HN := Lib.hid N
  have K := fun W => kind_any (num s 12) W
  rw [hk] at K
  have HK := Lib.hid K
  clear N K hk
  go_enter Try.func34, Try.ntmps34
  go_wp2_with fail
  have i1 : (6 : Int) ≤ s.size := by omega
  have i2 : (12 : Int) ≤ s.size := by omega
  have i3 : (14 : Int) ≤ s.size := by omega
  have i4 : 6 ≤ s.size := by omega
  have i5 : 12 ≤ s.size := by omega
  have i6 : ¬ (s.size : Int) < 6 := by omega
  have i7 : ¬ (s.size : Int) < 12 := by omega
  have i8 : ¬ (s.size : Int) < 14 := by omega
  go_region_held3 (fun w' => Below w.heap.size w w') (with_reducible (repeat' (first | assumption | exact Below.refl _ _ | refine below_drewN ?_ _ | refine Below.drew ?_ | refine Below.alloc ?_ (by simp) _ | refine Below.setCell ?_ (by simp) _)))
    (first | (go_at_call 73; refine (HN.out _).mono ?_; rintro e w' ⟨rfl, n, rfl⟩))
  all_goals
    rename_i hH
    clear i1 i2 i3 i4 i5 i6 i7 i8
    go_wp2_with (go_at_call 74; (with_reducible refine (HK.out _).mono ?_); rintro e w' ⟨rfl, rfl⟩)
    refine bodyPost_ret (v := .tuple #[.agg (ethC ⟨#[]⟩ ⟨#[]⟩ 0 0 0 ⟨#[]⟩), .int .i64 61]) (by simp [results, Try.results34, go_sem, ethC]) rfl ⟨rfl, ?_⟩
    (with_reducible (repeat' (first | exact Below.refl _ _ | refine below_drewN ?_ _ | refine Below.drew ?_ | refine Below.alloc ?_ (by first | (simp; done) | (simp; omega)) _ | refine Below.setCell ?_ (by first | (simp; done) | (simp; omega)) _)))
set_option maxRecDepth 100000 in
set_option maxHeartbeats 3200000 in
theorem refParse_short (s : ByteArray) (w : World) (h : 14 ≤ s.size) (hs : s.size ≤ 1518) (ht : ((num s 12 : Int) == 33024) = true) (h1 : s.size < 18) :
    Calls Try.prog 34 #[.string s] w fun e w' => e = .returned (.tuple #[.agg (ethC ⟨#[]⟩ ⟨#[]⟩ 0 0 0 ⟨#[]⟩), .int .i64 60]) ∧ Below w.heap.size w w' := by
  have N : ∀ W, Calls Try.prog 73 #[.string s, .int .i64 12] W fun e w' => e = .returned (.int .i64 (num s 12)) ∧ ∃ n, w' = W.drewN n := fun W => num_any s 12 W (by omega) hs
  have HN := Lib.hid N
  clear N
  go_enter Try.func34, Try.ntmps34
  go_wp2_with fail
  have i1 : (6 : Int) ≤ s.size := by omega
  have i2 : (12 : Int) ≤ s.size := by omega
  have i3 : (14 : Int) ≤ s.size := by omega
  have i4 : 6 ≤ s.size := by omega
  have i5 : 12 ≤ s.size := by omega
  have i6 : ¬ (s.size : Int) < 6 := by omega
  have i7 : ¬ (s.size : Int) < 12 := by omega
  have i8 : ¬ (s.size : Int) < 14 := by omega
  go_region_held3 (fun w' => Below w.heap.size w w') (with_reducible (repeat' (first | assumption | exact Below.refl _ _ | refine below_drewN ?_ _ | refine Below.drew ?_ | refine Below.alloc ?_ (by simp) _ | refine Below.setCell ?_ (by simp) _)))
    (first | (go_at_call 73; refine (HN.out _).mono ?_; rintro e w' ⟨rfl, n, rfl⟩))
  all_goals
    rename_i hH
    clear i1 i2 i3 i4 i5 i6 i7 i8
    go_wp2_with fail
    refine bodyPost_ret (v := .tuple #[.agg (ethC ⟨#[]⟩ ⟨#[]⟩ 0 0 0 ⟨#[]⟩), .int .i64 60]) (by simp [results, Try.results34, go_sem, ethC]) rfl ⟨rfl, ?_⟩
    (with_reducible (repeat' (first | exact Below.refl _ _ | refine below_drewN ?_ _ | refine Below.drew ?_ | refine Below.alloc ?_ (by first | (simp; done) | (simp; omega)) _ | refine Below.setCell ?_ (by first | (simp; done) | (simp; omega)) _)))
set_option maxRecDepth 100000 in
set_option maxHeartbeats 3200000 in
theorem refParse_tag_good (s : ByteArray) (w : World) (h : 14 ≤ s.size) (hs : s.size ≤ 1518) (ht : ((num s 12 : Int) == 33024) = true) (h1 : 18 ≤ s.size) (b1 : ((num s 14 : Int) / 4096 % 2 == 1) = false) (b2 : ((num s 14 : Int) % 4096 == 4095) = false) (hk : kindB (num s 16) = true) :
    Calls Try.prog 34 #[.string s] w fun e w' => e = .returned (.tuple #[.agg (ethC (s.extract 0 6) (s.extract 6 12) ((num s 14 : Int) % 4096) ((num s 14 : Int) / 8192) (num s 16) (s.extract 18 s.size)), .int .i64 0]) ∧ Below w.heap.size w w' := by
  have N : ∀ W, Calls Try.prog 73 #[.string s, .int .i64 12] W fun e w' => e = .returned (.int .i64 (num s 12)) ∧ ∃ n, w' = W.drewN n := fun W => num_any s 12 W (by omega) hs
  have HN := Lib.hid N
  clear N
  have N : ∀ W, Calls Try.prog 73 #[.string s, .int .i64 14] W fun e w' => e = .returned (.int .i64 (num s 14)) ∧ ∃ n, w' = W.drewN n := fun W => num_any s 14 W (by omega) hs
  have HN2 := Lib.hid N
  clear N
  have N : ∀ W, Calls Try.prog 73 #[.string s, .int .i64 16] W fun e w' => e = .returned (.int .i64 (num s 16)) ∧ ∃ n, w' = W.drewN n := fun W => num_any s 16 W (by omega) hs
  have HN3 := Lib.hid N
  clear N
  have hlt := num_lt s 14
  have K := fun W => kind_any (num s 16) W
  rw [hk] at K
  have HK := Lib.hid K
  clear K hk
  go_enter Try.func34, Try.ntmps34
  go_wp2_with fail
  have i1 : (6 : Int) ≤ s.size := by omega
  have i2 : (12 : Int) ≤ s.size := by omega
  have i3 : (14 : Int) ≤ s.size := by omega
  have i4 : 6 ≤ s.size := by omega
  have i5 : 12 ≤ s.size := by omega
  have i6 : ¬ (s.size : Int) < 6 := by omega
  have i7 : ¬ (s.size : Int) < 12 := by omega
  have i8 : ¬ (s.size : Int) < 14 := by omega
  go_region_held3 (fun w' => Below w.heap.size w w') (with_reducible (repeat' (first | assumption | exact Below.refl _ _ | refine below_drewN ?_ _ | refine Below.drew ?_ | refine Below.alloc ?_ (by simp) _ | refine Below.setCell ?_ (by simp) _)))
    (first | (go_at_call 73; refine (HN.out _).mono ?_; rintro e w' ⟨rfl, n, rfl⟩))
  all_goals
    rename_i hH
    have hB := hH
    clear hH
    go_wp2_with (go_at_call 73; (with_reducible refine (HN2.out _).mono ?_); rintro e w' ⟨rfl, n2, rfl⟩)
    refine cut_world w (ethC (s.extract 0 6) (s.extract 6 12) (-1) 0 (num s 12) (s.extract 14 s.size)) ?c1 ?c2 ?c3 ?_
    case c1 => with_reducible first | exact one_A _ _ _ _ | exact two_A _ _ _ _ _ _ _ _ _
    case c2 => with_reducible first | exact one_F _ _ _ _ _ _ _ _ _ | exact two_F _ _ _ _ _ _ _ _ _
    case c3 => (with_reducible (repeat' (first | exact Below.refl _ _ | refine below_drewN ?_ _ | refine Below.drew ?_ | refine Below.alloc ?_ (by first | (simp; done) | (simp; omega)) _ | refine Below.setCell ?_ (by first | (simp; done) | (simp; omega)) _)))
    intro W1 hA hF hB1
    clear hB
    obtain ⟨a0, a1, a2, a3, a4, a5⟩ : W1.cell? ⟨w.heap.size, 0, none⟩ = some (.string ⟨#[]⟩) ∧ W1.cell? ⟨w.heap.size, 1, none⟩ = some (.string ⟨#[]⟩) ∧ W1.cell? ⟨w.heap.size, 2, none⟩ = some (.int .i64 0) ∧ W1.cell? ⟨w.heap.size, 3, none⟩ = some (.int .i64 0) ∧ W1.cell? ⟨w.heap.size, 4, none⟩ = some (.int .i64 0) ∧ W1.cell? ⟨w.heap.size, 5, none⟩ = some (.string ⟨#[]⟩) :=
      ⟨hA.cell 0, hA.cell 1, hA.cell 2, hA.cell 3, hA.cell 4, hA.cell 5⟩
    obtain ⟨c0, c1, c2, c3, c4, c5⟩ : W1.cell? ⟨w.heap.size + 1, 0, none⟩ = some (.string (s.extract 0 6)) ∧ W1.cell? ⟨w.heap.size + 1, 1, none⟩ = some (.string (s.extract 6 12)) ∧ W1.cell? ⟨w.heap.size + 1, 2, none⟩ = some (.int .i64 (-1)) ∧ W1.cell? ⟨w.heap.size + 1, 3, none⟩ = some (.int .i64 0) ∧ W1.cell? ⟨w.heap.size + 1, 4, none⟩ = some (.int .i64 (num s 12)) ∧ W1.cell? ⟨w.heap.size + 1, 5, none⟩ = some (.string (s.extract 14 s.size)) :=
      ⟨hF.cell 0, hF.cell 1, hF.cell 2, hF.cell 3, hF.cell 4, hF.cell 5⟩
    have fa := hA.frozen
    have ff := hF.frozen
    clear hA hF i3 i8
    have q1 : (18 : Int) ≤ s.size := by omega
    have q2 : ¬ (s.size : Int) < 18 := by omega
    have q5 : IntKind.i64.wrap ((num s 14 : Int) % 4096) = (num s 14 : Int) % 4096 := IntWalk.i64_in _ (by omega)
    have q6 : IntKind.i64.wrap ((num s 14 : Int) / 8192) = (num s 14 : Int) / 8192 := IntWalk.i64_in _ (by omega)
    have q3 : ((num s 14 : Int)).tmod 4096 = (num s 14 : Int) % 4096 := Int.tmod_eq_emod_of_nonneg (Int.natCast_nonneg _)
    have q4 : ((num s 14 : Int)).tdiv 8192 = (num s 14 : Int) / 8192 := Int.tdiv_eq_ediv_of_nonneg (Int.natCast_nonneg _)
    go_region_held3 (fun w' => Below w.heap.size w w') (with_reducible (repeat' (first | assumption | exact Below.refl _ _ | refine below_drewN ?_ _ | refine Below.drew ?_ | refine Below.alloc ?_ (by simp) _ | refine Below.setCell ?_ (by simp) _)))
      (first | (go_at_call 73; refine (HN3.out _).mono ?_; rintro e w' ⟨rfl, n3, rfl⟩))
    all_goals
      rename_i hH2
      clear i1 i2 i4 i5 i6 i7 q1 q2 q3 q4 q5 q6 hH2
      go_wp2_with (go_at_call 74; (with_reducible refine (HK.out _).mono ?_); rintro e w' ⟨rfl, rfl⟩)
      refine bodyPost_ret (v := .tuple #[.agg (ethC (s.extract 0 6) (s.extract 6 12) ((num s 14 : Int) % 4096) ((num s 14 : Int) / 8192) (num s 16) (s.extract 18 s.size)), .int .i64 0]) (by simp [results, Try.results34, go_sem, ethC, a0, a1, a2, a3, a4, a5]) rfl ⟨rfl, ?_⟩
      (with_reducible (repeat' (first | exact hB1 | exact Below.refl _ _ | refine below_drewN ?_ _ | refine Below.drew ?_ | refine Below.alloc ?_ (by first | (simp; done) | (simp; omega)) _ | refine Below.setCell ?_ (by first | (simp; done) | (simp; omega)) _)))
set_option maxRecDepth 100000 in
set_option maxHeartbeats 3200000 in
theorem refParse_tag_kind (s : ByteArray) (w : World) (h : 14 ≤ s.size) (hs : s.size ≤ 1518) (ht : ((num s 12 : Int) == 33024) = true) (h1 : 18 ≤ s.size) (b1 : ((num s 14 : Int) / 4096 % 2 == 1) = false) (b2 : ((num s 14 : Int) % 4096 == 4095) = false) (hk : kindB (num s 16) = false) :
    Calls Try.prog 34 #[.string s] w fun e w' => e = .returned (.tuple #[.agg (ethC ⟨#[]⟩ ⟨#[]⟩ 0 0 0 ⟨#[]⟩), .int .i64 61]) ∧ Below w.heap.size w w' := by
  have N : ∀ W, Calls Try.prog 73 #[.string s, .int .i64 12] W fun e w' => e = .returned (.int .i64 (num s 12)) ∧ ∃ n, w' = W.drewN n := fun W => num_any s 12 W (by omega) hs
  have HN := Lib.hid N
  clear N
  have N : ∀ W, Calls Try.prog 73 #[.string s, .int .i64 14] W fun e w' => e = .returned (.int .i64 (num s 14)) ∧ ∃ n, w' = W.drewN n := fun W => num_any s 14 W (by omega) hs
  have HN2 := Lib.hid N
  clear N
  have N : ∀ W, Calls Try.prog 73 #[.string s, .int .i64 16] W fun e w' => e = .returned (.int .i64 (num s 16)) ∧ ∃ n, w' = W.drewN n := fun W => num_any s 16 W (by omega) hs
  have HN3 := Lib.hid N
  clear N
  have hlt := num_lt s 14
  have K := fun W => kind_any (num s 16) W
  rw [hk] at K
  have HK := Lib.hid K
  clear K hk
  go_enter Try.func34, Try.ntmps34
  go_wp2_with fail
  have i1 : (6 : Int) ≤ s.size := by omega
  have i2 : (12 : Int) ≤ s.size := by omega
  have i3 : (14 : Int) ≤ s.size := by omega
  have i4 : 6 ≤ s.size := by omega
  have i5 : 12 ≤ s.size := by omega
  have i6 : ¬ (s.size : Int) < 6 := by omega
  have i7 : ¬ (s.size : Int) < 12 := by omega
  have i8 : ¬ (s.size : Int) < 14 := by omega
  go_region_held3 (fun w' => Below w.heap.size w w') (with_reducible (repeat' (first | assumption | exact Below.refl _ _ | refine below_drewN ?_ _ | refine Below.drew ?_ | refine Below.alloc ?_ (by simp) _ | refine Below.setCell ?_ (by simp) _)))
    (first | (go_at_call 73; refine (HN.out _).mono ?_; rintro e w' ⟨rfl, n, rfl⟩))
  all_goals
    rename_i hH
    have hB := hH
    clear hH
    go_wp2_with (go_at_call 73; (with_reducible refine (HN2.out _).mono ?_); rintro e w' ⟨rfl, n2, rfl⟩)
    refine cut_world w (ethC (s.extract 0 6) (s.extract 6 12) (-1) 0 (num s 12) (s.extract 14 s.size)) ?c1 ?c2 ?c3 ?_
    case c1 => with_reducible first | exact one_A _ _ _ _ | exact two_A _ _ _ _ _ _ _ _ _
    case c2 => with_reducible first | exact one_F _ _ _ _ _ _ _ _ _ | exact two_F _ _ _ _ _ _ _ _ _
    case c3 => (with_reducible (repeat' (first | exact Below.refl _ _ | refine below_drewN ?_ _ | refine Below.drew ?_ | refine Below.alloc ?_ (by first | (simp; done) | (simp; omega)) _ | refine Below.setCell ?_ (by first | (simp; done) | (simp; omega)) _)))
    intro W1 hA hF hB1
    clear hB
    obtain ⟨a0, a1, a2, a3, a4, a5⟩ : W1.cell? ⟨w.heap.size, 0, none⟩ = some (.string ⟨#[]⟩) ∧ W1.cell? ⟨w.heap.size, 1, none⟩ = some (.string ⟨#[]⟩) ∧ W1.cell? ⟨w.heap.size, 2, none⟩ = some (.int .i64 0) ∧ W1.cell? ⟨w.heap.size, 3, none⟩ = some (.int .i64 0) ∧ W1.cell? ⟨w.heap.size, 4, none⟩ = some (.int .i64 0) ∧ W1.cell? ⟨w.heap.size, 5, none⟩ = some (.string ⟨#[]⟩) :=
      ⟨hA.cell 0, hA.cell 1, hA.cell 2, hA.cell 3, hA.cell 4, hA.cell 5⟩
    obtain ⟨c0, c1, c2, c3, c4, c5⟩ : W1.cell? ⟨w.heap.size + 1, 0, none⟩ = some (.string (s.extract 0 6)) ∧ W1.cell? ⟨w.heap.size + 1, 1, none⟩ = some (.string (s.extract 6 12)) ∧ W1.cell? ⟨w.heap.size + 1, 2, none⟩ = some (.int .i64 (-1)) ∧ W1.cell? ⟨w.heap.size + 1, 3, none⟩ = some (.int .i64 0) ∧ W1.cell? ⟨w.heap.size + 1, 4, none⟩ = some (.int .i64 (num s 12)) ∧ W1.cell? ⟨w.heap.size + 1, 5, none⟩ = some (.string (s.extract 14 s.size)) :=
      ⟨hF.cell 0, hF.cell 1, hF.cell 2, hF.cell 3, hF.cell 4, hF.cell 5⟩
    have fa := hA.frozen
    have ff := hF.frozen
    clear hA hF i3 i8
    have q1 : (18 : Int) ≤ s.size := by omega
    have q2 : ¬ (s.size : Int) < 18 := by omega
    have q5 : IntKind.i64.wrap ((num s 14 : Int) % 4096) = (num s 14 : Int) % 4096 := IntWalk.i64_in _ (by omega)
    have q6 : IntKind.i64.wrap ((num s 14 : Int) / 8192) = (num s 14 : Int) / 8192 := IntWalk.i64_in _ (by omega)
    have q3 : ((num s 14 : Int)).tmod 4096 = (num s 14 : Int) % 4096 := Int.tmod_eq_emod_of_nonneg (Int.natCast_nonneg _)
    have q4 : ((num s 14 : Int)).tdiv 8192 = (num s 14 : Int) / 8192 := Int.tdiv_eq_ediv_of_nonneg (Int.natCast_nonneg _)
    go_region_held3 (fun w' => Below w.heap.size w w') (with_reducible (repeat' (first | assumption | exact Below.refl _ _ | refine below_drewN ?_ _ | refine Below.drew ?_ | refine Below.alloc ?_ (by simp) _ | refine Below.setCell ?_ (by simp) _)))
      (first | (go_at_call 73; refine (HN3.out _).mono ?_; rintro e w' ⟨rfl, n3, rfl⟩))
    all_goals
      rename_i hH2
      clear i1 i2 i4 i5 i6 i7 q1 q2 q3 q4 q5 q6 hH2
      go_wp2_with (go_at_call 74; (with_reducible refine (HK.out _).mono ?_); rintro e w' ⟨rfl, rfl⟩)
      refine bodyPost_ret (v := .tuple #[.agg (ethC ⟨#[]⟩ ⟨#[]⟩ 0 0 0 ⟨#[]⟩), .int .i64 61]) (by simp [results, Try.results34, go_sem, ethC, a0, a1, a2, a3, a4, a5]) rfl ⟨rfl, ?_⟩
      (with_reducible (repeat' (first | exact hB1 | exact Below.refl _ _ | refine below_drewN ?_ _ | refine Below.drew ?_ | refine Below.alloc ?_ (by first | (simp; done) | (simp; omega)) _ | refine Below.setCell ?_ (by first | (simp; done) | (simp; omega)) _)))
set_option maxRecDepth 100000 in
set_option maxHeartbeats 3200000 in
theorem refParse_tag_all (s : ByteArray) (w : World) (h : 14 ≤ s.size) (hs : s.size ≤ 1518) (ht : ((num s 12 : Int) == 33024) = true) (h1 : 18 ≤ s.size) (b1 : ((num s 14 : Int) / 4096 % 2 == 1) = false) (b2 : ((num s 14 : Int) % 4096 == 4095) = true)  :
    Calls Try.prog 34 #[.string s] w fun e w' => e = .returned (.tuple #[.agg (ethC ⟨#[]⟩ ⟨#[]⟩ 0 0 0 ⟨#[]⟩), .int .i64 61]) ∧ Below w.heap.size w w' := by
  have N : ∀ W, Calls Try.prog 73 #[.string s, .int .i64 12] W fun e w' => e = .returned (.int .i64 (num s 12)) ∧ ∃ n, w' = W.drewN n := fun W => num_any s 12 W (by omega) hs
  have HN := Lib.hid N
  clear N
  have N : ∀ W, Calls Try.prog 73 #[.string s, .int .i64 14] W fun e w' => e = .returned (.int .i64 (num s 14)) ∧ ∃ n, w' = W.drewN n := fun W => num_any s 14 W (by omega) hs
  have HN2 := Lib.hid N
  clear N
  have N : ∀ W, Calls Try.prog 73 #[.string s, .int .i64 16] W fun e w' => e = .returned (.int .i64 (num s 16)) ∧ ∃ n, w' = W.drewN n := fun W => num_any s 16 W (by omega) hs
  have HN3 := Lib.hid N
  clear N
  have hlt := num_lt s 14
  go_enter Try.func34, Try.ntmps34
  go_wp2_with fail
  have i1 : (6 : Int) ≤ s.size := by omega
  have i2 : (12 : Int) ≤ s.size := by omega
  have i3 : (14 : Int) ≤ s.size := by omega
  have i4 : 6 ≤ s.size := by omega
  have i5 : 12 ≤ s.size := by omega
  have i6 : ¬ (s.size : Int) < 6 := by omega
  have i7 : ¬ (s.size : Int) < 12 := by omega
  have i8 : ¬ (s.size : Int) < 14 := by omega
  go_region_held3 (fun w' => Below w.heap.size w w') (with_reducible (repeat' (first | assumption | exact Below.refl _ _ | refine below_drewN ?_ _ | refine Below.drew ?_ | refine Below.alloc ?_ (by simp) _ | refine Below.setCell ?_ (by simp) _)))
    (first | (go_at_call 73; refine (HN.out _).mono ?_; rintro e w' ⟨rfl, n, rfl⟩))
  all_goals
    rename_i hH
    have hB := hH
    clear hH
    go_wp2_with (go_at_call 73; (with_reducible refine (HN2.out _).mono ?_); rintro e w' ⟨rfl, n2, rfl⟩)
    refine cut_world w (ethC (s.extract 0 6) (s.extract 6 12) (-1) 0 (num s 12) (s.extract 14 s.size)) ?c1 ?c2 ?c3 ?_
    case c1 => with_reducible first | exact one_A _ _ _ _ | exact two_A _ _ _ _ _ _ _ _ _
    case c2 => with_reducible first | exact one_F _ _ _ _ _ _ _ _ _ | exact two_F _ _ _ _ _ _ _ _ _
    case c3 => (with_reducible (repeat' (first | exact Below.refl _ _ | refine below_drewN ?_ _ | refine Below.drew ?_ | refine Below.alloc ?_ (by first | (simp; done) | (simp; omega)) _ | refine Below.setCell ?_ (by first | (simp; done) | (simp; omega)) _)))
    intro W1 hA hF hB1
    clear hB
    obtain ⟨a0, a1, a2, a3, a4, a5⟩ : W1.cell? ⟨w.heap.size, 0, none⟩ = some (.string ⟨#[]⟩) ∧ W1.cell? ⟨w.heap.size, 1, none⟩ = some (.string ⟨#[]⟩) ∧ W1.cell? ⟨w.heap.size, 2, none⟩ = some (.int .i64 0) ∧ W1.cell? ⟨w.heap.size, 3, none⟩ = some (.int .i64 0) ∧ W1.cell? ⟨w.heap.size, 4, none⟩ = some (.int .i64 0) ∧ W1.cell? ⟨w.heap.size, 5, none⟩ = some (.string ⟨#[]⟩) :=
      ⟨hA.cell 0, hA.cell 1, hA.cell 2, hA.cell 3, hA.cell 4, hA.cell 5⟩
    obtain ⟨c0, c1, c2, c3, c4, c5⟩ : W1.cell? ⟨w.heap.size + 1, 0, none⟩ = some (.string (s.extract 0 6)) ∧ W1.cell? ⟨w.heap.size + 1, 1, none⟩ = some (.string (s.extract 6 12)) ∧ W1.cell? ⟨w.heap.size + 1, 2, none⟩ = some (.int .i64 (-1)) ∧ W1.cell? ⟨w.heap.size + 1, 3, none⟩ = some (.int .i64 0) ∧ W1.cell? ⟨w.heap.size + 1, 4, none⟩ = some (.int .i64 (num s 12)) ∧ W1.cell? ⟨w.heap.size + 1, 5, none⟩ = some (.string (s.extract 14 s.size)) :=
      ⟨hF.cell 0, hF.cell 1, hF.cell 2, hF.cell 3, hF.cell 4, hF.cell 5⟩
    have fa := hA.frozen
    have ff := hF.frozen
    clear hA hF i3 i8
    have q1 : (18 : Int) ≤ s.size := by omega
    have q2 : ¬ (s.size : Int) < 18 := by omega
    have q5 : IntKind.i64.wrap ((num s 14 : Int) % 4096) = (num s 14 : Int) % 4096 := IntWalk.i64_in _ (by omega)
    have q6 : IntKind.i64.wrap ((num s 14 : Int) / 8192) = (num s 14 : Int) / 8192 := IntWalk.i64_in _ (by omega)
    have q3 : ((num s 14 : Int)).tmod 4096 = (num s 14 : Int) % 4096 := Int.tmod_eq_emod_of_nonneg (Int.natCast_nonneg _)
    have q4 : ((num s 14 : Int)).tdiv 8192 = (num s 14 : Int) / 8192 := Int.tdiv_eq_ediv_of_nonneg (Int.natCast_nonneg _)
    go_region_held3 (fun w' => Below w.heap.size w w') (with_reducible (repeat' (first | assumption | exact Below.refl _ _ | refine below_drewN ?_ _ | refine Below.drew ?_ | refine Below.alloc ?_ (by simp) _ | refine Below.setCell ?_ (by simp) _)))
      (first | (go_at_call 73; refine (HN3.out _).mono ?_; rintro e w' ⟨rfl, n3, rfl⟩))
    all_goals
      rename_i hH2
      clear i1 i2 i4 i5 i6 i7 q1 q2 q3 q4 q5 q6 hH2
      go_wp2_with fail
      refine bodyPost_ret (v := .tuple #[.agg (ethC ⟨#[]⟩ ⟨#[]⟩ 0 0 0 ⟨#[]⟩), .int .i64 61]) (by simp [results, Try.results34, go_sem, ethC, a0, a1, a2, a3, a4, a5]) rfl ⟨rfl, ?_⟩
      (with_reducible (repeat' (first | exact hB1 | exact Below.refl _ _ | refine below_drewN ?_ _ | refine Below.drew ?_ | refine Below.alloc ?_ (by first | (simp; done) | (simp; omega)) _ | refine Below.setCell ?_ (by first | (simp; done) | (simp; omega)) _)))
set_option maxRecDepth 100000 in
set_option maxHeartbeats 3200000 in
theorem refParse_tag_bit (s : ByteArray) (w : World) (h : 14 ≤ s.size) (hs : s.size ≤ 1518) (ht : ((num s 12 : Int) == 33024) = true) (h1 : 18 ≤ s.size) (b1 : ((num s 14 : Int) / 4096 % 2 == 1) = true)  :
    Calls Try.prog 34 #[.string s] w fun e w' => e = .returned (.tuple #[.agg (ethC ⟨#[]⟩ ⟨#[]⟩ 0 0 0 ⟨#[]⟩), .int .i64 61]) ∧ Below w.heap.size w w' := by
  have N : ∀ W, Calls Try.prog 73 #[.string s, .int .i64 12] W fun e w' => e = .returned (.int .i64 (num s 12)) ∧ ∃ n, w' = W.drewN n := fun W => num_any s 12 W (by omega) hs
  have HN := Lib.hid N
  clear N
  have N : ∀ W, Calls Try.prog 73 #[.string s, .int .i64 14] W fun e w' => e = .returned (.int .i64 (num s 14)) ∧ ∃ n, w' = W.drewN n := fun W => num_any s 14 W (by omega) hs
  have HN2 := Lib.hid N
  clear N
  have N : ∀ W, Calls Try.prog 73 #[.string s, .int .i64 16] W fun e w' => e = .returned (.int .i64 (num s 16)) ∧ ∃ n, w' = W.drewN n := fun W => num_any s 16 W (by omega) hs
  have HN3 := Lib.hid N
  clear N
  have hlt := num_lt s 14
  go_enter Try.func34, Try.ntmps34
  go_wp2_with fail
  have i1 : (6 : Int) ≤ s.size := by omega
  have i2 : (12 : Int) ≤ s.size := by omega
  have i3 : (14 : Int) ≤ s.size := by omega
  have i4 : 6 ≤ s.size := by omega
  have i5 : 12 ≤ s.size := by omega
  have i6 : ¬ (s.size : Int) < 6 := by omega
  have i7 : ¬ (s.size : Int) < 12 := by omega
  have i8 : ¬ (s.size : Int) < 14 := by omega
  go_region_held3 (fun w' => Below w.heap.size w w') (with_reducible (repeat' (first | assumption | exact Below.refl _ _ | refine below_drewN ?_ _ | refine Below.drew ?_ | refine Below.alloc ?_ (by simp) _ | refine Below.setCell ?_ (by simp) _)))
    (first | (go_at_call 73; refine (HN.out _).mono ?_; rintro e w' ⟨rfl, n, rfl⟩))
  all_goals
    rename_i hH
    have hB := hH
    clear hH
    go_wp2_with (go_at_call 73; (with_reducible refine (HN2.out _).mono ?_); rintro e w' ⟨rfl, n2, rfl⟩)
    refine cut_world w (ethC (s.extract 0 6) (s.extract 6 12) (-1) 0 (num s 12) (s.extract 14 s.size)) ?c1 ?c2 ?c3 ?_
    case c1 => with_reducible first | exact one_A _ _ _ _ | exact two_A _ _ _ _ _ _ _ _ _
    case c2 => with_reducible first | exact one_F _ _ _ _ _ _ _ _ _ | exact two_F _ _ _ _ _ _ _ _ _
    case c3 => (with_reducible (repeat' (first | exact Below.refl _ _ | refine below_drewN ?_ _ | refine Below.drew ?_ | refine Below.alloc ?_ (by first | (simp; done) | (simp; omega)) _ | refine Below.setCell ?_ (by first | (simp; done) | (simp; omega)) _)))
    intro W1 hA hF hB1
    clear hB
    obtain ⟨a0, a1, a2, a3, a4, a5⟩ : W1.cell? ⟨w.heap.size, 0, none⟩ = some (.string ⟨#[]⟩) ∧ W1.cell? ⟨w.heap.size, 1, none⟩ = some (.string ⟨#[]⟩) ∧ W1.cell? ⟨w.heap.size, 2, none⟩ = some (.int .i64 0) ∧ W1.cell? ⟨w.heap.size, 3, none⟩ = some (.int .i64 0) ∧ W1.cell? ⟨w.heap.size, 4, none⟩ = some (.int .i64 0) ∧ W1.cell? ⟨w.heap.size, 5, none⟩ = some (.string ⟨#[]⟩) :=
      ⟨hA.cell 0, hA.cell 1, hA.cell 2, hA.cell 3, hA.cell 4, hA.cell 5⟩
    obtain ⟨c0, c1, c2, c3, c4, c5⟩ : W1.cell? ⟨w.heap.size + 1, 0, none⟩ = some (.string (s.extract 0 6)) ∧ W1.cell? ⟨w.heap.size + 1, 1, none⟩ = some (.string (s.extract 6 12)) ∧ W1.cell? ⟨w.heap.size + 1, 2, none⟩ = some (.int .i64 (-1)) ∧ W1.cell? ⟨w.heap.size + 1, 3, none⟩ = some (.int .i64 0) ∧ W1.cell? ⟨w.heap.size + 1, 4, none⟩ = some (.int .i64 (num s 12)) ∧ W1.cell? ⟨w.heap.size + 1, 5, none⟩ = some (.string (s.extract 14 s.size)) :=
      ⟨hF.cell 0, hF.cell 1, hF.cell 2, hF.cell 3, hF.cell 4, hF.cell 5⟩
    have fa := hA.frozen
    have ff := hF.frozen
    clear hA hF i3 i8
    have q1 : (18 : Int) ≤ s.size := by omega
    have q2 : ¬ (s.size : Int) < 18 := by omega
    have q5 : IntKind.i64.wrap ((num s 14 : Int) % 4096) = (num s 14 : Int) % 4096 := IntWalk.i64_in _ (by omega)
    have q6 : IntKind.i64.wrap ((num s 14 : Int) / 8192) = (num s 14 : Int) / 8192 := IntWalk.i64_in _ (by omega)
    have q3 : ((num s 14 : Int)).tmod 4096 = (num s 14 : Int) % 4096 := Int.tmod_eq_emod_of_nonneg (Int.natCast_nonneg _)
    have q4 : ((num s 14 : Int)).tdiv 8192 = (num s 14 : Int) / 8192 := Int.tdiv_eq_ediv_of_nonneg (Int.natCast_nonneg _)
    go_region_held3 (fun w' => Below w.heap.size w w') (with_reducible (repeat' (first | assumption | exact Below.refl _ _ | refine below_drewN ?_ _ | refine Below.drew ?_ | refine Below.alloc ?_ (by simp) _ | refine Below.setCell ?_ (by simp) _)))
      (first | (go_at_call 73; refine (HN3.out _).mono ?_; rintro e w' ⟨rfl, n3, rfl⟩))
    all_goals
      rename_i hH2
      clear i1 i2 i4 i5 i6 i7 q1 q2 q3 q4 q5 q6 hH2
      go_wp2_with fail
      refine bodyPost_ret (v := .tuple #[.agg (ethC ⟨#[]⟩ ⟨#[]⟩ 0 0 0 ⟨#[]⟩), .int .i64 61]) (by simp [results, Try.results34, go_sem, ethC, a0, a1, a2, a3, a4, a5]) rfl ⟨rfl, ?_⟩
      (with_reducible (repeat' (first | exact hB1 | exact Below.refl _ _ | refine below_drewN ?_ _ | refine Below.drew ?_ | refine Below.alloc ?_ (by first | (simp; done) | (simp; omega)) _ | refine Below.setCell ?_ (by first | (simp; done) | (simp; omega)) _)))
end Go.Proofs.Ytalkpllmcigjnaa
namespace Go.Proofs.Ytalkpllmcigjnaa
open Go.RowKit

theorem parseE_size {s : ByteArray} (h : parseE s = 0) : s.size ≤ 1518 := by
  unfold parseE at h
  split at h
  · cases h
  · omega
theorem refParse_long (s : ByteArray) (w : World) (h : 1518 < s.size) :
    Calls Try.prog 34 #[.string s] w fun e w' => e = .returned (.tuple #[.agg (ethC ⟨#[]⟩ ⟨#[]⟩ 0 0 0 ⟨#[]⟩), .int .i64 61]) ∧ Below w.heap.size w w' := by
  go_enter Try.func34, Try.ntmps34
  go_wp2
  exact bodyPost_ret (v := .tuple #[.agg (ethC ⟨#[]⟩ ⟨#[]⟩ 0 0 0 ⟨#[]⟩), .int .i64 61]) (by simp [results, Try.results34, go_sem, ethC]) rfl ⟨rfl, (Below.refl _ _).alloc (Nat.le_refl _) _⟩
theorem refParse_less (s : ByteArray) (w : World) (h : s.size < 14) :
    Calls Try.prog 34 #[.string s] w fun e w' => e = .returned (.tuple #[.agg (ethC ⟨#[]⟩ ⟨#[]⟩ 0 0 0 ⟨#[]⟩), .int .i64 60]) ∧ Below w.heap.size w w' := by
  have h' : ¬ 1518 < s.size := by omega
  go_enter Try.func34, Try.ntmps34
  go_wp2
  exact bodyPost_ret (v := .tuple #[.agg (ethC ⟨#[]⟩ ⟨#[]⟩ 0 0 0 ⟨#[]⟩), .int .i64 60]) (by simp [results, Try.results34, go_sem, ethC]) rfl ⟨rfl, (Below.refl _ _).alloc (Nat.le_refl _) _⟩
theorem readF_plain {s : ByteArray} (h : 14 ≤ s.size) (ht : num s 12 ≠ 33024) : readF s = ⟨s.extract 0 6, s.extract 6 12, -1, 0, num s 12, tail s 14⟩ := by
  rw [readF, if_neg (by omega), if_neg ht]
theorem readF_tag {s : ByteArray} (h : 18 ≤ s.size) (ht : num s 12 = 33024) : readF s = ⟨s.extract 0 6, s.extract 6 12, num s 14 % 8192, num s 14 / 8192, num s 16, tail s 18⟩ := by
  rw [readF, if_neg (by omega), if_pos ht, if_neg (by omega)]
theorem cut_size {s : ByteArray} {a b : Nat} (h : b ≤ s.size) : (s.extract a b).size = b - a := by simp [ByteArray.size_extract]; omega
theorem parse_in {s : ByteArray} (h : s.size ≤ 1518) (h1 : readE s = 0) (h2 : frameB (readF s) = true) : parseE s = 0 ∧ parseF s = readF s := by
  have e : parseE s = 0 := by rw [parseE, if_neg (by omega), if_pos h1, h2]; rfl
  exact ⟨e, if_pos e⟩
theorem parse_out {s : ByteArray} (h : s.size ≤ 1518) (h1 : readE s = 0) (h2 : frameB (readF s) = false) : parseE s = 61 ∧ parseF s = .zero := by
  have e : parseE s = 61 := by rw [parseE, if_neg (by omega), if_pos h1, h2]; rfl
  exact ⟨e, by rw [parseF, e, if_neg (by decide)]⟩
theorem refParse_any (s : ByteArray) (w : World) :
    Calls Try.prog 34 #[.string s] w fun e w' => e = .returned (.tuple #[(parseF s).val, .int .i64 (parseE s)]) ∧ Below w.heap.size w w' := by
  by_cases h1 : 1518 < s.size
  · have e1 : parseE s = 61 := by rw [parseE, if_pos h1]
    have e2 : parseF s = .zero := by rw [parseF, e1, if_neg (by decide)]
    rw [e1, e2]
    exact refParse_long s w h1
  · have hs : s.size ≤ 1518 := by omega
    by_cases h2 : readE s = 0
    · have h3 : 14 ≤ s.size ∧ (num s 12 = 33024 → 18 ≤ s.size) := by
        unfold readE at h2
        split at h2
        · cases h2
        · rename_i h; exact ⟨by omega, fun e => by omega⟩
      by_cases ht : num s 12 = 33024
      · have hb : ((num s 12 : Int) == 33024) = true := by rw [ht]; rfl
        have h18 := h3.2 ht
        have hF := readF_tag h18 ht
        have hlt := num_lt s 14
        have hp : frameB (readF s) = decide ((num s 14 : Int) % 8192 ≤ 4094 ∧ kindB (num s 16) = true) := by
          rw [Bool.eq_iff_iff, frameB_iff, hF, decide_eq_true_iff]
          simp only [cut_size (show 6 ≤ s.size by omega), cut_size (show 12 ≤ s.size by omega), tagB]
          rw [if_neg (by omega), decide_eq_true_iff]
          exact ⟨fun x => ⟨x.2.2.1.2.1, x.2.2.2⟩, fun x => ⟨trivial, trivial, ⟨by omega, x.1, by omega, by omega⟩, x.2⟩⟩
        by_cases k1 : (num s 14 : Int) % 8192 ≤ 4094
        · have b1 : ((num s 14 : Int) / 4096 % 2 == 1) = false := by
            have : (num s 14 : Int) / 4096 % 2 ≠ 1 := by omega
            simpa using this
          have b2 : ((num s 14 : Int) % 4096 == 4095) = false := by
            have : (num s 14 : Int) % 4096 ≠ 4095 := by omega
            simpa using this
          cases k2 : kindB (num s 16)
          · obtain ⟨e1, e2⟩ := parse_out hs h2 (by rw [hp, k2]; simp)
            rw [e1, e2]
            exact refParse_tag_kind s w h3.1 hs hb h18 b1 b2 k2
          · obtain ⟨e1, e2⟩ := parse_in hs h2 (by rw [hp, k2]; simpa using k1)
            rw [e1, e2, hF]
            have e3 : (num s 14 : Int) % 8192 = (num s 14 : Int) % 4096 := by omega
            show Calls Try.prog 34 #[.string s] w fun e w' => e = .returned (.tuple #[.agg (ethC (s.extract 0 6) (s.extract 6 12) ((num s 14 : Int) % 8192) ((num s 14 : Int) / 8192) (num s 16) (tail s 18)), .int .i64 0]) ∧ Below w.heap.size w w'
            rw [e3]
            exact refParse_tag_good s w h3.1 hs hb h18 b1 b2 k2
        · obtain ⟨e1, e2⟩ := parse_out hs h2 (by rw [hp]; exact decide_eq_false (fun x => k1 x.1))
          rw [e1, e2]
          by_cases k3 : (num s 14 : Int) / 4096 % 2 = 1
          · exact refParse_tag_bit s w h3.1 hs hb h18 (by simpa using k3)
          · have b1 : ((num s 14 : Int) / 4096 % 2 == 1) = false := by simpa using k3
            have b2 : ((num s 14 : Int) % 4096 == 4095) = true := by
              have : (num s 14 : Int) % 4096 = 4095 := by omega
              rw [this]; rfl
            exact refParse_tag_all s w h3.1 hs hb h18 b1 b2
      · have hb : ((num s 12 : Int) == 33024) = false := by simpa using (by omega : (num s 12 : Int) ≠ 33024)
        have hF := readF_plain h3.1 ht
        have hp : frameB (readF s) = kindB (num s 12) := by
          rw [Bool.eq_iff_iff, frameB_iff, hF]
          simp only [cut_size (show 6 ≤ s.size by omega), cut_size (show 12 ≤ s.size by omega), tagB]
          simp
        cases k2 : kindB (num s 12)
        · obtain ⟨e1, e2⟩ := parse_out hs h2 (by rw [hp, k2])
          rw [e1, e2]
          exact refParse_plain_false s w h3.1 hs hb k2
        · obtain ⟨e1, e2⟩ := parse_in hs h2 (by rw [hp, k2])
          rw [e1, e2, hF]
          exact refParse_plain_true s w h3.1 hs hb k2
    · have e1 : parseE s = 60 := by rw [parseE, if_neg h1, if_neg h2]
      have e2 : parseF s = .zero := by rw [parseF, e1, if_neg (by decide)]
      rw [e1, e2]
      by_cases h3 : s.size < 14
      · exact refParse_less s w h3
      · have h4 : num s 12 = 33024 ∧ s.size < 18 := by
          unfold readE at h2
          split at h2
          · rename_i h; rcases h with h | h
            · exact absurd h h3
            · exact h
          · exact absurd rfl h2
        exact refParse_short s w (by omega) hs (by rw [h4.1]; rfl) h4.2
end Go.Proofs.Ytalkpllmcigjnaa
namespace Go.Proofs.Ytalkpllmcigjnaa

theorem build_out {f : Fr} (h : ¬ (frameB f = true ∧ f.d.size + f.r.size + (tagS f.v f.p).size + 2 + f.b.size ≤ 1518)) : buildS f = ⟨#[]⟩ ∧ buildE f = 61 := ⟨if_neg h, if_neg h⟩
theorem build_in {f : Fr} (h : frameB f = true ∧ f.d.size + f.r.size + (tagS f.v f.p).size + 2 + f.b.size ≤ 1518) : buildS f = f.d ++ f.r ++ tagS f.v f.p ++ two f.t ++ f.b ∧ buildE f = 0 := ⟨if_pos h, if_pos h⟩
theorem low16 (n : Int) : ∃ X : Int, (0 ≤ X ∧ X < 65536) ∧ bits .and .i64 n 65535 = X := by
  have e : (BitVec.ofInt 64 65535).toNat = 2 ^ 16 - 1 := by decide
  have k : (BitVec.ofInt 64 n &&& BitVec.ofInt 64 65535).toNat = (n % ((2 ^ 64 : Nat) : Int)).toNat % 2 ^ 16 := by
    rw [BitVec.toNat_and, BitVec.toNat_ofInt, e, Nat.and_two_pow_sub_one_eq_mod]
  refine ⟨n % 65536, by omega, ?_⟩
  show IntKind.i64.wrap ((BitVec.ofInt 64 n &&& BitVec.ofInt 64 65535).toNat : Nat) = n % 65536
  rw [k, IntKind.wrap_i64]
  omega

def lst (s : ByteArray) : List UInt8 := s.data.toList
theorem lst_len (s : ByteArray) : (lst s).length = s.size := rfl
theorem lst_inj {s t : ByteArray} (h : lst s = lst t) : s = t := ByteArray.ext (Array.toList_inj.1 h)
theorem lst_app (s t : ByteArray) : lst (s ++ t) = lst s ++ lst t := by simp [lst]
theorem lst_cut (s : ByteArray) (a b : Nat) : lst (s.extract a b) = ((lst s).drop a).take (b - a) := by
  unfold lst
  rw [ByteArray.data_extract, Array.toList_extract, List.extract_eq_take_drop]
theorem lst_tail (s : ByteArray) (a : Nat) : lst (tail s a) = (lst s).drop a := by
  rw [tail, lst_cut, List.take_of_length_le]
  rw [List.length_drop, lst_len]; exact Nat.le_refl _
theorem lst_two (v : Int) : lst (two v) = enc v.toNat 2 true := by simp [lst, two]
theorem num_lst (s : ByteArray) (a : Nat) : num s a = dec (((lst s).drop a).take 2) true := rfl
theorem enc_dec2 (x y : UInt8) : enc (dec [x, y] true) 2 true = [x, y] := by
  have hx := x.toNat_lt
  have hy := y.toNat_lt
  have e : dec [x, y] true = y.toNat + 256 * x.toNat := by simp [dec, val]
  rw [e]
  simp only [enc, digs, if_true, List.reverse_cons, List.reverse_nil, List.nil_append, List.singleton_append]
  congr 1
  · apply UInt8.toNat_inj.1; rw [UInt8.toNat_ofNat']; omega
  · congr 1; apply UInt8.toNat_inj.1; rw [UInt8.toNat_ofNat']; omega
theorem two_num (s : ByteArray) (a : Nat) (h : a + 2 ≤ s.size) : lst (two (num s a)) = ((lst s).drop a).take 2 := by
  rw [lst_two, Int.toNat_natCast, num_lst]
  have hl : (((lst s).drop a).take 2).length = 2 := by rw [List.length_take, List.length_drop, lst_len]; omega
  match ((lst s).drop a).take 2, hl with
  | [x, y], _ => exact enc_dec2 x y
theorem dec_two (v : Int) (h0 : 0 ≤ v) (h1 : v < 65536) : (dec (enc v.toNat 2 true) true : Int) = v := by
  rw [dec_enc _ _ _ (by omega)]; omega
/-- The bytes of a frame. -/
def raw (f : Fr) : ByteArray := f.d ++ f.r ++ tagS f.v f.p ++ two f.t ++ f.b
theorem raw_lst (f : Fr) : lst (raw f) = lst f.d ++ (lst f.r ++ (lst (tagS f.v f.p) ++ (lst (two f.t) ++ lst f.b))) := by
  simp [raw, lst_app, List.append_assoc]
theorem build_is {f : Fr} (h : buildE f = 0) : buildS f = raw f ∧ frameB f = true ∧ f.d.size + f.r.size + (tagS f.v f.p).size + 2 + f.b.size ≤ 1518 := by
  unfold buildE at h
  split at h
  · rename_i hc; exact ⟨(build_in hc).1, hc.1, hc.2⟩
  · cases h
theorem build_of {f : Fr} (h : frameB f = true) (hl : f.d.size + f.r.size + (tagS f.v f.p).size + 2 + f.b.size ≤ 1518) : buildS f = raw f ∧ buildE f = 0 := build_in ⟨h, hl⟩
theorem build_not {f : Fr} (h : buildE f ≠ 0) : buildS f = ⟨#[]⟩ ∧ buildE f = 61 := by
  unfold buildE at h
  split at h
  · exact absurd rfl h
  · rename_i hc; exact build_out hc
theorem raw_size {f : Fr} (h : frameB f = true) : (raw f).size = f.b.size + (if f.v = -1 then 14 else 18) := by
  obtain ⟨h1, h2, _, _⟩ := frameB_iff.1 h
  have : (raw f).size = f.d.size + f.r.size + (tagS f.v f.p).size + (two f.t).size + f.b.size := by simp [raw, ByteArray.size_append]
  rw [this, two_size, tagS_size, h1, h2]
  split <;> omega
theorem drop_of {l1 l2 : List UInt8} {n : Nat} (h : l1.length = n) : (l1 ++ l2).drop n = l2 := by subst h; simp
theorem take_of {l1 l2 : List UInt8} {n : Nat} (h : l1.length = n) : (l1 ++ l2).take n = l1 := by subst h; simp
/-- what is read of a frame's bytes is the frame -/
theorem read_raw {f : Fr} (h : frameB f = true) : readE (raw f) = 0 ∧ readF (raw f) = f := by
  obtain ⟨h1, h2, h3, h4⟩ := frameB_iff.1 h
  have h5 := kindB_iff.1 h4
  have hs := raw_size h
  have hr := raw_lst f
  obtain ⟨d, r, v, p, t, b⟩ := f
  simp only at *
  have ld : (lst d).length = 6 := h1
  have lr : (lst r).length = 6 := h2
  have lt : (lst (two t)).length = 2 := two_size t
  have e0 : ((lst (raw ⟨d, r, v, p, t, b⟩)).drop 0).take 6 = lst d := by rw [hr, List.drop_zero, take_of ld]
  have e6 : (lst (raw ⟨d, r, v, p, t, b⟩)).drop 6 = lst r ++ (lst (tagS v p) ++ (lst (two t) ++ lst b)) := by rw [hr, drop_of ld]
  have e12 : (lst (raw ⟨d, r, v, p, t, b⟩)).drop 12 = lst (tagS v p) ++ (lst (two t) ++ lst b) := by
    rw [show 12 = 6 + 6 from rfl, ← List.drop_drop, e6, drop_of lr]
  have x0 : (raw ⟨d, r, v, p, t, b⟩).extract 0 6 = d := lst_inj (by rw [lst_cut, e0])
  have x6 : (raw ⟨d, r, v, p, t, b⟩).extract 6 12 = r := lst_inj (by rw [lst_cut, e6, show 12 - 6 = 6 from rfl, take_of lr])
  rcases tagB_cases h3 with ⟨rfl, rfl⟩ | ⟨a0, a1, a2, a3⟩
  · have eT : lst (tagS (-1) 0) = [] := rfl
    rw [eT, List.nil_append] at e12
    rw [if_pos rfl] at hs
    have n12 : (num (raw ⟨d, r, -1, 0, t, b⟩) 12 : Int) = t := by rw [num_lst, e12, take_of lt, lst_two, dec_two t (by omega) (by omega)]
    have hne : num (raw ⟨d, r, -1, 0, t, b⟩) 12 ≠ 33024 := by omega
    have e14 : tail (raw ⟨d, r, -1, 0, t, b⟩) 14 = b := lst_inj (by rw [lst_tail, show 14 = 12 + 2 from rfl, ← List.drop_drop, e12, drop_of lt])
    refine ⟨by rw [readE, if_neg (by omega)], ?_⟩
    rw [readF_plain (by omega) hne, x0, x6, n12, e14]
  · have hv : v ≠ -1 := by omega
    have eT : lst (tagS v p) = lst (two 33024) ++ lst (two (8192 * p + v)) := by rw [tagS, if_neg hv, lst_app]
    rw [eT, List.append_assoc] at e12
    rw [if_neg hv] at hs
    have l1 : (lst (two 33024)).length = 2 := two_size _
    have l2 : (lst (two (8192 * p + v))).length = 2 := two_size _
    have n12 : (num (raw ⟨d, r, v, p, t, b⟩) 12 : Int) = 33024 := by rw [num_lst, e12, take_of l1, lst_two, dec_two _ (by omega) (by omega)]
    have e14 : (lst (raw ⟨d, r, v, p, t, b⟩)).drop 14 = lst (two (8192 * p + v)) ++ (lst (two t) ++ lst b) := by rw [show 14 = 12 + 2 from rfl, ← List.drop_drop, e12, drop_of l1]
    have n14 : (num (raw ⟨d, r, v, p, t, b⟩) 14 : Int) = 8192 * p + v := by rw [num_lst, e14, take_of l2, lst_two, dec_two _ (by omega) (by omega)]
    have e16 : (lst (raw ⟨d, r, v, p, t, b⟩)).drop 16 = lst (two t) ++ lst b := by rw [show 16 = 14 + 2 from rfl, ← List.drop_drop, e14, drop_of l2]
    have n16 : (num (raw ⟨d, r, v, p, t, b⟩) 16 : Int) = t := by rw [num_lst, e16, take_of lt, lst_two, dec_two t (by omega) (by omega)]
    have e18 : tail (raw ⟨d, r, v, p, t, b⟩) 18 = b := lst_inj (by rw [lst_tail, show 18 = 16 + 2 from rfl, ← List.drop_drop, e16, drop_of lt])
    refine ⟨by rw [readE, if_neg (by omega)], ?_⟩
    rw [readF_tag (by omega) (by omega), x0, x6, n16, e18, n14]
    congr 1 <;> omega
theorem parse_build {f : Fr} (h : buildE f = 0) : parseE (buildS f) = 0 ∧ parseF (buildS f) = f ∧ (buildS f).size = f.b.size + (if f.v = -1 then 14 else 18) ∧ (buildS f).size ≤ 1518 := by
  obtain ⟨e, hf, hl⟩ := build_is h
  obtain ⟨h1, h2, _, _⟩ := frameB_iff.1 hf
  have hs := raw_size hf
  obtain ⟨r1, r2⟩ := read_raw hf
  have hle : (raw f).size ≤ 1518 := by
    rw [hs]; rw [tagS_size, h1, h2] at hl; split at hl <;> split <;> omega
  rw [e]
  obtain ⟨p1, p2⟩ := parse_in hle r1 (by rw [r2]; exact hf)
  exact ⟨p1, by rw [p2, r2], hs, hle⟩
theorem parse_is {s : ByteArray} (h : parseE s = 0) : s.size ≤ 1518 ∧ readE s = 0 ∧ frameB (readF s) = true ∧ parseF s = readF s := by
  refine ⟨parseE_size h, ?_, ?_, if_pos h⟩
  · unfold parseE at h
    split at h
    · cases h
    · split at h
      · assumption
      · cases h
  · unfold parseE at h
    split at h
    · cases h
    · split at h
      · split at h
        · assumption
        · cases h
      · cases h
theorem raw_read {s : ByteArray} (h1 : readE s = 0) (h2 : frameB (readF s) = true) : raw (readF s) = s := by
  have h3 : 14 ≤ s.size ∧ (num s 12 = 33024 → 18 ≤ s.size) := by
    unfold readE at h1
    split at h1
    · cases h1
    · rename_i h; exact ⟨by omega, fun e => by omega⟩
  obtain ⟨_, _, g3, g4⟩ := frameB_iff.1 h2
  apply lst_inj
  have halves : ∀ (l : List UInt8) (n : Nat), l.take n ++ l.drop n = l := fun l n => List.take_append_drop n l
  rw [raw_lst]
  by_cases ht : num s 12 = 33024
  · have h18 := h3.2 ht
    have hF := readF_tag h18 ht
    rw [hF] at g3 g4 ⊢
    simp only at g3 g4 ⊢
    have hlt := num_lt s 14
    have hv : (num s 14 : Int) % 8192 ≠ -1 := by omega
    have e1 : tagS ((num s 14 : Int) % 8192) ((num s 14 : Int) / 8192) = two (num s 12) ++ two (num s 14) := by
      rw [tagS, if_neg hv, show (8192 * ((num s 14 : Int) / 8192) + (num s 14 : Int) % 8192) = num s 14 by omega, ht]; rfl
    rw [e1, lst_app, two_num s 12 (by omega), two_num s 14 (by omega), two_num s 16 (by omega), lst_cut, lst_cut, lst_tail]
    have d1 : (lst s).drop 6 = ((lst s).drop 6).take 6 ++ (lst s).drop 12 := by
      have := halves ((lst s).drop 6) 6; rw [List.drop_drop] at this; exact this.symm
    have d2 : (lst s).drop 12 = ((lst s).drop 12).take 2 ++ (lst s).drop 14 := by
      have := halves ((lst s).drop 12) 2; rw [List.drop_drop] at this; exact this.symm
    have d3 : (lst s).drop 14 = ((lst s).drop 14).take 2 ++ (lst s).drop 16 := by
      have := halves ((lst s).drop 14) 2; rw [List.drop_drop] at this; exact this.symm
    have d4 : (lst s).drop 16 = ((lst s).drop 16).take 2 ++ (lst s).drop 18 := by
      have := halves ((lst s).drop 16) 2; rw [List.drop_drop] at this; exact this.symm
    rw [List.append_assoc, ← d4, ← d3, ← d2, show 12 - 6 = 6 from rfl, ← d1, List.drop_zero]
    exact halves _ 6
  · have hF := readF_plain h3.1 ht
    rw [hF] at g3 g4 ⊢
    simp only at g3 g4 ⊢
    have e1 : lst (tagS (-1) 0) = [] := rfl
    rw [e1, List.nil_append, two_num s 12 (by omega), lst_cut, lst_cut, lst_tail]
    have d1 : (lst s).drop 6 = ((lst s).drop 6).take 6 ++ (lst s).drop 12 := by
      have := halves ((lst s).drop 6) 6; rw [List.drop_drop] at this; exact this.symm
    have d2 : (lst s).drop 12 = ((lst s).drop 12).take 2 ++ (lst s).drop 14 := by
      have := halves ((lst s).drop 12) 2; rw [List.drop_drop] at this; exact this.symm
    rw [← d2, show 12 - 6 = 6 from rfl, ← d1, List.drop_zero]
    exact halves _ 6
theorem build_parse {s : ByteArray} (h : parseE s = 0) : buildE (parseF s) = 0 ∧ buildS (parseF s) = s := by
  obtain ⟨h1, h2, h3, h4⟩ := parse_is h
  have hr := raw_read h2 h3
  have hs := raw_size h3
  obtain ⟨g1, g2, _, _⟩ := frameB_iff.1 h3
  rw [h4]
  obtain ⟨b1, b2⟩ := build_of h3 (by rw [hr] at hs; rw [tagS_size, g1, g2]; split <;> split at hs <;> omega)
  exact ⟨b2, by rw [b1, hr]⟩

end Go.Proofs.Ytalkpllmcigjnaa
