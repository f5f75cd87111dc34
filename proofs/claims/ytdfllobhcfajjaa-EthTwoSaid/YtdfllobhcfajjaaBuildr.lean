/-
  What the document's own Build answers, for every frame: the same as the code's.
-/
import Derived.Test.YtdfllobhcfajjaaBuild
namespace Go.Proofs.Ytdfllobhcfajjaa
open Go.RowKit

theorem refBuild_bad0 (d r : ByteArray) (v p t : Int) (b : ByteArray) (w : World)  (e1 : ((d.size : Int) != 6) = true) :
    Calls Try.prog 14 #[.agg #[.string d, .string r, .int .i64 v, .int .i64 p, .int .i64 t, .string b]] w fun e w' => e = .returned (.tuple #[.string ⟨#[]⟩, .int .i64 61]) ∧ Below w.heap.size w w' := by
  go_enter Try.func14, Try.ntmps14
  go_wp2_with fail
  go_ret2
  exact ⟨rfl, (Below.refl _ _).alloc (Nat.le_refl _) _⟩
theorem refBuild_bad1 (d r : ByteArray) (v p t : Int) (b : ByteArray) (w : World) (e1 : ((d.size : Int) != 6) = false) (e2 : ((r.size : Int) != 6) = true) :
    Calls Try.prog 14 #[.agg #[.string d, .string r, .int .i64 v, .int .i64 p, .int .i64 t, .string b]] w fun e w' => e = .returned (.tuple #[.string ⟨#[]⟩, .int .i64 61]) ∧ Below w.heap.size w w' := by
  go_enter Try.func14, Try.ntmps14
  go_wp2_with fail
  go_ret2
  exact ⟨rfl, (Below.refl _ _).alloc (Nat.le_refl _) _⟩
theorem refBuild_bad2 (d r : ByteArray) (v p t : Int) (b : ByteArray) (w : World) (e1 : ((d.size : Int) != 6) = false) (e2 : ((r.size : Int) != 6) = false) (e3 : v < -1) :
    Calls Try.prog 14 #[.agg #[.string d, .string r, .int .i64 v, .int .i64 p, .int .i64 t, .string b]] w fun e w' => e = .returned (.tuple #[.string ⟨#[]⟩, .int .i64 61]) ∧ Below w.heap.size w w' := by
  go_enter Try.func14, Try.ntmps14
  go_wp2_with fail
  go_ret2
  exact ⟨rfl, (Below.refl _ _).alloc (Nat.le_refl _) _⟩
theorem refBuild_bad3 (d r : ByteArray) (v p t : Int) (b : ByteArray) (w : World) (e1 : ((d.size : Int) != 6) = false) (e2 : ((r.size : Int) != 6) = false) (e3 : ¬ v < -1) (e4 : 4094 < v) :
    Calls Try.prog 14 #[.agg #[.string d, .string r, .int .i64 v, .int .i64 p, .int .i64 t, .string b]] w fun e w' => e = .returned (.tuple #[.string ⟨#[]⟩, .int .i64 61]) ∧ Below w.heap.size w w' := by
  go_enter Try.func14, Try.ntmps14
  go_wp2_with fail
  go_ret2
  exact ⟨rfl, (Below.refl _ _).alloc (Nat.le_refl _) _⟩
theorem refBuild_bad4 (d r : ByteArray) (v p t : Int) (b : ByteArray) (w : World) (e1 : ((d.size : Int) != 6) = false) (e2 : ((r.size : Int) != 6) = false) (e3 : ¬ v < -1) (e4 : ¬ 4094 < v) (e5 : p < 0) :
    Calls Try.prog 14 #[.agg #[.string d, .string r, .int .i64 v, .int .i64 p, .int .i64 t, .string b]] w fun e w' => e = .returned (.tuple #[.string ⟨#[]⟩, .int .i64 61]) ∧ Below w.heap.size w w' := by
  go_enter Try.func14, Try.ntmps14
  go_wp2_with fail
  go_ret2
  exact ⟨rfl, (Below.refl _ _).alloc (Nat.le_refl _) _⟩
theorem refBuild_bad5 (d r : ByteArray) (v p t : Int) (b : ByteArray) (w : World) (e1 : ((d.size : Int) != 6) = false) (e2 : ((r.size : Int) != 6) = false) (e3 : ¬ v < -1) (e4 : ¬ 4094 < v) (e5 : ¬ p < 0) (e6 : 7 < p) :
    Calls Try.prog 14 #[.agg #[.string d, .string r, .int .i64 v, .int .i64 p, .int .i64 t, .string b]] w fun e w' => e = .returned (.tuple #[.string ⟨#[]⟩, .int .i64 61]) ∧ Below w.heap.size w w' := by
  go_enter Try.func14, Try.ntmps14
  go_wp2_with fail
  go_ret2
  exact ⟨rfl, (Below.refl _ _).alloc (Nat.le_refl _) _⟩
theorem refBuild_kind (d r : ByteArray) (v p t : Int) (b : ByteArray) (w : World) (e1 : ((d.size : Int) != 6) = false) (e2 : ((r.size : Int) != 6) = false) (e3 : ¬ v < -1) (e4 : ¬ 4094 < v) (e5 : ¬ p < 0) (e6 : ¬ 7 < p) (hk : kindB t = false) :
    Calls Try.prog 14 #[.agg #[.string d, .string r, .int .i64 v, .int .i64 p, .int .i64 t, .string b]] w fun e w' => e = .returned (.tuple #[.string ⟨#[]⟩, .int .i64 61]) ∧ Below w.heap.size w w' := by
  have K := fun W => kind_any t W
  rw [hk] at K
  have HK := Lib.hid K
  clear K hk
  go_enter Try.func14, Try.ntmps14
  go_wp2_with (go_at_call 20; (with_reducible refine (HK.out _).mono ?_); rintro e w' ⟨rfl, rfl⟩)
  go_ret2
  exact ⟨rfl, (Below.refl _ _).alloc (Nat.le_refl _) _⟩
set_option maxHeartbeats 1600000 in
theorem refBuild_pri (d r : ByteArray) (v p t : Int) (b : ByteArray) (w : World) (e1 : ((d.size : Int) != 6) = false) (e2 : ((r.size : Int) != 6) = false) (e3 : ¬ v < -1) (e4 : ¬ 4094 < v) (e5 : ¬ p < 0) (e6 : ¬ 7 < p) (s1 : d.size ≤ 6) (s2 : r.size ≤ 6) (hv : v < 0) (hp : 0 < p) (hk : kindB t = true) :
    Calls Try.prog 14 #[.agg #[.string d, .string r, .int .i64 v, .int .i64 p, .int .i64 t, .string b]] w fun e w' => e = .returned (.tuple #[.string ⟨#[]⟩, .int .i64 61]) ∧ Below w.heap.size w w' := by
  have K := fun W => kind_any t W
  rw [hk] at K
  have HK := Lib.hid K
  clear K hk
  go_enter Try.func14, Try.ntmps14
  go_wp2_with (go_at_call 20; (with_reducible refine (HK.out _).mono ?_); rintro e w' ⟨rfl, rfl⟩)
  go_ret2
  exact ⟨rfl, (Below.refl _ _).alloc (Nat.le_refl _) _⟩
set_option maxHeartbeats 1600000 in
theorem refBuild_none_long (d r : ByteArray) (v p t : Int) (b : ByteArray) (w : World) (e1 : ((d.size : Int) != 6) = false) (e2 : ((r.size : Int) != 6) = false) (e3 : ¬ v < -1) (e4 : ¬ 4094 < v) (e5 : ¬ p < 0) (e6 : ¬ 7 < p) (s1 : d.size ≤ 6) (s2 : r.size ≤ 6) (hv : v < 0) (hp : ¬ 0 < p) (hk : kindB t = true) (hb : b.size ≤ 140737488351232) (hlen : 1518 < d.size + r.size + 2 + b.size) :
    Calls Try.prog 14 #[.agg #[.string d, .string r, .int .i64 v, .int .i64 p, .int .i64 t, .string b]] w fun e w' => e = .returned (.tuple #[.string (⟨#[]⟩), .int .i64 61]) ∧ Below w.heap.size w w' := by
  have h5 := kindB_iff.1 hk
  have Y := fun W => two_two t W (by omega) (by omega)
  have s4 := two_size t
  have HY := Lib.hid Y
  clear Y h5
  generalize two t = Z at *
  have s5 := Nat.le_of_eq s4
  have hl : 1518 < d.size + r.size + Z.size + b.size := by rw [s4]; exact hlen
  clear hlen s4
  have K := fun W => kind_any t W
  rw [hk] at K
  have HK := Lib.hid K
  clear K hk
  go_enter Try.func14, Try.ntmps14
  go_wp2_with (first | (go_at_call 20; (with_reducible refine (HK.out _).mono ?_); rintro e w' ⟨rfl, rfl⟩) | (go_at_call 23; (with_reducible refine (HY.out _).mono ?_); rintro e w1 ⟨rfl, hb1⟩; have hS := (Six.new w d r v p t b).next hb1; obtain ⟨i0, i1, i2, i3, i4, i5, _⟩ := hS.cells; clear hb1))
  go_ret2
  exact ⟨rfl, hS.below⟩
set_option maxHeartbeats 1600000 in
theorem refBuild_none_fits (d r : ByteArray) (v p t : Int) (b : ByteArray) (w : World) (e1 : ((d.size : Int) != 6) = false) (e2 : ((r.size : Int) != 6) = false) (e3 : ¬ v < -1) (e4 : ¬ 4094 < v) (e5 : ¬ p < 0) (e6 : ¬ 7 < p) (s1 : d.size ≤ 6) (s2 : r.size ≤ 6) (hv : v < 0) (hp : ¬ 0 < p) (hk : kindB t = true) (hb : b.size ≤ 140737488351232) (hlen : d.size + r.size + 2 + b.size ≤ 1518) :
    Calls Try.prog 14 #[.agg #[.string d, .string r, .int .i64 v, .int .i64 p, .int .i64 t, .string b]] w fun e w' => e = .returned (.tuple #[.string (d ++ r ++ two t ++ b), .int .i64 0]) ∧ Below w.heap.size w w' := by
  have h5 := kindB_iff.1 hk
  have Y := fun W => two_two t W (by omega) (by omega)
  have s4 := two_size t
  have HY := Lib.hid Y
  clear Y h5
  generalize two t = Z at *
  have s5 := Nat.le_of_eq s4
  have hl : d.size + r.size + Z.size + b.size ≤ 1518 := by rw [s4]; exact hlen
  clear hlen s4
  have K := fun W => kind_any t W
  rw [hk] at K
  have HK := Lib.hid K
  clear K hk
  go_enter Try.func14, Try.ntmps14
  go_wp2_with (first | (go_at_call 20; (with_reducible refine (HK.out _).mono ?_); rintro e w' ⟨rfl, rfl⟩) | (go_at_call 23; (with_reducible refine (HY.out _).mono ?_); rintro e w1 ⟨rfl, hb1⟩; have hS := (Six.new w d r v p t b).next hb1; obtain ⟨i0, i1, i2, i3, i4, i5, _⟩ := hS.cells; clear hb1))
  go_ret2
  exact ⟨rfl, hS.below⟩
set_option maxHeartbeats 1600000 in
theorem refBuild_tag_long (d r : ByteArray) (v p t : Int) (b : ByteArray) (w : World) (e1 : ((d.size : Int) != 6) = false) (e2 : ((r.size : Int) != 6) = false) (e3 : ¬ v < -1) (e4 : ¬ 4094 < v) (e5 : ¬ p < 0) (e6 : ¬ 7 < p) (s1 : d.size ≤ 6) (s2 : r.size ≤ 6) (hv : 0 ≤ v) (hk : kindB t = true) (hb : b.size ≤ 140737488351232) (hlen : 1518 < d.size + r.size + 4 + 2 + b.size) :
    Calls Try.prog 14 #[.agg #[.string d, .string r, .int .i64 v, .int .i64 p, .int .i64 t, .string b]] w fun e w' => e = .returned (.tuple #[.string (⟨#[]⟩), .int .i64 61]) ∧ Below w.heap.size w w' := by
  have h5 := kindB_iff.1 hk
  have Y := fun W => two_two t W (by omega) (by omega)
  have s4 := two_size t
  have HY := Lib.hid Y
  clear Y h5
  generalize two t = Z at *
  have A1 := fun W => two_two 33024 W (by omega) (by omega)
  have A2 := fun W => two_two (8192 * p + v) W (by omega) (by omega)
  have x1 := two_size 33024
  have x2 := two_size (8192 * p + v)
  generalize two 33024 = X at *
  generalize two (8192 * p + v) = Y at *
  have HA1 := Lib.hid A1
  have HA2 := Lib.hid A2
  clear A1 A2
  have s5 := Nat.le_of_eq s4
  have x3 := Nat.le_of_eq x1
  have x4 := Nat.le_of_eq x2
  have hl : 1518 < d.size + r.size + (X.size + Y.size) + Z.size + b.size := by rw [s4, x1, x2]; exact hlen
  clear hlen s4 x1 x2
  have q1 : ¬ 9223372036854775807 < X.size + Y.size := by omega
  have q2 : ¬ 9223372036854775807 < d.size + r.size + (X.size + Y.size) := by omega
  have q3 : IntKind.i64.wrap (8192 * p) = 8192 * p := IntWalk.i64_in _ (by omega)
  have q4 : IntKind.i64.wrap (8192 * p + v) = 8192 * p + v := IntWalk.i64_in _ (by omega)
  have K := fun W => kind_any t W
  rw [hk] at K
  have HK := Lib.hid K
  clear K hk
  go_enter Try.func14, Try.ntmps14
  go_wp2_with (go_at_call 20; (with_reducible refine (HK.out _).mono ?_); rintro e w' ⟨rfl, rfl⟩)
  have hS0 := Six.new w d r v p t b
  have c0 := hS0.cells
  have c1 := hS0.drew.cells
  go_region_held3 (fun w' => w'.cell? ⟨w.heap.size, 0, none⟩ = some (.string d) ∧ w'.cell? ⟨w.heap.size, 1, none⟩ = some (.string r) ∧ w'.cell? ⟨w.heap.size, 2, none⟩ = some (.int .i64 v) ∧
    w'.cell? ⟨w.heap.size, 3, none⟩ = some (.int .i64 p) ∧ w'.cell? ⟨w.heap.size, 4, none⟩ = some (.int .i64 t) ∧ w'.cell? ⟨w.heap.size, 5, none⟩ = some (.string b) ∧ Six w d r v p t b w')
    (first | exact c0 | exact c1 | assumption | exact six_next (by assumption) hq)
    (first
      | (go_at_call 23; ((with_reducible refine (HA1.out _).mono ?_); rintro e w' ⟨rfl, hq⟩))
      | (go_at_call 23; ((with_reducible refine (HA2.out _).mono ?_); rintro e w' ⟨rfl, hq⟩)))
  rename_i hH
  obtain ⟨j0, j1, j2, j3, j4, j5, hE⟩ := hH
  clear q1 q2 q3 q4 c0 c1 hS0
  go_wp2_with (go_at_call 23; (with_reducible refine (HY.out _).mono ?_); rintro e w1 ⟨rfl, hb1⟩; have hS := hE.next hb1; obtain ⟨i0, i1, i2, i3, i4, i5, _⟩ := hS.cells; clear hb1)
  go_ret2
  exact ⟨rfl, hS.below⟩
set_option maxHeartbeats 1600000 in
theorem refBuild_tag_fits (d r : ByteArray) (v p t : Int) (b : ByteArray) (w : World) (e1 : ((d.size : Int) != 6) = false) (e2 : ((r.size : Int) != 6) = false) (e3 : ¬ v < -1) (e4 : ¬ 4094 < v) (e5 : ¬ p < 0) (e6 : ¬ 7 < p) (s1 : d.size ≤ 6) (s2 : r.size ≤ 6) (hv : 0 ≤ v) (hk : kindB t = true) (hb : b.size ≤ 140737488351232) (hlen : d.size + r.size + 4 + 2 + b.size ≤ 1518) :
    Calls Try.prog 14 #[.agg #[.string d, .string r, .int .i64 v, .int .i64 p, .int .i64 t, .string b]] w fun e w' => e = .returned (.tuple #[.string (d ++ r ++ (two 33024 ++ two (8192 * p + v)) ++ two t ++ b), .int .i64 0]) ∧ Below w.heap.size w w' := by
  have h5 := kindB_iff.1 hk
  have Y := fun W => two_two t W (by omega) (by omega)
  have s4 := two_size t
  have HY := Lib.hid Y
  clear Y h5
  generalize two t = Z at *
  have A1 := fun W => two_two 33024 W (by omega) (by omega)
  have A2 := fun W => two_two (8192 * p + v) W (by omega) (by omega)
  have x1 := two_size 33024
  have x2 := two_size (8192 * p + v)
  generalize two 33024 = X at *
  generalize two (8192 * p + v) = Y at *
  have HA1 := Lib.hid A1
  have HA2 := Lib.hid A2
  clear A1 A2
  have s5 := Nat.le_of_eq s4
  have x3 := Nat.le_of_eq x1
  have x4 := Nat.le_of_eq x2
  have hl : d.size + r.size + (X.size + Y.size) + Z.size + b.size ≤ 1518 := by rw [s4, x1, x2]; exact hlen
  clear hlen s4 x1 x2
  have q1 : ¬ 9223372036854775807 < X.size + Y.size := by omega
  have q2 : ¬ 9223372036854775807 < d.size + r.size + (X.size + Y.size) := by omega
  have q3 : IntKind.i64.wrap (8192 * p) = 8192 * p := IntWalk.i64_in _ (by omega)
  have q4 : IntKind.i64.wrap (8192 * p + v) = 8192 * p + v := IntWalk.i64_in _ (by omega)
  have K := fun W => kind_any t W
  rw [hk] at K
  have HK := Lib.hid K
  clear K hk
  go_enter Try.func14, Try.ntmps14
  go_wp2_with (go_at_call 20; (with_reducible refine (HK.out _).mono ?_); rintro e w' ⟨rfl, rfl⟩)
  have hS0 := Six.new w d r v p t b
  have c0 := hS0.cells
  have c1 := hS0.drew.cells
  go_region_held3 (fun w' => w'.cell? ⟨w.heap.size, 0, none⟩ = some (.string d) ∧ w'.cell? ⟨w.heap.size, 1, none⟩ = some (.string r) ∧ w'.cell? ⟨w.heap.size, 2, none⟩ = some (.int .i64 v) ∧
    w'.cell? ⟨w.heap.size, 3, none⟩ = some (.int .i64 p) ∧ w'.cell? ⟨w.heap.size, 4, none⟩ = some (.int .i64 t) ∧ w'.cell? ⟨w.heap.size, 5, none⟩ = some (.string b) ∧ Six w d r v p t b w')
    (first | exact c0 | exact c1 | assumption | exact six_next (by assumption) hq)
    (first
      | (go_at_call 23; ((with_reducible refine (HA1.out _).mono ?_); rintro e w' ⟨rfl, hq⟩))
      | (go_at_call 23; ((with_reducible refine (HA2.out _).mono ?_); rintro e w' ⟨rfl, hq⟩)))
  rename_i hH
  obtain ⟨j0, j1, j2, j3, j4, j5, hE⟩ := hH
  clear q1 q2 q3 q4 c0 c1 hS0
  go_wp2_with (go_at_call 23; (with_reducible refine (HY.out _).mono ?_); rintro e w1 ⟨rfl, hb1⟩; have hS := hE.next hb1; obtain ⟨i0, i1, i2, i3, i4, i5, _⟩ := hS.cells; clear hb1)
  go_ret2
  exact ⟨rfl, hS.below⟩
theorem build_out {f : Fr} (h : ¬ (frameB f = true ∧ f.d.size + f.r.size + (tagS f.v f.p).size + 2 + f.b.size ≤ 1518)) : buildS f = ⟨#[]⟩ ∧ buildE f = 61 := ⟨if_neg h, if_neg h⟩
theorem build_in {f : Fr} (h : frameB f = true ∧ f.d.size + f.r.size + (tagS f.v f.p).size + 2 + f.b.size ≤ 1518) : buildS f = f.d ++ f.r ++ tagS f.v f.p ++ two f.t ++ f.b ∧ buildE f = 0 := ⟨if_pos h, if_pos h⟩
theorem ne6 {n : Nat} (h : n ≠ 6) : ((n : Int) != 6) = true := by
  have : (n : Int) ≠ 6 := by omega
  simpa using this
theorem eq6 {n : Nat} (h : n = 6) : ((n : Int) != 6) = false := by rw [h]; rfl
theorem refBuild_any (f : Fr) (w : World) (hb : f.b.size ≤ 140737488351232) :
    Calls Try.prog 14 #[.agg #[.string f.d, .string f.r, .int .i64 f.v, .int .i64 f.p, .int .i64 f.t, .string f.b]] w fun e w' => e = .returned (.tuple #[.string (buildS f), .int .i64 (buildE f)]) ∧ Below w.heap.size w w' := by
  cases h : frameB f
  · obtain ⟨e1, e2⟩ := build_out (f := f) (by rw [h]; simp)
    rw [e1, e2]
    have hn : ¬ (f.d.size = 6 ∧ f.r.size = 6 ∧ tagB f.v f.p = true ∧ kindB f.t = true) := fun x => by rw [frameB_iff.2 x] at h; cases h
    by_cases h1 : f.d.size = 6
    · by_cases h2 : f.r.size = 6
      · by_cases h3 : f.v < -1
        · exact refBuild_bad2 _ _ _ _ _ _ w (eq6 h1) (eq6 h2) h3
        · by_cases h4 : 4094 < f.v
          · exact refBuild_bad3 _ _ _ _ _ _ w (eq6 h1) (eq6 h2) h3 h4
          · by_cases h5 : f.p < 0
            · exact refBuild_bad4 _ _ _ _ _ _ w (eq6 h1) (eq6 h2) h3 h4 h5
            · by_cases h6 : 7 < f.p
              · exact refBuild_bad5 _ _ _ _ _ _ w (eq6 h1) (eq6 h2) h3 h4 h5 h6
              · cases h7 : kindB f.t
                · exact refBuild_kind _ _ _ _ _ _ w (eq6 h1) (eq6 h2) h3 h4 h5 h6 h7
                · have h8 : f.v = -1 ∧ f.p ≠ 0 := by
                    by_cases e : f.v = -1
                    · refine ⟨e, fun e' => hn ⟨h1, h2, ?_, h7⟩⟩
                      rw [tagB, if_pos e]; exact decide_eq_true e'
                    · exact absurd ⟨h1, h2, by rw [tagB, if_neg e]; exact decide_eq_true (by omega), h7⟩ hn
                  exact refBuild_pri _ _ _ _ _ _ w (eq6 h1) (eq6 h2) h3 h4 h5 h6 (by omega) (by omega) (by omega) (by omega) h7
      · exact refBuild_bad1 _ _ _ _ _ _ w (eq6 h1) (ne6 h2)
    · exact refBuild_bad0 _ _ _ _ _ _ w (ne6 h1)
  · obtain ⟨h1, h2, h3, h7⟩ := frameB_iff.1 h
    rcases tagB_cases h3 with ⟨hv, hp⟩ | ⟨a0, a1, a2, a3⟩
    · have eT : tagS f.v f.p = ⟨#[]⟩ := if_pos hv
      by_cases hl : f.d.size + f.r.size + (tagS f.v f.p).size + 2 + f.b.size ≤ 1518
      · obtain ⟨e1, e2⟩ := build_in ⟨h, hl⟩
        rw [e1, e2]
        rw [eT] at hl ⊢
        have e3 : f.d ++ f.r ++ (⟨#[]⟩ : ByteArray) = f.d ++ f.r := ByteArray.append_empty
        rw [e3]
        exact refBuild_none_fits _ _ _ _ _ _ w (eq6 h1) (eq6 h2) (by omega) (by omega) (by omega) (by omega) (by omega) (by omega) (by omega) (by omega) h7 hb hl
      · obtain ⟨e1, e2⟩ := build_out (fun x => hl x.2)
        rw [e1, e2]
        rw [eT] at hl
        have hl' : ¬ (f.d.size + f.r.size + 2 + f.b.size ≤ 1518) := hl
        exact refBuild_none_long _ _ _ _ _ _ w (eq6 h1) (eq6 h2) (by omega) (by omega) (by omega) (by omega) (by omega) (by omega) (by omega) (by omega) h7 hb (by omega)
    · have hv : f.v ≠ -1 := by omega
      have eT : tagS f.v f.p = two 33024 ++ two (8192 * f.p + f.v) := if_neg hv
      have eS : (tagS f.v f.p).size = 4 := by rw [tagS_size, if_neg hv]
      by_cases hl : f.d.size + f.r.size + (tagS f.v f.p).size + 2 + f.b.size ≤ 1518
      · obtain ⟨e1, e2⟩ := build_in ⟨h, hl⟩
        rw [e1, e2, eT]
        rw [eS] at hl
        exact refBuild_tag_fits _ _ _ _ _ _ w (eq6 h1) (eq6 h2) (by omega) (by omega) (by omega) (by omega) (by omega) (by omega) a0 h7 hb hl
      · obtain ⟨e1, e2⟩ := build_out (fun x => hl x.2)
        rw [e1, e2]
        rw [eS] at hl
        exact refBuild_tag_long _ _ _ _ _ _ w (eq6 h1) (eq6 h2) (by omega) (by omega) (by omega) (by omega) (by omega) (by omega) a0 h7 hb (by omega)
end Go.Proofs.Ytdfllobhcfajjaa
