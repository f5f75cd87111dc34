/-
  Sums: what the document's Pseudo, Sum, Complete and Finish answer.
-/
import Derived.Test.YtalkpllmcigjnaaMj
import Derived.Test.YtalkpllmcigjnaaMk
namespace Go.Proofs.Ytalkpllmcigjnaa
open Go.RowKit

set_option maxRecDepth 100000 in
set_option maxHeartbeats 3200000 in
theorem rpseudo_4 (src dst : ByteArray) (proto hops cls id flags off label : Int) (opt body : ByteArray) (n : Int) (w : World) (hs : src.size = 4) (hd : dst.size = 4) (hp : 0 ≤ proto ∧ proto ≤ 255) (hn : 0 ≤ n ∧ n ≤ 65535) :
    Calls Try.prog 40 #[.agg #[.int .i64 4, .string src, .string dst, .int .i64 proto, .int .i64 hops, .int .i64 cls, .int .i64 id, .int .i64 flags, .int .i64 off, .int .i64 label, .string opt, .string body], .int .i64 n] w fun e w' => e = .returned (.string (src ++ dst ++ bs 0 1 ++ bs proto 1 ++ bs n 2)) ∧ Below w.heap.size w w' := by
  have tn : n.tmod 65536 = n := by rw [Int.tmod_eq_emod_of_nonneg hn.1]; omega
  have A0 := fun W => rput82_1 0 W (by omega) (by omega)
  have s0 := Nat.le_of_eq (bs_size 0 1)
  have A1 := fun W => rput82_1 proto W (by omega) (by omega)
  have s1 := Nat.le_of_eq (bs_size proto 1)
  have A2 := fun W => rput82_2 n W (by omega) (by omega)
  have s2 := Nat.le_of_eq (bs_size n 2)
  have s9 := Nat.le_of_eq hs
  have s10 := Nat.le_of_eq hd
  generalize bs 0 1 = T0 at *
  generalize bs proto 1 = T1 at *
  generalize bs n 2 = T2 at *
  have H0 := Lib.hid A0
  have H1 := Lib.hid A1
  have H2 := Lib.hid A2
  clear A0 A1 A2 hs hd hp
  have z2 : ¬ 9223372036854775807 < src.size + dst.size := by omega
  have z3 : ¬ 9223372036854775807 < src.size + dst.size + T0.size := by omega
  have z4 : ¬ 9223372036854775807 < src.size + dst.size + T0.size + T1.size := by omega
  have z5 : ¬ 9223372036854775807 < src.size + dst.size + T0.size + T1.size + T2.size := by omega
  go_enter Try.func40, Try.ntmps40
  go_wp2_with fail
  have c0 := pk_new w 4 src dst proto hops cls id flags off label opt body
  go_region_held3 (fun w' => (w'.cell? ⟨w.heap.size, 0, none⟩ = some (.int .i64 4) ∧ w'.cell? ⟨w.heap.size, 1, none⟩ = some (.string src) ∧ w'.cell? ⟨w.heap.size, 2, none⟩ = some (.string dst) ∧ w'.cell? ⟨w.heap.size, 3, none⟩ = some (.int .i64 proto) ∧ w'.cell? ⟨w.heap.size, 4, none⟩ = some (.int .i64 hops) ∧ w'.cell? ⟨w.heap.size, 5, none⟩ = some (.int .i64 cls) ∧ w'.cell? ⟨w.heap.size, 6, none⟩ = some (.int .i64 id) ∧ w'.cell? ⟨w.heap.size, 7, none⟩ = some (.int .i64 flags) ∧ w'.cell? ⟨w.heap.size, 8, none⟩ = some (.int .i64 off) ∧ w'.cell? ⟨w.heap.size, 9, none⟩ = some (.int .i64 label) ∧ w'.cell? ⟨w.heap.size, 10, none⟩ = some (.string opt) ∧ w'.cell? ⟨w.heap.size, 11, none⟩ = some (.string body)) ∧ Held w 36 #[.int .i64 4, .string src, .string dst, .int .i64 proto, .int .i64 hops, .int .i64 cls, .int .i64 id, .int .i64 flags, .int .i64 off, .int .i64 label, .string opt, .string body] w')
    (first | exact c0 | assumption | exact pk_next (by assumption) hq)
    (first | (go_at_call 82; (first | (with_reducible refine (H0.out _).mono ?_) | (with_reducible refine (H1.out _).mono ?_) | (with_reducible refine (H2.out _).mono ?_)); rintro e w' ⟨rfl, hq⟩))
  all_goals
    rename_i hH
    go_wp2
    go_ret
    exact ⟨rfl, hH.2.below⟩
set_option maxRecDepth 100000 in
set_option maxHeartbeats 3200000 in
theorem rpseudo_6 (src dst : ByteArray) (proto hops cls id flags off label : Int) (opt body : ByteArray) (n : Int) (w : World) (hs : src.size = 16) (hd : dst.size = 16) (hp : 0 ≤ proto ∧ proto ≤ 255) (hn : 0 ≤ n ∧ n ≤ 65535) :
    Calls Try.prog 40 #[.agg #[.int .i64 6, .string src, .string dst, .int .i64 proto, .int .i64 hops, .int .i64 cls, .int .i64 id, .int .i64 flags, .int .i64 off, .int .i64 label, .string opt, .string body], .int .i64 n] w fun e w' => e = .returned (.string (src ++ dst ++ bs n 4 ++ bs 0 3 ++ bs proto 1)) ∧ Below w.heap.size w w' := by
  have tn : n.tmod 4294967296 = n := by rw [Int.tmod_eq_emod_of_nonneg hn.1]; omega
  have A0 := fun W => rput82_4 n W (by omega) (by omega)
  have s0 := Nat.le_of_eq (bs_size n 4)
  have A1 := fun W => rput82_3 0 W (by omega) (by omega)
  have s1 := Nat.le_of_eq (bs_size 0 3)
  have A2 := fun W => rput82_1 proto W (by omega) (by omega)
  have s2 := Nat.le_of_eq (bs_size proto 1)
  have s9 := Nat.le_of_eq hs
  have s10 := Nat.le_of_eq hd
  generalize bs n 4 = T0 at *
  generalize bs 0 3 = T1 at *
  generalize bs proto 1 = T2 at *
  have H0 := Lib.hid A0
  have H1 := Lib.hid A1
  have H2 := Lib.hid A2
  clear A0 A1 A2 hs hd hp
  have z2 : ¬ 9223372036854775807 < src.size + dst.size := by omega
  have z3 : ¬ 9223372036854775807 < src.size + dst.size + T0.size := by omega
  have z4 : ¬ 9223372036854775807 < src.size + dst.size + T0.size + T1.size := by omega
  have z5 : ¬ 9223372036854775807 < src.size + dst.size + T0.size + T1.size + T2.size := by omega
  go_enter Try.func40, Try.ntmps40
  go_wp2_with fail
  have c0 := pk_new w 6 src dst proto hops cls id flags off label opt body
  go_region_held3 (fun w' => (w'.cell? ⟨w.heap.size, 0, none⟩ = some (.int .i64 6) ∧ w'.cell? ⟨w.heap.size, 1, none⟩ = some (.string src) ∧ w'.cell? ⟨w.heap.size, 2, none⟩ = some (.string dst) ∧ w'.cell? ⟨w.heap.size, 3, none⟩ = some (.int .i64 proto) ∧ w'.cell? ⟨w.heap.size, 4, none⟩ = some (.int .i64 hops) ∧ w'.cell? ⟨w.heap.size, 5, none⟩ = some (.int .i64 cls) ∧ w'.cell? ⟨w.heap.size, 6, none⟩ = some (.int .i64 id) ∧ w'.cell? ⟨w.heap.size, 7, none⟩ = some (.int .i64 flags) ∧ w'.cell? ⟨w.heap.size, 8, none⟩ = some (.int .i64 off) ∧ w'.cell? ⟨w.heap.size, 9, none⟩ = some (.int .i64 label) ∧ w'.cell? ⟨w.heap.size, 10, none⟩ = some (.string opt) ∧ w'.cell? ⟨w.heap.size, 11, none⟩ = some (.string body)) ∧ Held w 36 #[.int .i64 6, .string src, .string dst, .int .i64 proto, .int .i64 hops, .int .i64 cls, .int .i64 id, .int .i64 flags, .int .i64 off, .int .i64 label, .string opt, .string body] w')
    (first | exact c0 | assumption | exact pk_next (by assumption) hq)
    (first | (go_at_call 82; (first | (with_reducible refine (H0.out _).mono ?_) | (with_reducible refine (H1.out _).mono ?_) | (with_reducible refine (H2.out _).mono ?_)); rintro e w' ⟨rfl, hq⟩))
  all_goals
    rename_i hH
    go_wp2
    go_ret
    exact ⟨rfl, hH.2.below⟩
set_option maxRecDepth 100000 in
set_option maxHeartbeats 3200000 in
theorem rsum_walk (v : Int) (src dst : ByteArray) (proto hops cls id flags off label : Int) (opt body : ByteArray) (s ps : ByteArray) (w : World) (hs : s.size ≤ 65535) (hps : ps.size ≤ 40) (h12 : atV proto + 2 ≤ s.size)
    (AP : ∀ W, Calls Try.prog 40 #[.agg #[.int .i64 v, .string src, .string dst, .int .i64 proto, .int .i64 hops, .int .i64 cls, .int .i64 id, .int .i64 flags, .int .i64 off, .int .i64 label, .string opt, .string body], .int .i64 s.size] W fun e w' => e = .returned (.string ps) ∧ Below W.heap.size W w') :
    Calls Try.prog 79 #[.agg #[.int .i64 v, .string src, .string dst, .int .i64 proto, .int .i64 hops, .int .i64 cls, .int .i64 id, .int .i64 flags, .int .i64 off, .int .i64 label, .string opt, .string body], .string s] w fun e w' => e = .returned (.int .u16 (segSum (ps ++ withS s (atV proto) 0))) ∧ Below w.heap.size w w' := by
  have hz := withS_size s (atV proto) 0 h12
  have A0 := fun W => rAt_any v src dst proto hops cls id flags off label opt body W
  have A1 : ∀ W, Calls Try.prog 62 #[.string s, .int .i64 (atV proto), .int .u16 0] W fun e w' => e = .returned (.string (withS s (atV proto) 0)) ∧ Below W.heap.size W w' := fun W => rset_any s (atV proto) 0 W (by omega) h12 (by omega) (by omega)
  obtain ⟨Y, hY⟩ : ∃ Y, withS s (atV proto) 0 = Y := ⟨_, rfl⟩
  rw [hY] at A1 hz ⊢
  clear hY h12
  have A2 := fun W => sumr_any (ps ++ Y) W (by rw [ByteArray.size_append]; unfold maxLen; omega)
  have A3 := fun W => full_any (65535 - onS 0 (ps ++ Y)) W
  have e3 : fullV (65535 - onS 0 (ps ++ Y)) = segSum (ps ++ Y) := rfl
  rw [e3] at A3
  generalize atV proto = at0 at *
  generalize segSum (ps ++ Y) = V at *
  generalize 65535 - onS 0 (ps ++ Y) = U at *
  have hz' : Y.size ≤ 65535 := by omega
  clear hz
  have z1 : ¬ 9223372036854775807 < ps.size + Y.size := by omega
  have H0 := Lib.hid A0
  have H1 := Lib.hid A1
  have H2 := Lib.hid A2
  have H3 := Lib.hid A3
  have HP := Lib.hid AP
  clear A0 A1 A2 A3 AP e3
  go_enter Try.func79, Try.ntmps79
  go_wp2_with fail
  have c0 := pk_new w v src dst proto hops cls id flags off label opt body
  go_region_held3 (fun w' => (w'.cell? ⟨w.heap.size, 0, none⟩ = some (.int .i64 v) ∧ w'.cell? ⟨w.heap.size, 1, none⟩ = some (.string src) ∧ w'.cell? ⟨w.heap.size, 2, none⟩ = some (.string dst) ∧ w'.cell? ⟨w.heap.size, 3, none⟩ = some (.int .i64 proto) ∧ w'.cell? ⟨w.heap.size, 4, none⟩ = some (.int .i64 hops) ∧ w'.cell? ⟨w.heap.size, 5, none⟩ = some (.int .i64 cls) ∧ w'.cell? ⟨w.heap.size, 6, none⟩ = some (.int .i64 id) ∧ w'.cell? ⟨w.heap.size, 7, none⟩ = some (.int .i64 flags) ∧ w'.cell? ⟨w.heap.size, 8, none⟩ = some (.int .i64 off) ∧ w'.cell? ⟨w.heap.size, 9, none⟩ = some (.int .i64 label) ∧ w'.cell? ⟨w.heap.size, 10, none⟩ = some (.string opt) ∧ w'.cell? ⟨w.heap.size, 11, none⟩ = some (.string body)) ∧ Held w 36 #[.int .i64 v, .string src, .string dst, .int .i64 proto, .int .i64 hops, .int .i64 cls, .int .i64 id, .int .i64 flags, .int .i64 off, .int .i64 label, .string opt, .string body] w')
    (first | exact c0 | assumption | exact pk_next (by assumption) hq)
    (first
      | (go_at_call 40; ((with_reducible refine (HP.out _).mono ?_); rintro e w' ⟨rfl, hq⟩))
      | (go_at_call 38; ((with_reducible refine (H0.out _).mono ?_); rintro e w' ⟨rfl, hq⟩))
      | (go_at_call 62; ((with_reducible refine (H1.out _).mono ?_); rintro e w' ⟨rfl, hq⟩))
      | (go_at_call 64; ((with_reducible refine (H2.out _).mono ?_); rintro e w' ⟨rfl, rfl⟩))
      | (go_at_call 63; ((with_reducible refine (H3.out _).mono ?_); rintro e w' ⟨rfl, rfl⟩)))
  all_goals
    rename_i hH
    go_wp2
    go_ret
    exact ⟨rfl, hH.2.below⟩
theorem rcomplete_out (s : ByteArray) (a o : Int) (w : World) (h : (inB a s.size && inB o s.size) = false) :
    Calls Try.prog 27 #[.string s, .int .i64 a, .int .i64 o] w fun e w' => e = .returned (.tuple #[.string ⟨#[]⟩, .int .i64 1]) ∧ Below w.heap.size w w' := by
  have A1 := in61 a s.size
  have A2 := in61 o s.size
  generalize inB a s.size = b1 at *
  generalize inB o s.size = b2 at *
  have H1 := Lib.hid A1
  have H2 := Lib.hid A2
  clear A1 A2
  cases b1
  · go_enter Try.func27, Try.ntmps27
    go_wp2_with (go_at_call 61; (with_reducible refine (H1.out _).mono ?_); rintro e w' ⟨rfl, rfl⟩)
    go_ret2
    exact ⟨rfl, Below.refl _ _⟩
  · obtain rfl : b2 = false := by simpa using h
    go_enter Try.func27, Try.ntmps27
    go_wp2_with (go_at_call 61; (first | (with_reducible refine (H1.out _).mono ?_) | (with_reducible refine (H2.out _).mono ?_)); rintro e w' ⟨rfl, rfl⟩)
    go_ret2
    exact ⟨rfl, Below.refl _ _⟩
theorem rcomplete_over (s : ByteArray) (a o : Int) (w : World) (hs : s.size ≤ 281474976710656) (ha : 0 ≤ a) (ha' : a ≤ s.size) (ho : 0 ≤ o) (ho' : o ≤ s.size) (h : ¬ a + o + 2 ≤ s.size) :
    Calls Try.prog 27 #[.string s, .int .i64 a, .int .i64 o] w fun e w' => e = .returned (.tuple #[.string ⟨#[]⟩, .int .i64 1]) ∧ Below w.heap.size w w' := by
  have A1 := in61 a s.size
  have A2 := in61 o s.size
  rw [show inB a s.size = true by simp [inB]; omega] at A1
  rw [show inB o s.size = true by simp [inB]; omega] at A2
  have H1 := Lib.hid A1
  have H2 := Lib.hid A2
  clear A1 A2
  go_enter Try.func27, Try.ntmps27
  go_wp2_with (go_at_call 61; (first | (with_reducible refine (H1.out _).mono ?_) | (with_reducible refine (H2.out _).mono ?_)); rintro e w' ⟨rfl, rfl⟩)
  go_ret2
  exact ⟨rfl, Below.refl _ _⟩
set_option maxHeartbeats 800000 in
theorem rcomplete_in (s : ByteArray) (k j : Nat) (w : World) (hs : s.size ≤ 281474976710656) (h : k + j + 2 ≤ s.size) :
    Calls Try.prog 27 #[.string s, .int .i64 k, .int .i64 j] w fun e w' => e = .returned (.tuple #[.string (withS s (k + j) (segSum (s.extract k s.size))), .int .i64 0]) ∧ Below w.heap.size w w' := by
  have A1 := in61 k s.size
  have A2 := in61 j s.size
  rw [show inB (k : Int) s.size = true by simp [inB]; omega] at A1
  rw [show inB (j : Int) s.size = true by simp [inB]; omega] at A2
  have A3 := fun W => sumr_any (s.extract k s.size) W (by rw [ByteArray.size_extract]; unfold maxLen; omega)
  have A4 := fun W => full_any (65535 - onS 0 (s.extract k s.size)) W
  have hV := segSum_range (s.extract k s.size)
  have e3 : fullV (65535 - onS 0 (s.extract k s.size)) = segSum (s.extract k s.size) := rfl
  rw [e3] at A4
  have A5 : ∀ W, Calls Try.prog 62 #[.string s, .int .i64 ((k : Int) + j), .int .u16 (segSum (s.extract k s.size))] W fun e w' => e = .returned (.string (withS s (k + j) (segSum (s.extract k s.size)))) ∧ Below W.heap.size W w' := fun W => by
    have := rset_any s (k + j) (segSum (s.extract k s.size)) W hs (by omega) hV.1 hV.2
    rw [show ((k + j : Nat) : Int) = (k : Int) + j by omega] at this
    exact this
  generalize withS s (k + j) (segSum (s.extract k s.size)) = R at *
  generalize segSum (s.extract k s.size) = V at *
  generalize 65535 - onS 0 (s.extract k s.size) = U at *
  have H1 := Lib.hid A1
  have H2 := Lib.hid A2
  have H3 := Lib.hid A3
  have H4 := Lib.hid A4
  have H5 := Lib.hid A5
  clear A1 A2 A3 A4 A5 e3
  have i0 : (k : Int) ≤ s.size := by omega
  go_enter Try.func27, Try.ntmps27
  go_wp2_with (first | (go_at_call 61; (first | (with_reducible refine (H1.out _).mono ?_) | (with_reducible refine (H2.out _).mono ?_)); rintro e w' ⟨rfl, rfl⟩) | (go_at_call 64; (with_reducible refine (H3.out _).mono ?_); rintro e w' ⟨rfl, rfl⟩) | (go_at_call 63; (with_reducible refine (H4.out _).mono ?_); rintro e w' ⟨rfl, rfl⟩))
  refine (H5.out _).mono ?_
  rintro e w1 ⟨rfl, hq⟩
  go_wp2_with fail
  go_ret2
  exact ⟨rfl, hq⟩
theorem rcomplete_any (s : ByteArray) (a o : Int) (w : World) (hs : s.size ≤ 281474976710656) :
    Calls Try.prog 27 #[.string s, .int .i64 a, .int .i64 o] w fun e w' => e = .returned (.tuple #[.string (comS s a o), .int .i64 (comE s a o)]) ∧ Below w.heap.size w w' := by
  by_cases h : (inB a s.size && inB o s.size) = true
  · obtain ⟨⟨g1, g2⟩, g3, g4⟩ : (0 ≤ a ∧ a ≤ s.size) ∧ 0 ≤ o ∧ o ≤ s.size := by simpa [inB] using h
    by_cases h2 : a + o + 2 ≤ s.size
    · have e : comB2 s a o = true := comB2_iff.2 ⟨g1, g2, g3, g4, h2⟩
      obtain ⟨k, rfl⟩ := Int.eq_ofNat_of_zero_le g1
      obtain ⟨j, rfl⟩ := Int.eq_ofNat_of_zero_le g3
      rw [comS, comE, e, if_pos rfl, if_pos rfl, show ((k : Int) + (j : Nat)).toNat = k + j by omega, Int.toNat_natCast]
      exact rcomplete_in s k j w hs (by omega)
    · have e : comB2 s a o = false := by
        cases hb : comB2 s a o
        · rfl
        · exact absurd (comB2_iff.1 hb).2.2.2.2 h2
      rw [comS, comE, e, if_neg (by decide), if_neg (by decide)]
      exact rcomplete_over s a o w hs g1 g2 g3 g4 h2
  · have h' : (inB a s.size && inB o s.size) = false := by simpa using h
    have e : comB2 s a o = false := by unfold comB2; rw [h']; rfl
    rw [comS, comE, e, if_neg (by decide), if_neg (by decide)]
    exact rcomplete_out s a o w h'
theorem rfin_gso (flags gso len siz start off count : Int) (s : ByteArray) (w : World) (h : (gso != 0) = true) :
    Calls Try.prog 16 #[.agg #[.int .i64 flags, .int .i64 gso, .int .i64 len, .int .i64 siz, .int .i64 start, .int .i64 off, .int .i64 count], .string s] w fun e w' => e = .returned (.tuple #[.string ⟨#[]⟩, .int .i64 101]) ∧ Below w.heap.size w w' := by
  go_enter Try.func16, Try.ntmps16
  go_wp2_with fail
  go_ret2
  exact ⟨rfl, (Below.refl _ _).alloc (Nat.le_refl _) _⟩
theorem rfin_not (flags len siz start off count : Int) (s : ByteArray) (w : World) (h : bits .and .i64 flags 1 = 0) :
    Calls Try.prog 16 #[.agg #[.int .i64 flags, .int .i64 0, .int .i64 len, .int .i64 siz, .int .i64 start, .int .i64 off, .int .i64 count], .string s] w fun e w' => e = .returned (.tuple #[.string s, .int .i64 0]) ∧ Below w.heap.size w w' := by
  go_enter Try.func16, Try.ntmps16
  go_wp2_with fail
  go_ret2
  exact ⟨rfl, (Below.refl _ _).alloc (Nat.le_refl _) _⟩
theorem rfin_yes (flags len siz start off count : Int) (s R : ByteArray) (E : Int) (w : World) (h : bits .and .i64 flags 1 = 1) (hE : E = 0 ∨ E = 1) (A : ∀ W, Calls Try.prog 27 #[.string s, .int .i64 start, .int .i64 off] W fun e w' => e = .returned (.tuple #[.string R, .int .i64 E]) ∧ Below W.heap.size W w') :
    Calls Try.prog 16 #[.agg #[.int .i64 flags, .int .i64 0, .int .i64 len, .int .i64 siz, .int .i64 start, .int .i64 off, .int .i64 count], .string s] w fun e w' => e = .returned (if E = 0 then .tuple #[.string R, .int .i64 0] else .tuple #[.string ⟨#[]⟩, .int .i64 102]) ∧ Below w.heap.size w w' := by
  have HA := Lib.hid A
  clear A
  rcases hE with rfl | rfl
  · go_enter Try.func16, Try.ntmps16
    go_wp2_with fail
    refine (HA.out _).mono ?_
    rintro e w1 ⟨rfl, hq⟩
    go_wp2_with fail
    go_ret2
    exact ⟨rfl, ((Below.refl _ _).alloc (Nat.le_refl _) _).trans (hq.mono (by simp))⟩
  · go_enter Try.func16, Try.ntmps16
    go_wp2_with fail
    refine (HA.out _).mono ?_
    rintro e w1 ⟨rfl, hq⟩
    go_wp2_with fail
    go_ret2
    exact ⟨rfl, ((Below.refl _ _).alloc (Nat.le_refl _) _).trans (hq.mono (by simp))⟩
theorem rfin_any (h : Hd) (s : ByteArray) (w : World) (hs : s.size ≤ 281474976710656) :
    Calls Try.prog 16 #[.agg (hdL h), .string s] w fun e w' => e = .returned (.tuple #[.string (finS h s), .int .i64 (finE h s)]) ∧ Below w.heap.size w w' := by
  obtain ⟨flags, gso, len, siz, start, off, count⟩ := h
  by_cases hg : gso = 0
  · subst hg
    by_cases hf : flags % 2 = 0
    · rw [finS, finE, if_pos rfl, if_pos rfl, if_pos hf, if_pos hf]
      exact rfin_not _ _ _ _ _ _ s w (by rw [low1]; exact hf)
    · rw [finS, finE, if_pos rfl, if_pos rfl, if_neg hf, if_neg hf]
      have A := fun W => rcomplete_any s start off W hs
      have k := rfin_yes flags len siz start off count s _ _ w (by rw [low1]; omega) (by unfold comE; split <;> simp) A
      by_cases hc : comB2 s start off = true
      · have e : comE s start off = 0 := by rw [comE, if_pos hc]
        rw [e, if_pos rfl] at k
        rw [if_pos hc]
        exact k
      · have e : comE s start off = 1 := by rw [comE, if_neg hc]
        rw [e, if_neg (by decide)] at k
        rw [if_neg hc, show comS s start off = ⟨#[]⟩ from if_neg hc]
        exact k
  · rw [finS, finE, if_neg hg, if_neg hg]
    exact rfin_gso _ _ _ _ _ _ _ s w (by simpa using hg)
end Go.Proofs.Ytalkpllmcigjnaa
