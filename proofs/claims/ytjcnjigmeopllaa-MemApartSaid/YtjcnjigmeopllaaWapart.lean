/-
  For every input the law MemApart returns true, and its arguments read afterwards as before; no condition beyond the form's own reach.
-/
import Derived.Test.YtjcnjigmeopllaaClone
import Derived.Test.YtjcnjigmeopllaaBack
namespace Go.Proofs.Ytjcnjigmeopllaa
open Go.Joins Go.ChangeShapes Go.WideShapes Go.ChangeAt Go.RowKit Go.Deep
open Go.ChangeMaps (open_string)

section
variable {B g1 gb1 g2 gb2 : Nat} {lv1 lv2 : Value} {xs1 xs2 : List UInt8} {ag1 ag2 : Int} {lg1 lg2 : List Acc} {w w' : World}
/-- a memory is left alone by what touches another one -/
theorem Mem.apart (h1 : Mem B g1 gb1 lv1 xs1 ag1 lg1 w) (h2 : Mem B g2 gb2 lv2 xs2 ag2 lg2 w) (n1 : g1 ≠ g2) (n2 : gb1 ≠ gb2) (n3 : ∀ k, lv1.ownBlock = some k → lv2.ownBlock ≠ some k) (hT : Touch g2 gb2 lv2 w w') : Mem B g1 gb1 lv1 xs1 ag1 lg1 w' := by
  refine h1.kept ?_ ?_ (fun k hk => ?_)
  · exact hT.block g1 h1.blk.lt n1 (h1.blk.ne h2.row (by decide)) (own_ne h2.log h1.blk (by decide))
  · exact hT.block gb1 h1.row.lt (h1.row.ne h2.blk (by decide)) n2 (own_ne h2.log h1.row (by decide))
  · exact hT.block k (h1.lge hk).2 (fun e => own_ne h1.log h2.blk (by decide) (e ▸ hk)) (fun e => own_ne h1.log h2.row (by decide) (e ▸ hk)) (n3 k hk)
theorem Mem.lower {B' : Nat} (h : Mem B g1 gb1 lv1 xs1 ag1 lg1 w) (hB : B' ≤ B) : Mem B' g1 gb1 lv1 xs1 ag1 lg1 w :=
  ⟨Nat.le_trans hB h.hB, Nat.le_trans hB h.hBb, h.blk, h.row, own_base h.log hB, h.len, h.pos⟩
end
/-- two memories of the call's own that share nothing -/
def M2 (w0 : World) (g1 : Nat) (xs1 : List UInt8) (lg1 : List Acc) (g2 : Nat) (xs2 : List UInt8) (lg2 : List Acc) (w : World) : Prop :=
  ∃ gb1 lv1 gb2 lv2, Mem w0.heap.size g1 gb1 lv1 xs1 0 lg1 w ∧ Mem w0.heap.size g2 gb2 lv2 xs2 0 lg2 w ∧ g1 ≠ g2 ∧ gb1 ≠ gb2 ∧ (∀ k, lv1.ownBlock = some k → lv2.ownBlock ≠ some k) ∧ Below w0.heap.size w0 w
section
variable {w0 w : World} {g1 g2 : Nat} {xs1 xs2 : List UInt8} {lg1 lg2 : List Acc}
theorem M2.swap (h : M2 w0 g1 xs1 lg1 g2 xs2 lg2 w) : M2 w0 g2 xs2 lg2 g1 xs1 lg1 w := by
  obtain ⟨gb1, lv1, gb2, lv2, h1, h2, n1, n2, n3, hb⟩ := h
  exact ⟨gb2, lv2, gb1, lv1, h2, h1, n1.symm, n2.symm, fun k a b => n3 k b a, hb⟩
theorem M2.under (h : M2 w0 g1 xs1 lg1 g2 xs2 lg2 w) : Below w0.heap.size w0 w := by
  obtain ⟨gb1, lv1, gb2, lv2, h1, h2, n1, n2, n3, hb⟩ := h
  exact hb
theorem two_clone (h : M w0 g1 xs1 0 lg1 w) (hl : lg1.length ≤ 4096) : Calls Try.prog 22 #[.pointer (some ⟨g1, 0, none⟩)] w fun e w' => ∃ g2, e = .returned (.pointer (some ⟨g2, 0, none⟩)) ∧ M2 w0 g1 xs1 lg1 g2 xs1 lg1 w' := by
  obtain ⟨gb, lv, hm, hb⟩ := h
  refine (clone_m hm hl).mono fun e w' hC => ?_
  obtain ⟨g2, gb2, lv2, he, hm2, hb2⟩ := hC
  have a1 := hm.blk.lt
  have a2 := hm.row.lt
  have b1 := hm2.hB
  have b2 := hm2.hBb
  exact ⟨g2, he, gb, lv, gb2, lv2, hm.below hb2 (Nat.le_refl _), hm2.lower hm.base, by omega, by omega, fun k hk e => by have := (hm.lge hk).2; have := (hm2.lge e).1; omega, bl hb hb2⟩
theorem M2.noted {gb1 gb2 : Nat} {lv1 lv2 : Value} {xs' : List UInt8} {lg' : List Acc} {w' : World} (h1 : Mem w0.heap.size g1 gb1 lv1 xs1 0 lg1 w) (h2 : Mem w0.heap.size g2 gb2 lv2 xs2 0 lg2 w) (n1 : g1 ≠ g2) (n2 : gb1 ≠ gb2)
    (n3 : ∀ k, lv1.ownBlock = some k → lv2.ownBlock ≠ some k) (hb : Below w0.heap.size w0 w) (hN : Noted w0.heap.size g2 gb2 lv2 xs' 0 lg' w w') : M2 w0 g1 xs1 lg1 g2 xs' lg' w' := by
  obtain ⟨lv', hM, hT, hL⟩ := hN
  refine ⟨gb1, lv1, gb2, lv', Mem.apart h1 h2 n1 n2 n3 hT, hM, n1, n2, fun k hk e => ?_, hb.trans (Touch.under h2 hT)⟩
  rcases hL k e with e' | e'
  · exact n3 k hk e'
  · have := (h1.lge hk).2; omega
theorem two_read (h : M2 w0 g1 xs1 lg1 g2 xs2 lg2 w) (a n : Nat) (hl : lg2.length < 4096) (hn : a + n ≤ xs2.length) :
    Calls Try.prog 16 #[.pointer (some ⟨g2, 0, none⟩), .int .i64 a, .int .i64 n] w fun e w' =>
      e = .returned (.tuple #[.string ⟨((xs2.drop a).take n).toArray⟩, .int .i64 0]) ∧ M2 w0 g1 xs1 lg1 g2 xs2 (note lg2 ⟨0, a, n, false⟩) w' := by
  obtain ⟨gb1, lv1, gb2, lv2, h1, h2, n1, n2, n3, hb⟩ := h
  exact (read_ok h2 a n hl hn).mono fun e w' ⟨he, hN⟩ => ⟨he, M2.noted h1 h2 n1 n2 n3 hb hN⟩
theorem two_write (h : M2 w0 g1 xs1 lg1 g2 xs2 lg2 w) (a : Nat) (s : ByteArray) (hl : lg2.length < 4096) (hn : a + s.size ≤ xs2.length) :
    Calls Try.prog 14 #[.pointer (some ⟨g2, 0, none⟩), .int .i64 a, .string s] w fun e w' =>
      e = .returned (.int .i64 0) ∧ M2 w0 g1 xs1 lg1 g2 (over xs2 a s) (note lg2 ⟨0, a, s.size, true⟩) w' := by
  obtain ⟨gb1, lv1, gb2, lv2, h1, h2, n1, n2, n3, hb⟩ := h
  exact (write_ok h2 a s hl hn).mono fun e w' ⟨he, hN⟩ => ⟨he, M2.noted h1 h2 n1 n2 n3 hb hN⟩
theorem two_size (h : M2 w0 g1 xs1 lg1 g2 xs2 lg2 w) : Calls Try.prog 12 #[.pointer (some ⟨g2, 0, none⟩)] w fun e w' => e = .returned (.int .i64 xs2.length) ∧ w = w' := by
  obtain ⟨gb1, lv1, gb2, lv2, h1, h2, n1, n2, n3, hb⟩ := h
  exact size_m h2
end
/-- the law's calls -/
theorem apart_calls (W : World) (S T : ByteArray) (hS : S.size ≤ 64) (hT : T.size ≤ 64) : ∃ (X0 X Y : List UInt8),
    Hid (Calls Try.prog 9 #[.int .i64 64] W fun e w' => ∃ g, e = .returned (.tuple #[.pointer (some ⟨g, 0, none⟩), .int .i64 0]) ∧ M W g X0 0 [] w') ∧
    Hid (∀ g w1, M W g X0 0 [] w1 → Calls Try.prog 14 #[.pointer (some ⟨g, 0, none⟩), .int .i64 0, .string S] w1 fun e w' => e = .returned (.int .i64 0) ∧ ∃ L : List Acc, L.length ≤ 1 ∧ M W g X 0 L w') ∧
    Hid (∀ g w1 (L : List Acc), L.length ≤ 1 → M W g X 0 L w1 → Calls Try.prog 22 #[.pointer (some ⟨g, 0, none⟩)] w1 fun e w' => ∃ g2, e = .returned (.pointer (some ⟨g2, 0, none⟩)) ∧ M2 W g X L g2 X L w') ∧
    Hid (∀ g g2 w1 (L : List Acc), L.length ≤ 1 → M2 W g X L g2 X L w1 → Calls Try.prog 14 #[.pointer (some ⟨g2, 0, none⟩), .int .i64 0, .string T] w1 fun e w' => e = .returned (.int .i64 0) ∧ ∃ L2 : List Acc, L2.length ≤ 2 ∧ M2 W g X L g2 Y L2 w') ∧
    Hid (∀ g g2 w1 (L L2 : List Acc), L.length ≤ 1 → M2 W g X L g2 Y L2 w1 → Calls Try.prog 16 #[.pointer (some ⟨g, 0, none⟩), .int .i64 0, .int .i64 S.size] w1 fun e w' => e = .returned (.tuple #[.string S, .int .i64 0]) ∧ ∃ L' : List Acc, M2 W g X L' g2 Y L2 w') ∧
    Hid (∀ g g2 w1 (L L2 : List Acc), L2.length ≤ 2 → M2 W g X L g2 Y L2 w1 → Calls Try.prog 16 #[.pointer (some ⟨g2, 0, none⟩), .int .i64 0, .int .i64 T.size] w1 fun e w' => e = .returned (.tuple #[.string T, .int .i64 0]) ∧ ∃ L' : List Acc, M2 W g X L g2 Y L' w') ∧
    Hid (∀ g g2 w1 (L L2 : List Acc), M2 W g X L g2 Y L2 w1 → Calls Try.prog 12 #[.pointer (some ⟨g2, 0, none⟩)] w1 fun e w' => e = .returned (.int .i64 64) ∧ w1 = w') := by
  have hX : (over (List.replicate 64 0) 0 S).length = 64 := by rw [over_length _ _ _ (by rw [List.length_replicate]; omega), List.length_replicate]
  have hY : (over (over (List.replicate 64 0) 0 S) 0 T).length = 64 := by rw [over_length _ _ _ (by omega), hX]
  refine ⟨List.replicate 64 0, over (List.replicate 64 0) 0 S, over (over (List.replicate 64 0) 0 S) 0 T, new_ok 64 W (by omega) (by omega), fun g w1 h => ?_, fun g w1 L hL h => two_clone h (by omega), fun g g2 w1 L hL h => ?_, fun g g2 w1 L L2 hL h => ?_, fun g g2 w1 L L2 hL h => ?_, fun g g2 w1 L L2 h => ?_⟩
  · refine (one_write h 0 S (by simp) (by rw [List.length_replicate]; omega)).mono fun e w' ⟨he, hM⟩ => ⟨he, _, ?_, hM⟩
    exact note_length [] _
  · exact (two_write h 0 T (by omega) (by omega)).mono fun e w' ⟨he, hM⟩ => ⟨he, _, Nat.le_trans (note_length L _) (by omega), hM⟩
  · have := two_read h.swap 0 S.size (by omega) (by omega)
    rw [over_read _ 0 S (by rw [List.length_replicate]; omega)] at this
    exact this.mono fun e w' ⟨he, hM⟩ => ⟨he, _, hM.swap⟩
  · have := two_read h 0 T.size (by omega) (by omega)
    rw [over_read _ 0 T (by omega)] at this
    exact this.mono fun e w' ⟨he, hM⟩ => ⟨he, _, hM⟩
  · have := two_size h
    rw [hY] at this
    exact this
set_option maxRecDepth 100000 in
set_option maxHeartbeats 2000000 in
theorem apart_aa (s t : ByteArray) (w : World) (h1 : s.size ≤ 64) (h2 : t.size ≤ 64) :
    Calls Try.prog 7 #[.string s, .string t] w fun e w' => e = .returned (.bool true) ∧ Below w.heap.size w w' := by
  obtain ⟨X0, X, Y, N1, V1, C1, V2, R1, R2, Z1⟩ := apart_calls w s t (by omega) (by omega)
  go_enter Try.func7, Try.ntmps7
  go_wp2_with (first
    | (go_at_call 9; ((with_reducible refine N1.out.mono ?_); rintro e w1 ⟨g, rfl, hM⟩))
    | (go_at_call 14; ((with_reducible refine (V1.out _ _ hM).mono ?_); rintro e w2 ⟨rfl, La, hLa, hM1⟩; clear hM))
    | (go_at_call 22; ((with_reducible refine (C1.out _ _ _ hLa hM1).mono ?_); rintro e w3 ⟨g2, rfl, hM2⟩; clear hM1))
    | (go_at_call 14; ((with_reducible refine (V2.out _ _ _ _ hLa hM2).mono ?_); rintro e w4 ⟨rfl, Lb, hLb, hM3⟩; clear hM2))
    | (go_at_call 16; ((with_reducible refine (R1.out _ _ _ _ _ hLa hM3).mono ?_); rintro e w5 ⟨rfl, Lc, hM4⟩; clear hM3))
    | (go_at_call 16; ((with_reducible refine (R2.out _ _ _ _ _ hLb hM4).mono ?_); rintro e w6 ⟨rfl, Ld, hM5⟩; have hB := hM5.under; clear hM4))
    | (go_at_call 12; ((with_reducible refine (Z1.out _ _ _ _ _ hM5).mono ?_); rintro e w7 ⟨rfl, rfl⟩))
    | (go_at_call 11; refine (fixed_any _).mono ?_; rintro e w9 ⟨rfl, hq⟩; replace hB := bl hB hq; clear hq))
  go_ret
  exact ⟨rfl, hB⟩
set_option maxRecDepth 100000 in
set_option maxHeartbeats 2000000 in
theorem apart_ab (s t : ByteArray) (w : World) (h1 : s.size ≤ 64) (h2 : 64 < t.size) (h4 : t.size ≤ 140737488351232) :
    Calls Try.prog 7 #[.string s, .string t] w fun e w' => e = .returned (.bool true) ∧ Below w.heap.size w w' := by
  obtain ⟨T, hT, eT⟩ : ∃ T : ByteArray, T.size ≤ 64 ∧ t.extract 0 64 = T := ⟨_, by simp; omega, rfl⟩
  obtain ⟨X0, X, Y, N1, V1, C1, V2, R1, R2, Z1⟩ := apart_calls w s T (by omega) (by omega)
  go_enter Try.func7, Try.ntmps7
  go_wp2_with (first
    | (go_at_call 9; ((with_reducible refine N1.out.mono ?_); rintro e w1 ⟨g, rfl, hM⟩))
    | (go_at_call 14; ((with_reducible refine (V1.out _ _ hM).mono ?_); rintro e w2 ⟨rfl, La, hLa, hM1⟩; clear hM))
    | (go_at_call 22; ((with_reducible refine (C1.out _ _ _ hLa hM1).mono ?_); rintro e w3 ⟨g2, rfl, hM2⟩; clear hM1))
    | (go_at_call 14; ((with_reducible refine (V2.out _ _ _ _ hLa hM2).mono ?_); rintro e w4 ⟨rfl, Lb, hLb, hM3⟩; clear hM2))
    | (go_at_call 16; ((with_reducible refine (R1.out _ _ _ _ _ hLa hM3).mono ?_); rintro e w5 ⟨rfl, Lc, hM4⟩; clear hM3))
    | (go_at_call 16; ((with_reducible refine (R2.out _ _ _ _ _ hLb hM4).mono ?_); rintro e w6 ⟨rfl, Ld, hM5⟩; have hB := hM5.under; clear hM4))
    | (go_at_call 12; ((with_reducible refine (Z1.out _ _ _ _ _ hM5).mono ?_); rintro e w7 ⟨rfl, rfl⟩))
    | (go_at_call 11; refine (fixed_any _).mono ?_; rintro e w9 ⟨rfl, hq⟩; replace hB := bl hB hq; clear hq))
  go_ret
  exact ⟨rfl, hB⟩
set_option maxRecDepth 100000 in
set_option maxHeartbeats 2000000 in
theorem apart_ba (s t : ByteArray) (w : World) (h1 : 64 < s.size) (h3 : s.size ≤ 140737488351232) (h2 : t.size ≤ 64) :
    Calls Try.prog 7 #[.string s, .string t] w fun e w' => e = .returned (.bool true) ∧ Below w.heap.size w w' := by
  obtain ⟨S, hS, eS⟩ : ∃ S : ByteArray, S.size ≤ 64 ∧ s.extract 0 64 = S := ⟨_, by simp; omega, rfl⟩
  obtain ⟨X0, X, Y, N1, V1, C1, V2, R1, R2, Z1⟩ := apart_calls w S t (by omega) (by omega)
  go_enter Try.func7, Try.ntmps7
  go_wp2_with (first
    | (go_at_call 9; ((with_reducible refine N1.out.mono ?_); rintro e w1 ⟨g, rfl, hM⟩))
    | (go_at_call 14; ((with_reducible refine (V1.out _ _ hM).mono ?_); rintro e w2 ⟨rfl, La, hLa, hM1⟩; clear hM))
    | (go_at_call 22; ((with_reducible refine (C1.out _ _ _ hLa hM1).mono ?_); rintro e w3 ⟨g2, rfl, hM2⟩; clear hM1))
    | (go_at_call 14; ((with_reducible refine (V2.out _ _ _ _ hLa hM2).mono ?_); rintro e w4 ⟨rfl, Lb, hLb, hM3⟩; clear hM2))
    | (go_at_call 16; ((with_reducible refine (R1.out _ _ _ _ _ hLa hM3).mono ?_); rintro e w5 ⟨rfl, Lc, hM4⟩; clear hM3))
    | (go_at_call 16; ((with_reducible refine (R2.out _ _ _ _ _ hLb hM4).mono ?_); rintro e w6 ⟨rfl, Ld, hM5⟩; have hB := hM5.under; clear hM4))
    | (go_at_call 12; ((with_reducible refine (Z1.out _ _ _ _ _ hM5).mono ?_); rintro e w7 ⟨rfl, rfl⟩))
    | (go_at_call 11; refine (fixed_any _).mono ?_; rintro e w9 ⟨rfl, hq⟩; replace hB := bl hB hq; clear hq))
  go_ret
  exact ⟨rfl, hB⟩
set_option maxRecDepth 100000 in
set_option maxHeartbeats 2000000 in
theorem apart_bb (s t : ByteArray) (w : World) (h1 : 64 < s.size) (h3 : s.size ≤ 140737488351232) (h2 : 64 < t.size) (h4 : t.size ≤ 140737488351232) :
    Calls Try.prog 7 #[.string s, .string t] w fun e w' => e = .returned (.bool true) ∧ Below w.heap.size w w' := by
  obtain ⟨S, hS, eS⟩ : ∃ S : ByteArray, S.size ≤ 64 ∧ s.extract 0 64 = S := ⟨_, by simp; omega, rfl⟩
  obtain ⟨T, hT, eT⟩ : ∃ T : ByteArray, T.size ≤ 64 ∧ t.extract 0 64 = T := ⟨_, by simp; omega, rfl⟩
  obtain ⟨X0, X, Y, N1, V1, C1, V2, R1, R2, Z1⟩ := apart_calls w S T (by omega) (by omega)
  go_enter Try.func7, Try.ntmps7
  go_wp2_with (first
    | (go_at_call 9; ((with_reducible refine N1.out.mono ?_); rintro e w1 ⟨g, rfl, hM⟩))
    | (go_at_call 14; ((with_reducible refine (V1.out _ _ hM).mono ?_); rintro e w2 ⟨rfl, La, hLa, hM1⟩; clear hM))
    | (go_at_call 22; ((with_reducible refine (C1.out _ _ _ hLa hM1).mono ?_); rintro e w3 ⟨g2, rfl, hM2⟩; clear hM1))
    | (go_at_call 14; ((with_reducible refine (V2.out _ _ _ _ hLa hM2).mono ?_); rintro e w4 ⟨rfl, Lb, hLb, hM3⟩; clear hM2))
    | (go_at_call 16; ((with_reducible refine (R1.out _ _ _ _ _ hLa hM3).mono ?_); rintro e w5 ⟨rfl, Lc, hM4⟩; clear hM3))
    | (go_at_call 16; ((with_reducible refine (R2.out _ _ _ _ _ hLb hM4).mono ?_); rintro e w6 ⟨rfl, Ld, hM5⟩; have hB := hM5.under; clear hM4))
    | (go_at_call 12; ((with_reducible refine (Z1.out _ _ _ _ _ hM5).mono ?_); rintro e w7 ⟨rfl, rfl⟩))
    | (go_at_call 11; refine (fixed_any _).mono ?_; rintro e w9 ⟨rfl, hq⟩; replace hB := bl hB hq; clear hq))
  go_ret
  exact ⟨rfl, hB⟩
theorem memApart_any (s t : ByteArray) (w : World) (hs : s.size ≤ 140737488351232) (ht : t.size ≤ 140737488351232) :
    Calls Try.prog 7 #[.string s, .string t] w fun e w' => e = .returned (.bool true) ∧ Below w.heap.size w w' := by
  by_cases h1 : s.size ≤ 64
  · by_cases h2 : t.size ≤ 64
    · exact apart_aa s t w h1 h2
    · exact apart_ab s t w h1 (by omega) ht
  · by_cases h2 : t.size ≤ 64
    · exact apart_ba s t w (by omega) hs h2
    · exact apart_bb s t w (by omega) hs (by omega) ht

set_option maxRecDepth 100000 in
theorem memApart_lifted (os : Os) (started : os.Started) (H : Type) (enc : TypeId × Value → H) :
    ReturnsInHanded {} Try.checked os 7 .any (Rows.memApartSpec.pre6 enc Try.prog Try.f7 Rows.memApartRow.domain false) (Rows.memApartSpec.post enc Try.prog Try.f7 false true false false) := by
  have e : Try.f7.params.toList = [9, 9] := by rw [Try.params7]
  refine law_of_walk (C := Try.checked) (tb := 4) H enc Try.own started (by kernel_rfl) Try.func7 Try.laidOut rfl rfl Try.underlying4 ?_ ?_
    (ChangeSpec.witness6 (enc := enc) (C := Try.checked) false ⟨#[], #[.string ByteArray.empty, .string ByteArray.empty], []⟩ 8 (by kernel_rfl) (by kernel_rfl) (by kernel_rfl) (by kernel_rfl)) ?_
  · rw [e]
    intro t ht
    simp only [List.mem_cons, List.not_mem_nil, or_false] at ht
    rcases ht with rfl | rfl <;> exact ⟨by kernel_rfl, of_decide_eq_true (by kernel_rfl)⟩
  · intro ds hds
    rw [e] at hds
    match ds, hds with
    | [d0, d1], _ => rfl
  · intro W base args ds p hval0 hA0 hsz0
    have hval : ∀ (j : Nat) t v, Try.f7.params[j]? = some t → args[j]? = some v → Value.okWide Try.prog W .any base t v := hval0
    have hA : DataW.TrodAll enc Try.prog W 0 (fun _ => true) true Try.f7.params.toList args.toList ds p := hA0
    have hsz : (DataW.weightsEach Try.prog Try.f7.params.toList ds).all (· ≤ reachBytes) = true := hsz0
    rw [Try.params7] at hA hval hsz
    obtain ⟨v0, v1, d0, d1, p0, p1, rfl, rfl, rfl, h0, h1⟩ := trodAll_two hA
    obtain ⟨x0, rfl, rfl, rfl, _⟩ := open_string Try.underlying9 (hval 0 9 v0 rfl rfl) h0
    obtain ⟨x1, rfl, rfl, rfl, _⟩ := open_string Try.underlying9 (hval 1 9 v1 rfl rfl) h1
    have s0 := sized_string hsz (j := 0) (t := 9) rfl rfl
    have s1 := sized_string hsz (j := 1) (t := 9) rfl rfl
    simp only [reachBytes] at s0 s1
    exact memApart_any x0 x1 W s0 s1

theorem memApart_holds : Rows.MemApartSaid :=
  OpenClaim.holds_of_wide 7 Try.f7 rfl rfl rfl rfl rfl rfl rfl ⟨rfl, rfl, rfl, rfl, rfl⟩ rfl rfl rfl rfl rfl (by kernel_rfl) Try.func7 (by kernel_rfl)
    (of_decide_eq_true (by kernel_rfl)) (by unfold Func.isWrapper; first | (rw [if_pos (by decide +kernel)]; kernel_rfl) | (rw [if_neg (by decide +kernel)]; exact ⟨rfl, rfl⟩))
    (fun os started H enc _ => memApart_lifted os started H enc)
end Go.Proofs.Ytjcnjigmeopllaa
