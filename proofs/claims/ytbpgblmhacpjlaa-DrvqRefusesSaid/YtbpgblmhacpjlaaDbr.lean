/-
  What the document's Build answers, for every descriptor: the same.
-/
import Derived.Test.YtbpgblmhacpjlaaDbd
namespace Go.Proofs.Ytbpgblmhacpjlaa
open Go.RowKit

theorem rbuild_0 (A L I F : Int) (w : World)  (h0 : I < 0) :
    Calls Try.prog 52 #[.agg #[.int .u64 A, .int .u32 L, .int .i64 I, .int .i64 F]] w fun e w' => e = .returned (.tuple #[.string ⟨#[]⟩, .int .i64 1]) ∧ Below w.heap.size w w' := by
  go_enter Try.func52, Try.ntmps52
  go_wp2
  go_ret2
  exact ⟨rfl, ba (Below.refl _ _) _⟩
theorem rbuild_1 (A L I F : Int) (w : World) (h0 : ¬ I < 0) (h1 : 65535 < I) :
    Calls Try.prog 52 #[.agg #[.int .u64 A, .int .u32 L, .int .i64 I, .int .i64 F]] w fun e w' => e = .returned (.tuple #[.string ⟨#[]⟩, .int .i64 1]) ∧ Below w.heap.size w w' := by
  go_enter Try.func52, Try.ntmps52
  go_wp2
  go_ret2
  exact ⟨rfl, ba (Below.refl _ _) _⟩
theorem rbuild_2 (A L I F : Int) (w : World) (h0 : ¬ I < 0) (h1 : ¬ 65535 < I) (h2 : F < 0) :
    Calls Try.prog 52 #[.agg #[.int .u64 A, .int .u32 L, .int .i64 I, .int .i64 F]] w fun e w' => e = .returned (.tuple #[.string ⟨#[]⟩, .int .i64 1]) ∧ Below w.heap.size w w' := by
  go_enter Try.func52, Try.ntmps52
  go_wp2
  go_ret2
  exact ⟨rfl, ba (Below.refl _ _) _⟩
theorem rbuild_3 (A L I F : Int) (w : World) (h0 : ¬ I < 0) (h1 : ¬ 65535 < I) (h2 : ¬ F < 0) (h3 : 65535 < F) :
    Calls Try.prog 52 #[.agg #[.int .u64 A, .int .u32 L, .int .i64 I, .int .i64 F]] w fun e w' => e = .returned (.tuple #[.string ⟨#[]⟩, .int .i64 1]) ∧ Below w.heap.size w w' := by
  go_enter Try.func52, Try.ntmps52
  go_wp2
  go_ret2
  exact ⟨rfl, ba (Below.refl _ _) _⟩
set_option maxHeartbeats 1600000 in
theorem rbuild_walk (A L I F : Nat) (S1 S2 S3 S4 : ByteArray) (h1 : S1.size = 8) (h2 : S2.size = 4) (h3 : S3.size = 2) (h4 : S4.size = 2)
    (b1 : (I : Int) ≤ 65535) (b2 : (F : Int) ≤ 65535) (b3 : L < 4294967296)
    (H1 : ∀ W, Calls Try.prog 76 #[.int .u64 (A : Int), .int .i64 8, .bool false] W fun e w' => e = .returned (.tuple #[.string S1, .int .i64 0]) ∧ Below W.heap.size W w')
    (H2 : ∀ W, Calls Try.prog 76 #[.int .u64 (L : Int), .int .i64 4, .bool false] W fun e w' => e = .returned (.tuple #[.string S2, .int .i64 0]) ∧ Below W.heap.size W w')
    (H3 : ∀ W, Calls Try.prog 76 #[.int .u64 (I : Int), .int .i64 2, .bool false] W fun e w' => e = .returned (.tuple #[.string S3, .int .i64 0]) ∧ Below W.heap.size W w')
    (H4 : ∀ W, Calls Try.prog 76 #[.int .u64 (F : Int), .int .i64 2, .bool false] W fun e w' => e = .returned (.tuple #[.string S4, .int .i64 0]) ∧ Below W.heap.size W w') (w : World) :
    Calls Try.prog 52 #[.agg #[.int .u64 (A : Int), .int .u32 (L : Int), .int .i64 (I : Int), .int .i64 (F : Int)]] w fun e w' => e = .returned (.tuple #[.string (S1 ++ S2 ++ S3 ++ S4), .int .i64 0]) ∧ Below w.heap.size w w' := by
  have G1 := Lib.hid H1
  have G2 := Lib.hid H2
  have G3 := Lib.hid H3
  have G4 := Lib.hid H4
  clear H1 H2 H3 H4
  have c1 : ¬ 9223372036854775807 < S1.size + S2.size := by omega
  have c2 : ¬ 9223372036854775807 < S1.size + S2.size + S3.size := by omega
  have c3 : ¬ 9223372036854775807 < S1.size + S2.size + S3.size + S4.size := by omega
  have v1 : IntKind.u64.wrap (L : Int) = L := by rw [IntKind.wrap_u64]; omega
  have v2 : IntKind.u64.wrap (I : Int) = I := by rw [IntKind.wrap_u64]; omega
  have v3 : IntKind.u64.wrap (F : Int) = F := by rw [IntKind.wrap_u64]; omega
  have k1 : decide (65535 < (I : Int)) = false := decide_eq_false (by omega)
  have k2 : decide (65535 < (F : Int)) = false := decide_eq_false (by omega)
  have k3 : decide ((I : Int) < 0) = false := decide_eq_false (by omega)
  have k4 : decide ((F : Int) < 0) = false := decide_eq_false (by omega)
  clear h1 h2 h3 h4 b1 b2 b3
  go_enter Try.func52, Try.ntmps52
  go_wp2_with fail
  refine (G1.out _).mono ?_
  rintro e w1 ⟨rfl, hq⟩
  have e1 := (H4.new w 100 (.int .u64 (A : Int)) (.int .u32 (L : Int)) (.int .i64 (I : Int)) (.int .i64 (F : Int))).next hq
  clear hq
  obtain ⟨⟨p0, p1, p2, p3⟩, _⟩ := id e1
  go_wp2_with fail
  refine (G2.out _).mono ?_
  rintro e w2 ⟨rfl, hq⟩
  have e2 := e1.next hq
  clear hq e1 p0 p1 p2 p3
  obtain ⟨⟨p0, p1, p2, p3⟩, _⟩ := id e2
  go_wp2_with fail
  refine (G3.out _).mono ?_
  rintro e w3 ⟨rfl, hq⟩
  have e3 := e2.next hq
  clear hq e2 p0 p1 p2 p3
  obtain ⟨⟨p0, p1, p2, p3⟩, _⟩ := id e3
  go_wp2_with fail
  refine (G4.out _).mono ?_
  rintro e w4 ⟨rfl, hq⟩
  have e4 := e3.next hq
  clear hq e3 p0 p1 p2 p3
  have hB := e4.below
  clear e4
  go_wp2_with fail
  go_ret2
  exact ⟨rfl, hB⟩
theorem rbuild_any (A L : Nat) (I F : Int) (hA : A < 18446744073709551616) (hL : L < 4294967296) (w : World) :
    Calls Try.prog 52 #[.agg #[.int .u64 (A : Int), .int .u32 (L : Int), .int .i64 I, .int .i64 F]] w fun e w' => e = .returned (.tuple #[.string (buS A L I F), .int .i64 (buE I F)]) ∧ Below w.heap.size w w' := by
  by_cases h1 : 0 ≤ I ∧ I ≤ 65535
  · by_cases h2 : 0 ≤ F ∧ F ≤ 65535
    · rw [buS, buE, if_pos ⟨h1, h2⟩, if_pos ⟨h1, h2⟩]
      obtain ⟨i, rfl⟩ := Int.eq_ofNat_of_zero_le h1.1
      obtain ⟨f, rfl⟩ := Int.eq_ofNat_of_zero_le h2.1
      exact rbuild_walk A L i f (pb A 8) (pb L 4) (pb i 2) (pb f 2) (pb_size _ _) (pb_size _ _) (pb_size _ _) (pb_size _ _) (by omega) (by omega) hL
        (fun W => putr_pb A 8 (by decide) (by decide) (by omega) W) (fun W => putr_pb L 4 (by decide) (by decide) (by omega) W)
        (fun W => putr_pb i 2 (by decide) (by decide) (by omega) W) (fun W => putr_pb f 2 (by decide) (by decide) (by omega) W) w
    · rw [buS, buE, if_neg (fun h => h2 h.2), if_neg (fun h => h2 h.2)]
      by_cases h3 : F < 0
      · exact rbuild_2 A L I F w (by omega) (by omega) h3
      · exact rbuild_3 A L I F w (by omega) (by omega) h3 (by omega)
  · rw [buS, buE, if_neg (fun h => h1 h.1), if_neg (fun h => h1 h.1)]
    by_cases h3 : I < 0
    · exact rbuild_0 A L I F w h3
    · exact rbuild_1 A L I F w h3 (by omega)
end Go.Proofs.Ytbpgblmhacpjlaa
