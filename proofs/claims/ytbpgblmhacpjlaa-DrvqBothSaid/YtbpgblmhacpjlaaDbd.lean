/-
  What desc.Build and the document's Build answer, for every descriptor.
-/
import Derived.Test.YtbpgblmhacpjlaaDsm
import Derived.Test.YtbpgblmhacpjlaaPutr
import Derived.Test.YtbpgblmhacpjlaaDbk
import Derived.Deep.RegionHeld3
namespace Go.Proofs.Ytbpgblmhacpjlaa
open Go.RowKit

/-- the lowest n bytes of a number -/
def pb (v n : Nat) : ByteArray := ⟨(digs v n).toArray⟩
theorem pb_size (v n : Nat) : (pb v n).size = n := by
  show (digs v n).toArray.size = n
  simp [digs_length]
theorem putS_pb (v n : Nat) (h1 : 1 ≤ n) (h2 : n ≤ 8) (h : v < 256 ^ n) : putS v n false = pb v n ∧ putE v n = 0 := by
  have e : (v : Int) < 256 ^ n := by have := pow_cast n; omega
  have c : 1 ≤ (n : Int) ∧ (n : Int) ≤ 8 ∧ (v : Int) < 256 ^ (n : Int).toNat := ⟨by omega, by omega, by simpa using e⟩
  constructor
  · rw [putS, if_pos c]; rfl
  · rw [putE, if_pos c]
/-- a descriptor's bytes -/
def desB (A L I F : Nat) : ByteArray := pb A 8 ++ pb L 4 ++ pb I 2 ++ pb F 2
theorem put_pb (v n : Nat) (h1 : 1 ≤ n) (h2 : n ≤ 8) (h : v < 256 ^ n) (w : World) :
    Calls Try.prog 83 #[.int .u64 (v : Int), .int .i64 (n : Int)] w fun e w' => e = .returned (.string (pb v n)) ∧ Below w.heap.size w w' := by
  have := dput_any v n w (by omega)
  rwa [(putS_pb v n h1 h2 h).1] at this
theorem putr_pb (v n : Nat) (h1 : 1 ≤ n) (h2 : n ≤ 8) (h : v < 256 ^ n) (w : World) :
    Calls Try.prog 76 #[.int .u64 (v : Int), .int .i64 (n : Int), .bool false] w fun e w' => e = .returned (.tuple #[.string (pb v n), .int .i64 0]) ∧ Below w.heap.size w w' := by
  have h64 : v < 256 ^ 8 := Nat.lt_of_lt_of_le h (Nat.pow_le_pow_right (by decide) h2)
  have := putr_any v n false w (by omega) (by omega)
  rwa [(putS_pb v n h1 h2 h).1, (putS_pb v n h1 h2 h).2] at this
set_option maxHeartbeats 1600000 in
theorem build_walk (A L I F : Nat) (S1 S2 S3 S4 : ByteArray) (h1 : S1.size = 8) (h2 : S2.size = 4) (h3 : S3.size = 2) (h4 : S4.size = 2)
    (b1 : (I : Int) ≤ 65535) (b2 : (F : Int) ≤ 65535) (b3 : L < 4294967296)
    (H1 : ∀ W, Calls Try.prog 83 #[.int .u64 (A : Int), .int .i64 8] W fun e w' => e = .returned (.string S1) ∧ Below W.heap.size W w')
    (H2 : ∀ W, Calls Try.prog 83 #[.int .u64 (L : Int), .int .i64 4] W fun e w' => e = .returned (.string S2) ∧ Below W.heap.size W w')
    (H3 : ∀ W, Calls Try.prog 83 #[.int .u64 (I : Int), .int .i64 2] W fun e w' => e = .returned (.string S3) ∧ Below W.heap.size W w')
    (H4 : ∀ W, Calls Try.prog 83 #[.int .u64 (F : Int), .int .i64 2] W fun e w' => e = .returned (.string S4) ∧ Below W.heap.size W w')
    (K1 : ∀ W, Calls Try.prog 82 #[.int .i64 (I : Int)] W fun e w' => e = .returned (.bool true) ∧ W = w')
    (K2 : ∀ W, Calls Try.prog 82 #[.int .i64 (F : Int)] W fun e w' => e = .returned (.bool true) ∧ W = w') (w : World) :
    Calls Try.prog 67 #[.agg #[.int .u64 (A : Int), .int .u32 (L : Int), .int .i64 (I : Int), .int .i64 (F : Int)]] w fun e w' => e = .returned (.tuple #[.string (S1 ++ S2 ++ S3 ++ S4), .int .i64 0]) ∧ Below w.heap.size w w' := by
  have G1 := Lib.hid H1
  have G2 := Lib.hid H2
  have G3 := Lib.hid H3
  have G4 := Lib.hid H4
  have GI := Lib.hid K1
  have GF := Lib.hid K2
  clear H1 H2 H3 H4 K1 K2
  have c1 : ¬ 9223372036854775807 < S1.size + S2.size := by omega
  have c2 : ¬ 9223372036854775807 < S1.size + S2.size + S3.size := by omega
  have c3 : ¬ 9223372036854775807 < S1.size + S2.size + S3.size + S4.size := by omega
  have v1 : IntKind.u64.wrap (L : Int) = L := by rw [IntKind.wrap_u64]; omega
  have v2 : IntKind.u64.wrap (I : Int) = I := by rw [IntKind.wrap_u64]; omega
  have v3 : IntKind.u64.wrap (F : Int) = F := by rw [IntKind.wrap_u64]; omega
  have hB := Below.refl w.heap.size w
  clear h1 h2 h3 h4 b1 b2 b3 hB
  go_enter Try.func67, Try.ntmps67
  go_wp2_with (first
    | (go_at_call 82; ((with_reducible refine (GI.out _).mono ?_); rintro e w' ⟨rfl, rfl⟩))
    | (go_at_call 82; ((with_reducible refine (GF.out _).mono ?_); rintro e w' ⟨rfl, rfl⟩)))
  have c0 := (H4.new w 100 (.int .u64 (A : Int)) (.int .u32 (L : Int)) (.int .i64 (I : Int)) (.int .i64 (F : Int))).drew
  unfold H4 at c0
  go_region_held3 (fun w' => (w'.cell? ⟨w.heap.size, 0, none⟩ = some (.int .u64 (A : Int)) ∧ w'.cell? ⟨w.heap.size, 1, none⟩ = some (.int .u32 (L : Int)) ∧ w'.cell? ⟨w.heap.size, 2, none⟩ = some (.int .i64 (I : Int)) ∧ w'.cell? ⟨w.heap.size, 3, none⟩ = some (.int .i64 (F : Int))) ∧ Held w 100 #[.int .u64 (A : Int), .int .u32 (L : Int), .int .i64 (I : Int), .int .i64 (F : Int)] w')
    (first | exact c0 | assumption | exact H4.next (by assumption) hq)
    (first
      | (go_at_call 83; ((with_reducible refine (G1.out _).mono ?_); rintro e w' ⟨rfl, hq⟩))
      | (go_at_call 83; ((with_reducible refine (G2.out _).mono ?_); rintro e w' ⟨rfl, hq⟩))
      | (go_at_call 83; ((with_reducible refine (G3.out _).mono ?_); rintro e w' ⟨rfl, hq⟩))
      | (go_at_call 83; ((with_reducible refine (G4.out _).mono ?_); rintro e w' ⟨rfl, hq⟩)))
  all_goals
    rename_i hH
    go_wp2
    go_ret2
    exact ⟨rfl, hH.2.below⟩
theorem build_id (A L I F : Int) (w : World) (h : ¬ (0 ≤ I ∧ I ≤ 65535)) :
    Calls Try.prog 67 #[.agg #[.int .u64 A, .int .u32 L, .int .i64 I, .int .i64 F]] w fun e w' => e = .returned (.tuple #[.string ⟨#[]⟩, .int .i64 1]) ∧ Below w.heap.size w w' := by
  have GI := Lib.hid (fun W => isWord_any I false (decide_eq_false h).symm W)
  clear h
  go_enter Try.func67, Try.ntmps67
  go_wp2_with ((go_at_call 82; ((with_reducible refine (GI.out _).mono ?_); rintro e w' ⟨rfl, rfl⟩)))
  go_ret2
  exact ⟨rfl, ba (Below.refl _ _) _⟩
theorem build_flags (A L I F : Int) (w : World) (h1 : 0 ≤ I ∧ I ≤ 65535) (h : ¬ (0 ≤ F ∧ F ≤ 65535)) :
    Calls Try.prog 67 #[.agg #[.int .u64 A, .int .u32 L, .int .i64 I, .int .i64 F]] w fun e w' => e = .returned (.tuple #[.string ⟨#[]⟩, .int .i64 1]) ∧ Below w.heap.size w w' := by
  have GI := Lib.hid (fun W => isWord_any I true (decide_eq_true h1).symm W)
  have GF := Lib.hid (fun W => isWord_any F false (decide_eq_false h).symm W)
  clear h h1
  go_enter Try.func67, Try.ntmps67
  go_wp2_with (first
    | (go_at_call 82; ((with_reducible refine (GI.out _).mono ?_); rintro e w' ⟨rfl, rfl⟩))
    | (go_at_call 82; ((with_reducible refine (GF.out _).mono ?_); rintro e w' ⟨rfl, rfl⟩)))
  go_ret2
  exact ⟨rfl, ba (Below.refl _ _) _⟩
def isW (I F : Int) : Prop := (0 ≤ I ∧ I ≤ 65535) ∧ (0 ≤ F ∧ F ≤ 65535)
instance (I F : Int) : Decidable (isW I F) := by unfold isW; infer_instance
/-- what Build answers -/
def buS (A L : Nat) (I F : Int) : ByteArray := if isW I F then desB A L I.toNat F.toNat else ⟨#[]⟩
def buE (I F : Int) : Int := if isW I F then 0 else 1
theorem desB_def (A L I F : Nat) : pb A 8 ++ pb L 4 ++ pb I 2 ++ pb F 2 = desB A L I F := rfl
theorem build_ok (A L I F : Nat) (hA : A < 18446744073709551616) (hL : L < 4294967296) (hI : I ≤ 65535) (hF : F ≤ 65535) (w : World) :
    Calls Try.prog 67 #[.agg #[.int .u64 (A : Int), .int .u32 (L : Int), .int .i64 (I : Int), .int .i64 (F : Int)]] w fun e w' => e = .returned (.tuple #[.string (desB A L I F), .int .i64 0]) ∧ Below w.heap.size w w' :=
  build_walk A L I F (pb A 8) (pb L 4) (pb I 2) (pb F 2) (pb_size _ _) (pb_size _ _) (pb_size _ _) (pb_size _ _) (by omega) (by omega) hL
    (fun W => put_pb A 8 (by decide) (by decide) (by omega) W) (fun W => put_pb L 4 (by decide) (by decide) (by omega) W)
    (fun W => put_pb I 2 (by decide) (by decide) (by omega) W) (fun W => put_pb F 2 (by decide) (by decide) (by omega) W)
    (fun W => isWord_any I true (decide_eq_true (by omega)).symm W) (fun W => isWord_any F true (decide_eq_true (by omega)).symm W) w
theorem build_any (A L : Nat) (I F : Int) (hA : A < 18446744073709551616) (hL : L < 4294967296) (w : World) :
    Calls Try.prog 67 #[.agg #[.int .u64 (A : Int), .int .u32 (L : Int), .int .i64 I, .int .i64 F]] w fun e w' => e = .returned (.tuple #[.string (buS A L I F), .int .i64 (buE I F)]) ∧ Below w.heap.size w w' := by
  by_cases h1 : 0 ≤ I ∧ I ≤ 65535
  · by_cases h2 : 0 ≤ F ∧ F ≤ 65535
    · rw [buS, buE, if_pos ⟨h1, h2⟩, if_pos ⟨h1, h2⟩]
      obtain ⟨i, rfl⟩ := Int.eq_ofNat_of_zero_le h1.1
      obtain ⟨f, rfl⟩ := Int.eq_ofNat_of_zero_le h2.1
      exact build_ok A L i f hA hL (by omega) (by omega) w
    · rw [buS, buE, if_neg (fun h => h2 h.2), if_neg (fun h => h2 h.2)]
      exact build_flags A L I F w h1 h2
  · rw [buS, buE, if_neg (fun h => h1 h.1), if_neg (fun h => h1 h.1)]
    exact build_id A L I F w h1
end Go.Proofs.Ytbpgblmhacpjlaa
