/-
  For every input the law WordsBack returns true, and its argument reads afterwards as before; no condition beyond the form's own reach.
-/
import Derived.Test.YtlgcnaedaljpiaaBack
import Derived.Deep.RegionHeld3
namespace Go.Proofs.Ytlgcnaedaljpiaa
open Go.Joins Go.ChangeShapes Go.WideShapes Go.ChangeAt Go.RowKit Go.Deep

/-- The law's own copy of its argument lies in the block behind w's last, whatever was called. -/
structure Kept (w : World) (s : ByteArray) (a n v : Int) (big : Bool) (W : World) : Prop where
  c0 : W.cell? ⟨w.heap.size, 0, none⟩ = some (.string s)
  c1 : W.cell? ⟨w.heap.size, 1, none⟩ = some (.int .i64 a)
  c2 : W.cell? ⟨w.heap.size, 2, none⟩ = some (.int .i64 n)
  c3 : W.cell? ⟨w.heap.size, 3, none⟩ = some (.int .u64 v)
  c4 : W.cell? ⟨w.heap.size, 4, none⟩ = some (.bool big)
  big : w.heap.size < W.heap.size
  below : Below w.heap.size w W
theorem Kept.start (w : World) (s : ByteArray) (a n v : Int) (big : Bool) : Kept w s a n v big (w.alloc (.cells #[.string s, .int .i64 a, .int .i64 n, .int .u64 v, .bool big] 24)) :=
  ⟨by simp, by simp, by simp, by simp, by simp, by simp, (Below.refl _ _).alloc (Nat.le_refl _) _⟩
theorem Kept.next {w : World} {s : ByteArray} {a n v : Int} {big : Bool} {W W' : World} (h : Kept w s a n v big W) (hb : Below W.heap.size W W') : Kept w s a n v big W' :=
  ⟨(hb.cell (p := ⟨w.heap.size, 0, none⟩) h.big).trans h.c0, (hb.cell (p := ⟨w.heap.size, 1, none⟩) h.big).trans h.c1, (hb.cell (p := ⟨w.heap.size, 2, none⟩) h.big).trans h.c2,
   (hb.cell (p := ⟨w.heap.size, 3, none⟩) h.big).trans h.c3, (hb.cell (p := ⟨w.heap.size, 4, none⟩) h.big).trans h.c4, by have := hb.size; have := h.big; omega, h.below.trans (hb.mono (Nat.le_of_lt h.big))⟩

theorem Kept.drewN {w : World} {s : ByteArray} {a n v : Int} {big : Bool} {W : World} (h : Kept w s a n v big W) (k : Nat) : Kept w s a n v big (W.drewN k) :=
  h.next (below_drewN (Below.refl _ _) k)
theorem Kept.calls {w : World} {s : ByteArray} {a n v : Int} {big : Bool} {W : World} (h : Kept w s a n v big W) :
    W.cell? ⟨w.heap.size, 0, none⟩ = some (.string s) ∧ W.cell? ⟨w.heap.size, 3, none⟩ = some (.int .u64 v) ∧ w.heap.size < W.heap.size ∧ Below w.heap.size w W := ⟨h.c0, h.c3, h.big, h.below⟩
theorem Kept.drew {w : World} {s : ByteArray} {a n v : Int} {big : Bool} {W : World} (h : Kept w s a n v big W) :
    W.drew.cell? ⟨w.heap.size, 0, none⟩ = some (.string s) ∧ W.drew.cell? ⟨w.heap.size, 3, none⟩ = some (.int .u64 v) ∧ w.heap.size < W.drew.heap.size ∧ Below w.heap.size w W.drew := (h.next (Below.refl _ _).drew).calls
theorem next4 {w W W' : World} {s : ByteArray} {v : Int} (h : W.cell? ⟨w.heap.size, 0, none⟩ = some (.string s) ∧ W.cell? ⟨w.heap.size, 3, none⟩ = some (.int .u64 v) ∧ w.heap.size < W.heap.size ∧ Below w.heap.size w W) (hb : Below W.heap.size W W') :
    W'.cell? ⟨w.heap.size, 0, none⟩ = some (.string s) ∧ W'.cell? ⟨w.heap.size, 3, none⟩ = some (.int .u64 v) ∧ w.heap.size < W'.heap.size ∧ Below w.heap.size w W' :=
  ⟨(hb.cell (p := ⟨w.heap.size, 0, none⟩) h.2.2.1).trans h.1, (hb.cell (p := ⟨w.heap.size, 3, none⟩) h.2.2.1).trans h.2.1, by have := hb.size; omega, h.2.2.2.trans (hb.mono (by omega))⟩

set_option maxRecDepth 100000 in
set_option maxHeartbeats 800000 in
theorem back_put (s : ByteArray) (a n v : Int) (big : Bool) (w : World) (h0 : 0 ≤ v) (hp : putE v n = 1) :
    Calls Try.prog 5 #[.agg #[.string s, .int .i64 a, .int .i64 n, .int .u64 v, .bool big]] w fun e w' => e = .returned (.bool true) ∧ Below w.heap.size w w' := by
  have g1 := fun w => put_any v n big w h0
  have g2 := fun w => put_any v n (!big) w h0
  rw [hp] at g1 g2
  have G1 := Lib.hid g1
  have G2 := Lib.hid g2
  clear g1 g2 hp
  have hI := Kept.start w s a n v big
  go_enter Try.func5, Try.ntmps5
  go_wp2_with (first
    | (go_at_call 11; ((with_reducible refine (G1.out _).mono ?_); rintro e w1 ⟨rfl, hb1⟩; replace hI := hI.next hb1; clear hb1; have c0 := hI.c0; have c1 := hI.c1; have c2 := hI.c2; have c3 := hI.c3; have c4 := hI.c4))
    | (go_at_call 11; ((with_reducible refine (G2.out _).mono ?_); rintro e w1 ⟨rfl, hb1⟩; replace hI := hI.next hb1; clear hb1; have c0 := hI.c0; have c1 := hI.c1; have c2 := hI.c2; have c3 := hI.c3; have c4 := hI.c4))
    | (go_at_call 13; refine (fixed_any _).mono ?_; rintro e w5 ⟨rfl, hb5⟩; replace hI := hI.next hb5; clear hb5))
  go_ret
  exact ⟨rfl, hI.below⟩

set_option maxRecDepth 100000 in
set_option maxHeartbeats 800000 in
theorem back_at (s : ByteArray) (a n v : Int) (big : Bool) (w : World) (hs : s.size ≤ 140737488351232) (h0 : 0 ≤ v) (h1 : 1 ≤ n) (h2 : n ≤ 8) (hp : putE v n = 0) (h : a < 0 ∨ (s.size : Int) < a + n) :
    Calls Try.prog 5 #[.agg #[.string s, .int .i64 a, .int .i64 n, .int .u64 v, .bool big]] w fun e w' => e = .returned (.bool true) ∧ Below w.heap.size w w' := by
  obtain ⟨m, rfl⟩ := Int.eq_ofNat_of_zero_le (show 0 ≤ n by omega)
  obtain ⟨A, B, lA, G1, G2, G3, G4⟩ := put_calls m v big h0 (by omega) (by omega) hp
  have G5 := Lib.hid (fun w => set_at s a v m big w (by omega) h0 h1 h2 hp h)
  clear hp h
  have hI := Kept.start w s a m v big
  go_enter Try.func5, Try.ntmps5
  go_wp2_with (first
    | (go_at_call 11; ((with_reducible refine (G1.out _).mono ?_); rintro e w1 ⟨rfl, hb1⟩; replace hI := hI.next hb1; clear hb1; have c0 := hI.c0; have c1 := hI.c1; have c2 := hI.c2; have c3 := hI.c3; have c4 := hI.c4))
    | (go_at_call 11; ((with_reducible refine (G2.out _).mono ?_); rintro e w1 ⟨rfl, hb1⟩; replace hI := hI.next hb1; clear hb1; have c0 := hI.c0; have c1 := hI.c1; have c2 := hI.c2; have c3 := hI.c3; have c4 := hI.c4))
    | (go_at_call 16; ((with_reducible refine (G3.out _).mono ?_); rintro e w1 ⟨rfl, hb1⟩; replace hI := hI.next hb1; clear hb1; have c0 := hI.c0; have c1 := hI.c1; have c2 := hI.c2; have c3 := hI.c3; have c4 := hI.c4))
    | (go_at_call 9; ((with_reducible refine (G4.out _).mono ?_); rintro e w1 ⟨rfl, hb1⟩; replace hI := hI.next hb1; clear hb1; have c0 := hI.c0; have c1 := hI.c1; have c2 := hI.c2; have c3 := hI.c3; have c4 := hI.c4))
    | (go_at_call 14; ((with_reducible refine (G5.out _).mono ?_); rintro e w1 ⟨rfl, hb1⟩; replace hI := hI.next hb1; clear hb1; have c0 := hI.c0; have c1 := hI.c1; have c2 := hI.c2; have c3 := hI.c3; have c4 := hI.c4))
    | (go_at_call 13; refine (fixed_any _).mono ?_; rintro e w5 ⟨rfl, hb5⟩; replace hI := hI.next hb5; clear hb5))
  go_ret
  exact ⟨rfl, hI.below⟩

set_option maxRecDepth 100000 in
set_option maxHeartbeats 1600000 in
theorem back_ok (s : ByteArray) (a n : Nat) (v : Int) (big : Bool) (w : World) (hs : s.size ≤ 140737488351232) (h0 : 0 ≤ v) (h1 : 1 ≤ n) (h2 : n ≤ 8) (hp : putE v n = 0) (h : a + n ≤ s.size) :
    Calls Try.prog 5 #[.agg #[.string s, .int .i64 a, .int .i64 n, .int .u64 v, .bool big]] w fun e w' => e = .returned (.bool true) ∧ Below w.heap.size w w' := by
  obtain ⟨A, B, lA, G1, G2, G3, G4⟩ := put_calls n v big h0 (by omega) (by omega) hp
  obtain ⟨S, T, lS, eS1, eS2, G5, G6, G7, G8⟩ := set_calls s a n v big h0 (by omega) (by omega) hp h hs
  clear hp
  have HS := Lib.hid lS
  have HS1 := Lib.hid eS1
  have HS2 := Lib.hid eS2
  clear lS eS1 eS2
  have hI := Kept.start w s a n v big
  go_enter Try.func5, Try.ntmps5
  go_wp2_with (first
    | (go_at_call 11; ((with_reducible refine (G1.out _).mono ?_); rintro e w1 ⟨rfl, hb1⟩; replace hI := hI.next hb1; clear hb1; have c0 := hI.c0; have c1 := hI.c1; have c2 := hI.c2; have c3 := hI.c3; have c4 := hI.c4))
    | (go_at_call 11; ((with_reducible refine (G2.out _).mono ?_); rintro e w1 ⟨rfl, hb1⟩; replace hI := hI.next hb1; clear hb1; have c0 := hI.c0; have c1 := hI.c1; have c2 := hI.c2; have c3 := hI.c3; have c4 := hI.c4))
    | (go_at_call 16; ((with_reducible refine (G3.out _).mono ?_); rintro e w1 ⟨rfl, hb1⟩; replace hI := hI.next hb1; clear hb1; have c0 := hI.c0; have c1 := hI.c1; have c2 := hI.c2; have c3 := hI.c3; have c4 := hI.c4))
    | (go_at_call 9; ((with_reducible refine (G4.out _).mono ?_); rintro e w1 ⟨rfl, hb1⟩; replace hI := hI.next hb1; clear hb1; have c0 := hI.c0; have c1 := hI.c1; have c2 := hI.c2; have c3 := hI.c3; have c4 := hI.c4))
    | (go_at_call 14; ((with_reducible refine (G5.out _).mono ?_); rintro e w1 ⟨rfl, hb1⟩; replace hI := hI.next hb1; clear hb1; have c0 := hI.c0; have c1 := hI.c1; have c2 := hI.c2; have c3 := hI.c3; have c4 := hI.c4)))
  have q1 : a ≤ s.size := by omega
  have q2 : (0 : Int) ≤ (a : Int) + n := by omega
  have q3 : (a : Int) + n ≤ s.size := by omega
  have q4 : ¬ ((s.size : Int) - n < a) := by omega
  have q5 : decide ((s.size : Int) - n < a) = false := decide_eq_false q4
  have q6 : decide ((a : Int) < 0) = false := decide_eq_false (by omega)
  have q7 : IntKind.i64.wrap ((a : Int) + n) = (a : Int) + n := IntWalk.i64_in _ (by omega)
  have q8 : IntKind.i64.wrap ((s.size : Int) - n) = (s.size : Int) - n := IntWalk.i64_in _ (by omega)
  have q9 : ((a : Int) + n).toNat = a + n := by omega
  have lS := HS.out
  have eS1 := HS1.out
  have eS2 := HS2.out
  go_quiet (fail)
  clear q2 q3 q4 q5 q6 q7 q8 q9 lS eS1 eS2 c0 c1 c2 c3 c4
  replace hI := hI.drewN nq
  have c0 := hI.c0
  have c1 := hI.c1
  have c2 := hI.c2
  have c3 := hI.c3
  have c4 := hI.c4
  go_wp2_with (go_at_call 9; ((with_reducible refine (G6.out _).mono ?_); rintro e w2 ⟨rfl, hb1⟩; replace hI := hI.next hb1; clear hb1))
  clear c0 c1 c2 c3 c4
  have hc := hI.calls
  go_region_held3 (fun w' => w'.cell? ⟨w.heap.size, 0, none⟩ = some (.string s) ∧ w'.cell? ⟨w.heap.size, 3, none⟩ = some (.int .u64 v) ∧ w.heap.size < w'.heap.size ∧ Below w.heap.size w w') (first | exact hc | assumption | exact hI.drew | exact next4 (by assumption) hb')
    (first
      | (go_at_call 16; ((with_reducible refine (G7.out _).mono ?_); rintro e w' ⟨rfl, hb'⟩))
      | (go_at_call 16; ((with_reducible refine (G8.out _).mono ?_); rintro e w' ⟨rfl, hb'⟩))
      | (go_at_call 13; refine (fixed_any _).mono ?_; rintro e w' ⟨rfl, hb'⟩))
  go_wp2
  go_ret
  rename_i hH
  exact ⟨rfl, hH.2.2.2⟩
theorem wordsBack_any (s : ByteArray) (a n v : Int) (big : Bool) (w : World) (hs : s.size ≤ 140737488351232) (h0 : 0 ≤ v) :
    Calls Try.prog 5 #[.agg #[.string s, .int .i64 a, .int .i64 n, .int .u64 v, .bool big]] w fun e w' => e = .returned (.bool true) ∧ Below w.heap.size w w' := by
  rcases putE_cases v n with ⟨hp, h1, h2, _⟩ | ⟨hp, _⟩
  · by_cases h3 : 0 ≤ a ∧ a + n ≤ s.size
    · obtain ⟨k, rfl⟩ := Int.eq_ofNat_of_zero_le (show 0 ≤ n by omega)
      obtain ⟨b, rfl⟩ := Int.eq_ofNat_of_zero_le h3.1
      exact back_ok s b k v big w hs h0 (by omega) (by omega) hp (by omega)
    · exact back_at s a n v big w hs h0 h1 h2 hp (by omega)
  · exact back_put s a n v big w h0 hp

set_option maxRecDepth 100000 in
theorem wordsBack_lifted (os : Os) (started : os.Started) (H : Type) (enc : TypeId × Value → H) :
    ReturnsInHanded {} Try.checked os 5 .any (Rows.wordsBackSpec.pre6 enc Try.prog Try.f5 Rows.wordsBackRow.domain false) (Rows.wordsBackSpec.post enc Try.prog Try.f5 false true false false) := by
  have e : Try.f5.params.toList = [24] := by rw [Try.params5]
  refine law_of_walk (C := Try.checked) (tb := 4) H enc Try.own started (by kernel_rfl) Try.func5 Try.laidOut rfl rfl Try.underlying4 ?_ ?_
    (ChangeSpec.witness6 (enc := enc) (C := Try.checked) false ⟨#[], #[.agg #[.string ByteArray.empty, .int .i64 0, .int .i64 0, .int .u64 0, .bool false]], []⟩ 8 (by kernel_rfl) (by kernel_rfl) (by kernel_rfl) (by kernel_rfl)) ?_
  · rw [e]
    intro t ht
    simp only [List.mem_cons, List.not_mem_nil, or_false] at ht
    rcases ht with rfl <;> exact ⟨by kernel_rfl, of_decide_eq_true (by kernel_rfl)⟩
  · intro ds hds
    rw [e] at hds
    match ds, hds with
    | [d0], _ => rfl
  · intro W base args ds p hval0 hA0 hsz0
    have hval : ∀ (j : Nat) t v, Try.f5.params[j]? = some t → args[j]? = some v → Value.okWide Try.prog W .any base t v := hval0
    have hA : DataW.TrodAll enc Try.prog W 0 (fun _ => true) true Try.f5.params.toList args.toList ds p := hA0
    have hsz : (DataW.weightsEach Try.prog Try.f5.params.toList ds).all (· ≤ reachBytes) = true := hsz0
    rw [Try.params5] at hA hval hsz
    obtain ⟨v0, d0, rfl, rfl, h0⟩ := trodAll_one hA
    obtain ⟨s, a, n, u, big, rfl, hs, hu0, hu1, _, _⟩ := open_spot (hval 0 24 v0 rfl rfl) h0 hsz
    exact wordsBack_any s a n u big W hs hu0

theorem wordsBack_holds : Rows.WordsBackSaid :=
  OpenClaim.holds_of_wide 5 Try.f5 rfl rfl rfl rfl rfl rfl rfl ⟨rfl, rfl, rfl, rfl, rfl⟩ rfl rfl rfl rfl rfl (by kernel_rfl) Try.func5 (by kernel_rfl)
    (of_decide_eq_true (by kernel_rfl)) (by unfold Func.isWrapper; first | (rw [if_pos (by decide +kernel)]; kernel_rfl) | (rw [if_neg (by decide +kernel)]; exact ⟨rfl, rfl⟩))
    (fun os started H enc _ => wordsBack_lifted os started H enc)
end Go.Proofs.Ytlgcnaedaljpiaa
