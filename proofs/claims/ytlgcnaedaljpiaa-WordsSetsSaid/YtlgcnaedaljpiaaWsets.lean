/-
  For every input the law WordsSets returns true, and its argument reads afterwards as before; no condition beyond the form's own reach.
-/
import Derived.Test.YtlgcnaedaljpiaaFrame
import Derived.Test.YtlgcnaedaljpiaaFixed
import Derived.Deep.RegionHeld3
namespace Go.Proofs.Ytlgcnaedaljpiaa
open Go.Joins Go.ChangeShapes Go.WideShapes Go.ChangeAt Go.RowKit Go.Deep

theorem bcells {W w1 : World} (hb : Below W.heap.size W w1) : (∀ b o, b < W.heap.size → w1.cell? ⟨b, o, none⟩ = W.cell? ⟨b, o, none⟩) ∧ (∀ b o, b < W.heap.size → w1.frozen? ⟨b, o, none⟩ = W.frozen? ⟨b, o, none⟩) :=
  ⟨fun b o h => hb.cell (p := ⟨b, o, none⟩) h, fun b o h => hb.frozen (p := ⟨b, o, none⟩) h⟩

theorem next {w W W' : World} {s : ByteArray} (h : W.cell? ⟨w.heap.size, 0, none⟩ = some (.string s) ∧ w.heap.size < W.heap.size ∧ Below w.heap.size w W) (hb : Below W.heap.size W W') :
    W'.cell? ⟨w.heap.size, 0, none⟩ = some (.string s) ∧ w.heap.size < W'.heap.size ∧ Below w.heap.size w W' :=
  ⟨(hb.cell (p := ⟨w.heap.size, 0, none⟩) h.2.1).trans h.1, by have := hb.size; omega, h.2.2.trans (hb.mono (by omega))⟩

set_option maxHeartbeats 800000 in
theorem wordsSets_any (s : ByteArray) (a n v : Int) (big : Bool) (w : World) (hs : s.size ≤ 140737488351232) (h0 : 0 ≤ v) (h64 : v < 18446744073709551616) :
    Calls Try.prog 4 #[.agg #[.string s, .int .i64 a, .int .i64 n, .int .u64 v, .bool big]] w fun e w' => e = .returned (.bool true) ∧ Below w.heap.size w w' := by
  have hs8 : s.size ≤ 281474976710656 := by omega
  go_enter Try.func4, Try.ntmps4
  go_wp2_with (first
    | (go_at_call 14; refine (set_any _ _ _ _ _ _ hs8 h0).mono ?_; rintro e w1 ⟨rfl, hb1⟩; obtain ⟨hc1, hf1⟩ := bcells hb1; have hz1 : w.heap.size < w1.heap.size := by have := hb1.size; simp at this; omega)
    | (go_at_call 15; refine (setr_any _ _ _ _ _ _ hs8 h0 h64).mono ?_; rintro e w2 ⟨rfl, hb2⟩; obtain ⟨hc2, hf2⟩ := bcells hb2; have hz2 : w.heap.size < w2.heap.size := by have := hb2.size; omega))
  have q1 : w2.cell? ⟨w.heap.size, 0, none⟩ = some (.string s) := by rw [hb2.cell (p := ⟨w.heap.size, 0, none⟩) hz1, hb1.cell (p := ⟨w.heap.size, 0, none⟩) (by simp)]; simp
  have q3 : Below w.heap.size w w2 := ((Below.refl _ _).alloc (Nat.le_refl _) _).trans <| (hb1.mono (by simp)).trans (hb2.mono (by omega))
  clear hb1 hb2 hz1 hc1 hf1 hc2 hf2
  go_region_held3 (fun w' => w'.cell? ⟨w.heap.size, 0, none⟩ = some (.string s) ∧ w.heap.size < w'.heap.size ∧ Below w.heap.size w w') (first | exact ⟨q1, hz2, q3⟩ | assumption | exact ⟨q1, hz2, q3.drew⟩ | exact next (by assumption) hb')
    (first
      | (go_at_call 13; refine (fixed_any _).mono ?_; rintro e w' ⟨rfl, hb'⟩)
      | (go_at_call 16; refine (turn_any _ _ hs8).mono ?_; rintro e w' ⟨rfl, hb'⟩)
      | (go_at_call 17; refine (turnr_any _ _ hs).mono ?_; rintro e w' ⟨rfl, hb'⟩))
  go_wp2
  go_ret
  rename_i hH
  exact ⟨rfl, hH.2.2⟩

set_option maxRecDepth 100000 in
theorem wordsSets_lifted (os : Os) (started : os.Started) (H : Type) (enc : TypeId × Value → H) :
    ReturnsInHanded {} Try.checked os 4 .any (Rows.wordsSetsSpec.pre6 enc Try.prog Try.f4 Rows.wordsSetsRow.domain false) (Rows.wordsSetsSpec.post enc Try.prog Try.f4 false true false false) := by
  refine law_of_walk (C := Try.checked) (tb := 4) H enc Try.own started (by kernel_rfl) Try.func4 Try.laidOut rfl rfl Try.underlying4 ?_ ?_
    (ChangeSpec.witness6 (enc := enc) (C := Try.checked) false ⟨#[], #[.agg #[.string ByteArray.empty, .int .i64 0, .int .i64 0, .int .u64 0, .bool false]], []⟩ 8 (by kernel_rfl) (by kernel_rfl) (by kernel_rfl) (by kernel_rfl)) ?_
  · have e : Try.f4.params.toList = [24] := by rw [Try.params4]
    rw [e]
    intro t ht
    obtain rfl : t = 24 := by simpa using ht
    exact ⟨by kernel_rfl, of_decide_eq_true (by kernel_rfl)⟩
  · intro ds hds
    have e : Try.f4.params.toList = [24] := by rw [Try.params4]
    rw [e] at hds
    match ds, hds with
    | [d], _ => rfl
  · intro W base args ds p hval0 hA0 hsz0
    have hval : ∀ (j : Nat) t v, Try.f4.params[j]? = some t → args[j]? = some v → Value.okWide Try.prog W .any base t v := hval0
    have hA : DataW.TrodAll enc Try.prog W 0 (fun _ => true) true Try.f4.params.toList args.toList ds p := hA0
    have hsz : (DataW.weightsEach Try.prog Try.f4.params.toList ds).all (· ≤ reachBytes) = true := hsz0
    rw [Try.params4] at hA hval hsz
    obtain ⟨v0, d0, rfl, rfl, h0⟩ := trodAll_one hA
    obtain ⟨s, a, n, u, big, rfl, hs, hu0, hu1, _, _⟩ := open_spot (hval 0 24 v0 rfl rfl) h0 hsz
    exact wordsSets_any s a n u big W hs hu0 hu1

theorem wordsSets_holds : Rows.WordsSetsSaid :=
  OpenClaim.holds_of_wide 4 Try.f4 rfl rfl rfl rfl rfl rfl rfl ⟨rfl, rfl, rfl, rfl, rfl⟩ rfl rfl rfl rfl rfl (by kernel_rfl) Try.func4 (by kernel_rfl)
    (of_decide_eq_true (by kernel_rfl)) (by unfold Func.isWrapper; first | (rw [if_pos (by decide +kernel)]; kernel_rfl) | (rw [if_neg (by decide +kernel)]; exact ⟨rfl, rfl⟩))
    (fun os started H enc _ => wordsSets_lifted os started H enc)
end Go.Proofs.Ytlgcnaedaljpiaa
