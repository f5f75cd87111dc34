/-
  For every input the law WordsGets returns true, and its argument reads afterwards as before; no condition beyond the form's own reach.
-/
import Derived.Test.YtlgcnaedaljpiaaFrame
import Derived.Test.YtlgcnaedaljpiaaFixed
import Derived.Test.YtlgcnaedaljpiaaGetr
namespace Go.Proofs.Ytlgcnaedaljpiaa
open Go.Joins Go.ChangeShapes Go.WideShapes Go.ChangeAt Go.RowKit Go.Deep

theorem bcell {W w1 : World} (hb : Below W.heap.size W w1) : (∀ b o, b < W.heap.size → w1.cell? ⟨b, o, none⟩ = W.cell? ⟨b, o, none⟩) ∧ (∀ b o, b < W.heap.size → w1.frozen? ⟨b, o, none⟩ = W.frozen? ⟨b, o, none⟩) :=
  ⟨fun b o h => hb.cell (p := ⟨b, o, none⟩) h, fun b o h => hb.frozen (p := ⟨b, o, none⟩) h⟩

set_option maxHeartbeats 400000 in
theorem wordsGets_any (s : ByteArray) (a n v : Int) (big : Bool) (w : World) (hs : s.size ≤ 140737488351232) (h0 : 0 ≤ v) (h64 : v < 18446744073709551616) :
    Calls Try.prog 3 #[.agg #[.string s, .int .i64 a, .int .i64 n, .int .u64 v, .bool big]] w fun e w' => e = .returned (.bool true) ∧ Below w.heap.size w w' := by
  have hm : s.size ≤ maxLen := by unfold maxLen; omega
  go_enter Try.func3, Try.ntmps3
  go_wp2_with (first
    | (go_at_call 9; refine (get_any _ _ _ _ _ hm).mono ?_; rintro e w1 ⟨rfl, hb1⟩; obtain ⟨hc1, hf1⟩ := bcell hb1; have hz1 : w.heap.size < w1.heap.size := by have := hb1.size; simp at this; omega)
    | (go_at_call 10; refine (getr_any _ _ _ _ _ hm).mono ?_; rintro e w2 ⟨rfl, rfl⟩)
    | (go_at_call 11; refine (put_any _ _ _ _ h0).mono ?_; rintro e w3 ⟨rfl, hb3⟩; obtain ⟨hc3, hf3⟩ := bcell hb3; have hz3 : w.heap.size < w3.heap.size := by have := hb3.size; omega)
    | (go_at_call 12; refine (putr_any _ _ _ _ h0 h64).mono ?_; rintro e w4 ⟨rfl, hb4⟩)
    | (go_at_call 13; refine (fixed_any _).mono ?_; rintro e w5 ⟨rfl, hb5⟩))
  go_ret
  refine ⟨rfl, ?_⟩
  have hz4 := hb4.size
  have hz3' := hb3.size
  exact ((Below.refl _ _).alloc (Nat.le_refl _) _).trans <| (hb1.mono (by simp)).trans <| (hb3.mono (by omega)).trans <| (hb4.mono (by omega)).trans (hb5.mono (by omega))

set_option maxRecDepth 100000 in
theorem wordsGets_lifted (os : Os) (started : os.Started) (H : Type) (enc : TypeId × Value → H) :
    ReturnsInHanded {} Try.checked os 3 .any (Rows.wordsGetsSpec.pre6 enc Try.prog Try.f3 Rows.wordsGetsRow.domain false) (Rows.wordsGetsSpec.post enc Try.prog Try.f3 false true false false) := by
  refine law_of_walk (C := Try.checked) (tb := 4) H enc Try.own started (by kernel_rfl) Try.func3 Try.laidOut rfl rfl Try.underlying4 ?_ ?_
    (ChangeSpec.witness6 (enc := enc) (C := Try.checked) false ⟨#[], #[.agg #[.string ByteArray.empty, .int .i64 0, .int .i64 0, .int .u64 0, .bool false]], []⟩ 8 (by kernel_rfl) (by kernel_rfl) (by kernel_rfl) (by kernel_rfl)) ?_
  · have e : Try.f3.params.toList = [24] := by rw [Try.params3]
    rw [e]
    intro t ht
    obtain rfl : t = 24 := by simpa using ht
    exact ⟨by kernel_rfl, of_decide_eq_true (by kernel_rfl)⟩
  · intro ds hds
    have e : Try.f3.params.toList = [24] := by rw [Try.params3]
    rw [e] at hds
    match ds, hds with
    | [d], _ => rfl
  · intro W base args ds p hval0 hA0 hsz0
    have hval : ∀ (j : Nat) t v, Try.f3.params[j]? = some t → args[j]? = some v → Value.okWide Try.prog W .any base t v := hval0
    have hA : DataW.TrodAll enc Try.prog W 0 (fun _ => true) true Try.f3.params.toList args.toList ds p := hA0
    have hsz : (DataW.weightsEach Try.prog Try.f3.params.toList ds).all (· ≤ reachBytes) = true := hsz0
    rw [Try.params3] at hA hval hsz
    obtain ⟨v0, d0, rfl, rfl, h0⟩ := trodAll_one hA
    obtain ⟨s, a, n, u, big, rfl, hs, hu0, hu1, _, _⟩ := open_spot (hval 0 24 v0 rfl rfl) h0 hsz
    exact wordsGets_any s a n u big W hs hu0 hu1

theorem wordsGets_holds : Rows.WordsGetsSaid :=
  OpenClaim.holds_of_wide 3 Try.f3 rfl rfl rfl rfl rfl rfl rfl ⟨rfl, rfl, rfl, rfl, rfl⟩ rfl rfl rfl rfl rfl (by kernel_rfl) Try.func3 (by kernel_rfl)
    (of_decide_eq_true (by kernel_rfl)) (by unfold Func.isWrapper; first | (rw [if_pos (by decide +kernel)]; kernel_rfl) | (rw [if_neg (by decide +kernel)]; exact ⟨rfl, rfl⟩))
    (fun os started H enc _ => wordsGets_lifted os started H enc)
end Go.Proofs.Ytlgcnaedaljpiaa
