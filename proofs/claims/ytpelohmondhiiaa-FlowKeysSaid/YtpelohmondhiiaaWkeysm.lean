/-
  For every input the law FlowKeys returns true, and its arguments read afterwards as before; no condition beyond the form's own reach.
-/
import Derived.Test.YtpelohmondhiiaaMk
import Derived.Test.YtpelohmondhiiaaWkwam
import Derived.Test.YtpelohmondhiiaaWkwbm
namespace Go.Proofs.Ytpelohmondhiiaa
open Go.Joins Go.ChangeShapes Go.WideShapes Go.ChangeAt Go.RowKit Go.Deep
open Go.ChangeMaps (open_string)

theorem ipP_sizes {s : ByteArray} (h : ipE s = 0) : ((ipP s).v = 4 ∧ (ipP s).src.size = 4 ∧ (ipP s).dst.size = 4) ∨ ((ipP s).v = 6 ∧ (ipP s).src.size = 16 ∧ (ipP s).dst.size = 16) := by
  rw [ipP, if_pos h]
  unfold ipE at h
  split at h
  · cases h
  · split at h <;> rename_i h4
    · rw [if_pos h4]
      split at h
      · cases h
      · rename_i hs
        unfold short4 at hs
        refine .inl ⟨rfl, ?_, ?_⟩ <;> simp only [pk4, ByteArray.size_extract] <;> omega
    · rw [if_neg h4]
      split at h
      · split at h
        · cases h
        · refine .inr ⟨rfl, ?_, ?_⟩ <;> simp only [pk6, ByteArray.size_extract] <;> omega
      · cases h
theorem of_sizes (x : ByteArray) : ∃ k n : Nat, ((ofV x).kind = (k : Int) ∧ (ofV x).key.size = n) ∧ ((k = 0 ∧ n = 0) ∨ (k = 1 ∧ n = 8) ∨ (k = 2 ∧ n = 12) ∨ (k = 3 ∧ n = 12) ∨ (k = 4 ∧ n = 32) ∨ (k = 5 ∧ n = 36) ∨ (k = 6 ∧ n = 36)) := by
  unfold ofV
  split
  · rename_i ho
    obtain ⟨h1, h2, h3⟩ := ho
    generalize hp : ipP (parseF x).b = p at *
    have hz := ipP_sizes h2
    rw [hp] at hz
    rcases hz with ⟨v4, s4, d4⟩ | ⟨v6, s6, d6⟩
    · have FI := flow_is p 1 (by rw [v4]; rfl)
      by_cases a : shB p.flags p.off p.body = true ∧ p.proto = 6
      · have b4 := shB_body a.1
        rw [FI.1 a]
        exact ⟨2, 12, ⟨rfl, by simp only [ByteArray.size_append, ByteArray.size_extract]; omega⟩, by omega⟩
      · by_cases b : shB p.flags p.off p.body = true ∧ p.proto = 17
        · have b4 := shB_body b.1
          rw [FI.2.1 b]
          exact ⟨3, 12, ⟨rfl, by simp only [ByteArray.size_append, ByteArray.size_extract]; omega⟩, by omega⟩
        · rw [FI.2.2 (fun x => x.2.elim (fun y => a ⟨x.1, y⟩) (fun y => b ⟨x.1, y⟩))]
          exact ⟨1, 8, ⟨rfl, by simp only [ByteArray.size_append]; omega⟩, by omega⟩
    · have FI := flow_is p 4 (by rw [v6]; rfl)
      by_cases a : shB p.flags p.off p.body = true ∧ p.proto = 6
      · have b4 := shB_body a.1
        rw [FI.1 a]
        exact ⟨5, 36, ⟨rfl, by simp only [ByteArray.size_append, ByteArray.size_extract]; omega⟩, by omega⟩
      · by_cases b : shB p.flags p.off p.body = true ∧ p.proto = 17
        · have b4 := shB_body b.1
          rw [FI.2.1 b]
          exact ⟨6, 36, ⟨rfl, by simp only [ByteArray.size_append, ByteArray.size_extract]; omega⟩, by omega⟩
        · rw [FI.2.2 (fun x => x.2.elim (fun y => a ⟨x.1, y⟩) (fun y => b ⟨x.1, y⟩))]
          exact ⟨4, 32, ⟨rfl, by simp only [ByteArray.size_append]; omega⟩, by omega⟩
  · exact ⟨0, 0, ⟨rfl, rfl⟩, by omega⟩
theorem flowKeys_main (s x : ByteArray) (w : World) (hc : (s.size ≤ 1600 ∧ s = x) ∨ (1600 < s.size ∧ s.extract 0 1600 = x)) :
    Calls Try.prog 6 #[.string s] w fun e w' => e = .returned (.bool true) ∧ Below w.heap.size w w' := by
  have A := fun W => of_any x W
  unfold OfIs at A
  obtain ⟨k, n, ⟨hk, hn⟩, hcase⟩ := of_sizes x
  have B := fun W => less_any ⟨(ofV x).kind, (ofV x).key⟩ W
  rw [hk] at A B
  generalize (ofV x).key = Y at *
  rcases hcase with ⟨rfl, rfl⟩ | ⟨rfl, rfl⟩ | ⟨rfl, rfl⟩ | ⟨rfl, rfl⟩ | ⟨rfl, rfl⟩ | ⟨rfl, rfl⟩ | ⟨rfl, rfl⟩
  · have e : lessV ⟨0, Y⟩ = ⟨0, Y⟩ := by rw [lessV, if_neg (by simp), if_neg (by simp)]
    simp only [Int.cast_ofNat_Int] at A B
    rw [e] at B
    obtain rfl : Y = ⟨#[]⟩ := lst_inj (List.length_eq_zero_iff.1 hn)
    rcases hc with ⟨h, rfl⟩ | ⟨h, ex⟩
    · exact flowKeys_s0 s w h A B B
    · exact flowKeys_l0 s x w h ex A B B
  · have e : lessV ⟨1, Y⟩ = ⟨1, Y⟩ := by rw [lessV, if_neg (by simp), if_neg (by simp)]
    have ey : Y.extract 0 8 = Y := cut_all _ _ (by omega)
    simp only [Int.cast_ofNat_Int] at A B
    rw [e] at B
    rcases hc with ⟨h, rfl⟩ | ⟨h, ex⟩
    · exact flowKeys_s1 s w h Y hn ey A B B
    · exact flowKeys_l1 s x w h ex Y hn ey A B B
  · have e : lessV ⟨2, Y⟩ = ⟨1, Y.extract 0 8⟩ := by rw [lessV]; simp
    have e2 : lessV ⟨1, Y.extract 0 8⟩ = ⟨1, Y.extract 0 8⟩ := by rw [lessV, if_neg (by simp), if_neg (by simp)]
    have C := fun W => less_any ⟨1, Y.extract 0 8⟩ W
    simp only [Int.cast_ofNat_Int] at A B
    rw [e] at B
    rw [e2] at C
    have hm : (Y.extract 0 8).size = 8 := by rw [ByteArray.size_extract]; omega
    rcases hc with ⟨h, rfl⟩ | ⟨h, ex⟩
    · exact flowKeys_s2 s w h Y hn _ hm rfl A B C
    · exact flowKeys_l2 s x w h ex Y hn _ hm rfl A B C
  · have e : lessV ⟨3, Y⟩ = ⟨1, Y.extract 0 8⟩ := by rw [lessV]; simp
    have e2 : lessV ⟨1, Y.extract 0 8⟩ = ⟨1, Y.extract 0 8⟩ := by rw [lessV, if_neg (by simp), if_neg (by simp)]
    have C := fun W => less_any ⟨1, Y.extract 0 8⟩ W
    simp only [Int.cast_ofNat_Int] at A B
    rw [e] at B
    rw [e2] at C
    have hm : (Y.extract 0 8).size = 8 := by rw [ByteArray.size_extract]; omega
    rcases hc with ⟨h, rfl⟩ | ⟨h, ex⟩
    · exact flowKeys_s3 s w h Y hn _ hm rfl A B C
    · exact flowKeys_l3 s x w h ex Y hn _ hm rfl A B C
  · have e : lessV ⟨4, Y⟩ = ⟨4, Y⟩ := by rw [lessV, if_neg (by simp), if_neg (by simp)]
    have ey : Y.extract 0 32 = Y := cut_all _ _ (by omega)
    simp only [Int.cast_ofNat_Int] at A B
    rw [e] at B
    rcases hc with ⟨h, rfl⟩ | ⟨h, ex⟩
    · exact flowKeys_s4 s w h Y hn ey A B B
    · exact flowKeys_l4 s x w h ex Y hn ey A B B
  · have e : lessV ⟨5, Y⟩ = ⟨4, Y.extract 0 32⟩ := by rw [lessV]; simp
    have e2 : lessV ⟨4, Y.extract 0 32⟩ = ⟨4, Y.extract 0 32⟩ := by rw [lessV, if_neg (by simp), if_neg (by simp)]
    have C := fun W => less_any ⟨4, Y.extract 0 32⟩ W
    simp only [Int.cast_ofNat_Int] at A B
    rw [e] at B
    rw [e2] at C
    have hm : (Y.extract 0 32).size = 32 := by rw [ByteArray.size_extract]; omega
    rcases hc with ⟨h, rfl⟩ | ⟨h, ex⟩
    · exact flowKeys_s5 s w h Y hn _ hm rfl A B C
    · exact flowKeys_l5 s x w h ex Y hn _ hm rfl A B C
  · have e : lessV ⟨6, Y⟩ = ⟨4, Y.extract 0 32⟩ := by rw [lessV]; simp
    have e2 : lessV ⟨4, Y.extract 0 32⟩ = ⟨4, Y.extract 0 32⟩ := by rw [lessV, if_neg (by simp), if_neg (by simp)]
    have C := fun W => less_any ⟨4, Y.extract 0 32⟩ W
    simp only [Int.cast_ofNat_Int] at A B
    rw [e] at B
    rw [e2] at C
    have hm : (Y.extract 0 32).size = 32 := by rw [ByteArray.size_extract]; omega
    rcases hc with ⟨h, rfl⟩ | ⟨h, ex⟩
    · exact flowKeys_s6 s w h Y hn _ hm rfl A B C
    · exact flowKeys_l6 s x w h ex Y hn _ hm rfl A B C
theorem flowKeys_any (s : ByteArray) (w : World) :
    Calls Try.prog 6 #[.string s] w fun e w' => e = .returned (.bool true) ∧ Below w.heap.size w w' := by
  by_cases h : s.size ≤ 1600
  · exact flowKeys_main s s w (.inl ⟨h, rfl⟩)
  · exact flowKeys_main s _ w (.inr ⟨by omega, rfl⟩)

set_option maxRecDepth 100000 in
theorem flowKeys_lifted (os : Os) (started : os.Started) (H : Type) (enc : TypeId × Value → H) :
    ReturnsInHanded {} Try.checked os 6 .any (Rows.flowKeysSpec.pre6 enc Try.prog Try.f6 Rows.flowKeysRow.domain false) (Rows.flowKeysSpec.post enc Try.prog Try.f6 false true false false) := by
  have e : Try.f6.params.toList = [9] := by rw [Try.params6]
  refine law_of_walk (C := Try.checked) (tb := 4) H enc Try.own started (by kernel_rfl) Try.func6 Try.laidOut rfl rfl Try.underlying4 ?_ ?_
    (ChangeSpec.witness6 (enc := enc) (C := Try.checked) false ⟨#[], #[.string ByteArray.empty], []⟩ 8 (by kernel_rfl) (by kernel_rfl) (by kernel_rfl) (by kernel_rfl)) ?_
  · rw [e]
    intro t ht
    simp only [List.mem_cons, List.not_mem_nil, or_false] at ht
    rcases ht with rfl <;> exact ⟨by kernel_rfl, of_decide_eq_true (by kernel_rfl)⟩
  · intro ds hds
    rw [e] at hds
    match ds, hds with
    | [d0], _ => rfl
  · intro W base args ds p hval0 hA0 hsz0
    have hval : ∀ (j : Nat) t v, Try.f6.params[j]? = some t → args[j]? = some v → Value.okWide Try.prog W .any base t v := hval0
    have hA : DataW.TrodAll enc Try.prog W 0 (fun _ => true) true Try.f6.params.toList args.toList ds p := hA0
    have hsz : (DataW.weightsEach Try.prog Try.f6.params.toList ds).all (· ≤ reachBytes) = true := hsz0
    rw [Try.params6] at hA hval hsz
    obtain ⟨v0, d0, rfl, rfl, h0⟩ := trodAll_one hA
    obtain ⟨x0, rfl, rfl, rfl, _⟩ := open_string Try.underlying9 (hval 0 9 v0 rfl rfl) h0
    have s0 := sized_string hsz (j := 0) (t := 9) rfl rfl
    simp only [reachBytes] at s0
    exact flowKeys_any x0 W

theorem flowKeys_holds : Rows.FlowKeysSaid :=
  OpenClaim.holds_of_wide 6 Try.f6 rfl rfl rfl rfl rfl rfl rfl ⟨rfl, rfl, rfl, rfl, rfl⟩ rfl rfl rfl rfl rfl (by kernel_rfl) Try.func6 (by kernel_rfl)
    (of_decide_eq_true (by kernel_rfl)) (by unfold Func.isWrapper; first | (rw [if_pos (by decide +kernel)]; kernel_rfl) | (rw [if_neg (by decide +kernel)]; exact ⟨rfl, rfl⟩))
    (fun os started H enc _ => flowKeys_lifted os started H enc)
end Go.Proofs.Ytpelohmondhiiaa
