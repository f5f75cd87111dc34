/-
  For every input the law EthBack returns true, and its arguments read afterwards as before; no condition beyond the form's own reach.
-/
import Derived.Test.YtdfllobhcfajjaaLaw
import Derived.Test.YtdfllobhcfajjaaFrame
import Derived.Test.YtdfllobhcfajjaaWbacka
import Derived.Test.YtdfllobhcfajjaaWbackb
namespace Go.Proofs.Ytdfllobhcfajjaa
open Go.Joins Go.ChangeShapes Go.WideShapes Go.ChangeAt Go.RowKit Go.Deep
open Go.ChangeMaps (open_string)

theorem ethBack_any (f g : Fr) (s : ByteArray) (w : World) (hf : f.b.size ≤ 140737488351232) (hg : g.b.size ≤ 140737488351232) :
    Calls Try.prog 6 #[.agg #[.string f.d, .string f.r, .int .i64 f.v, .int .i64 f.p, .int .i64 f.t, .string f.b], .agg #[.string g.d, .string g.r, .int .i64 g.v, .int .i64 g.p, .int .i64 g.t, .string g.b], .string s] w fun e w' => e = .returned (.bool true) ∧ Below w.heap.size w w' := by
  by_cases h3 : parseE s = 0
  · by_cases h1 : buildE f = 0
    · by_cases h2 : buildE g = 0
      · obtain ⟨d1, r1, v1, p1, t1, b1⟩ := f
        obtain ⟨d2, r2, v2, p2, t2, b2⟩ := g
        by_cases e0 : d1 = d2
        · subst e0
          by_cases e1 : r1 = r2
          · subst e1
            by_cases e2 : v1 = v2
            · subst e2
              by_cases e3 : p1 = p2
              · subst e3
                by_cases e4 : t1 = t2
                · subst e4
                  by_cases e5 : b1 = b2
                  · subst e5
                    exact back_same_yes _ s w hf h1 h3
                  · exact back_two5_yes _ _ _ _ _ _ _ s w hf hg h1 h2 e5 h3
                · exact back_two4_yes _ _ _ _ _ _ _ _ s w hf hg h1 h2 e4 h3
              · exact back_two3_yes _ _ _ _ _ _ _ _ _ s w hf hg h1 h2 e3 h3
            · exact back_two2_yes _ _ _ _ _ _ _ _ _ _ s w hf hg h1 h2 e2 h3
          · exact back_two1_yes _ _ _ _ _ _ _ _ _ _ _ s w hf hg h1 h2 e1 h3
        · exact back_two0_yes _ _ _ _ _ _ _ _ _ _ _ _ s w hf hg h1 h2 e0 h3
      · exact back_other_yes f g s w hf hg h1 (by simpa using h2) h3
    · exact back_bad_yes f g s w hf hg (by simpa using h1) h3
  · have h3' : (parseE s != 0) = true := by simpa using h3
    clear h3
    have h3 := h3'
    clear h3'
    by_cases h1 : buildE f = 0
    · by_cases h2 : buildE g = 0
      · obtain ⟨d1, r1, v1, p1, t1, b1⟩ := f
        obtain ⟨d2, r2, v2, p2, t2, b2⟩ := g
        by_cases e0 : d1 = d2
        · subst e0
          by_cases e1 : r1 = r2
          · subst e1
            by_cases e2 : v1 = v2
            · subst e2
              by_cases e3 : p1 = p2
              · subst e3
                by_cases e4 : t1 = t2
                · subst e4
                  by_cases e5 : b1 = b2
                  · subst e5
                    exact back_same_no _ s w hf h1 h3
                  · exact back_two5_no _ _ _ _ _ _ _ s w hf hg h1 h2 e5 h3
                · exact back_two4_no _ _ _ _ _ _ _ _ s w hf hg h1 h2 e4 h3
              · exact back_two3_no _ _ _ _ _ _ _ _ _ s w hf hg h1 h2 e3 h3
            · exact back_two2_no _ _ _ _ _ _ _ _ _ _ s w hf hg h1 h2 e2 h3
          · exact back_two1_no _ _ _ _ _ _ _ _ _ _ _ s w hf hg h1 h2 e1 h3
        · exact back_two0_no _ _ _ _ _ _ _ _ _ _ _ _ s w hf hg h1 h2 e0 h3
      · exact back_other_no f g s w hf hg h1 (by simpa using h2) h3
    · exact back_bad_no f g s w hf hg (by simpa using h1) h3

set_option maxRecDepth 100000 in
theorem ethBack_lifted (os : Os) (started : os.Started) (H : Type) (enc : TypeId × Value → H) :
    ReturnsInHanded {} Try.checked os 6 .any (Rows.ethBackSpec.pre6 enc Try.prog Try.f6 Rows.ethBackRow.domain false) (Rows.ethBackSpec.post enc Try.prog Try.f6 false true false false) := by
  have e : Try.f6.params.toList = [23, 23, 9] := by rw [Try.params6]
  refine law_of_walk (C := Try.checked) (tb := 4) H enc Try.own started (by kernel_rfl) Try.func6 Try.laidOut rfl rfl Try.underlying4 ?_ ?_
    (ChangeSpec.witness6 (enc := enc) (C := Try.checked) false ⟨#[], #[.agg #[.string ByteArray.empty, .string ByteArray.empty, .int .i64 0, .int .i64 0, .int .i64 0, .string ByteArray.empty], .agg #[.string ByteArray.empty, .string ByteArray.empty, .int .i64 0, .int .i64 0, .int .i64 0, .string ByteArray.empty], .string ByteArray.empty], []⟩ 8 (by kernel_rfl) (by kernel_rfl) (by kernel_rfl) (by kernel_rfl)) ?_
  · rw [e]
    intro t ht
    simp only [List.mem_cons, List.not_mem_nil, or_false] at ht
    rcases ht with rfl | rfl | rfl <;> exact ⟨by kernel_rfl, of_decide_eq_true (by kernel_rfl)⟩
  · intro ds hds
    rw [e] at hds
    match ds, hds with
    | [d0, d1, d2], _ => rfl
  · intro W base args ds p hval0 hA0 hsz0
    have hval : ∀ (j : Nat) t v, Try.f6.params[j]? = some t → args[j]? = some v → Value.okWide Try.prog W .any base t v := hval0
    have hA : DataW.TrodAll enc Try.prog W 0 (fun _ => true) true Try.f6.params.toList args.toList ds p := hA0
    have hsz : (DataW.weightsEach Try.prog Try.f6.params.toList ds).all (· ≤ reachBytes) = true := hsz0
    rw [Try.params6] at hA hval hsz
    obtain ⟨v0, v1, v2, d0, d1, d2, p0, p1, p2, rfl, rfl, rfl, h0, h1, h2⟩ := trodAll_three hA
    obtain ⟨x0, rfl, rfl⟩ := open_eth (hval 0 23 v0 rfl rfl) h0
    obtain ⟨x1, rfl, rfl⟩ := open_eth (hval 1 23 v1 rfl rfl) h1
    obtain ⟨x2, rfl, rfl, rfl, _⟩ := open_string Try.underlying9 (hval 2 9 v2 rfl rfl) h2
    have s0 := eth_sized (j := 0) (f := x0) hsz rfl rfl
    have s1 := eth_sized (j := 1) (f := x1) hsz rfl rfl
    have s2 := sized_string hsz (j := 2) (t := 9) rfl rfl
    simp only [reachBytes] at s2
    exact ethBack_any x0 x1 x2 W s0 s1

theorem ethBack_holds : Rows.EthBackSaid :=
  OpenClaim.holds_of_wide 6 Try.f6 rfl rfl rfl rfl rfl rfl rfl ⟨rfl, rfl, rfl, rfl, rfl⟩ rfl rfl rfl rfl rfl (by kernel_rfl) Try.func6 (by kernel_rfl)
    (of_decide_eq_true (by kernel_rfl)) (by unfold Func.isWrapper; first | (rw [if_pos (by decide +kernel)]; kernel_rfl) | (rw [if_neg (by decide +kernel)]; exact ⟨rfl, rfl⟩))
    (fun os started H enc _ => ethBack_lifted os started H enc)
end Go.Proofs.Ytdfllobhcfajjaa
