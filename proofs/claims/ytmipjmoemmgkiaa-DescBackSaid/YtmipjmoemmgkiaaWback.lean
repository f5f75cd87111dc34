/-
  For every input the law DescBack returns true, and its arguments read afterwards as before; no condition beyond the form's own reach.
-/
import Derived.Test.YtmipjmoemmgkiaaWka
import Derived.Test.YtmipjmoemmgkiaaWkb
namespace Go.Proofs.Ytmipjmoemmgkiaa
open Go.Joins Go.ChangeShapes Go.WideShapes Go.ChangeAt Go.RowKit Go.Deep
open Go.ChangeMaps (open_string)

theorem descBack_any (A L B M : Nat) (I F J G : Int) (s : ByteArray) (hA : A < 18446744073709551616) (hL : L < 4294967296) (hB : B < 18446744073709551616) (hM : M < 4294967296) (w : World) :
    Calls Try.prog 5 #[.agg #[.int .u64 (A : Int), .int .u32 (L : Int), .int .i64 I, .int .i64 F], .agg #[.int .u64 (B : Int), .int .u32 (M : Int), .int .i64 J, .int .i64 G], .string s] w fun e w' => e = .returned (.bool true) ∧ Below w.heap.size w w' := by
  have ba := build_any A L I F hA hL
  have bb := build_any B M J G hB hM
  by_cases h : isW I F
  · obtain ⟨i, rfl⟩ := Int.eq_ofNat_of_zero_le h.1.1
    obtain ⟨f, rfl⟩ := Int.eq_ofNat_of_zero_le h.2.1
    have hi : i ≤ 65535 := by have := h.1.2; omega
    have hf : f ≤ 65535 := by have := h.2.2; omega
    have b1 := build_ok A L i f hA hL hi hf
    have p1 : ∀ W, Calls Try.prog 9 #[.string (desB A L i f)] W fun e w' => e = .returned (.tuple #[.agg #[.int .u64 (A : Int), .int .u32 (L : Int), .int .i64 (i : Int), .int .i64 (f : Int)], .int .i64 0]) ∧ Below W.heap.size W w' := fun W => by
      obtain ⟨g1, g2, g3, g4⟩ := parse_build A L i f hA hL hi hf
      have := parse_ok (desB A L i f) (desB_size A L i f) W
      rwa [g1, g2, g3, g4] at this
    by_cases k : isW J G
    · obtain ⟨j, rfl⟩ := Int.eq_ofNat_of_zero_le k.1.1
      obtain ⟨g, rfl⟩ := Int.eq_ofNat_of_zero_le k.2.1
      have hj : j ≤ 65535 := by have := k.1.2; omega
      have hg : g ≤ 65535 := by have := k.2.2; omega
      have b2 := build_ok B M j g hB hM hj hg
      have ne : ¬ (A = B ∧ L = M ∧ i = j ∧ f = g) → ((desB A L i f).toList == (desB B M j g).toList) = false := fun h => str_ne fun e => h (desB_inj hA hL hi hf hB hM hj hg e)
      by_cases e1 : A = B
      · subst e1
        by_cases e2 : L = M
        · subst e2
          by_cases e3 : i = j
          · subst e3
            by_cases e4 : f = g
            · subst e4
              by_cases hs : s.size = 16
              · have b5 := build_ok (gn s 0 8) (gn s 8 4) (gn s 12 2) (gn s 14 2) (gn_lt s 0 8 (by omega)) (gn_lt s 8 4 (by omega)) (by have := gn_lt s 12 2 (by omega); omega) (by have := gn_lt s 14 2 (by omega); omega)
                rw [build_parse s hs] at b5
                exact descBack_same_ok s _ _ _ _ _ _ _ _ _ w b1 p1 (parse_ok s hs) b5 fixed_any
              · exact descBack_same_bad s _ _ _ _ _ w (by simp; omega) b1 p1 (parse_bad s hs) fixed_any
            · by_cases hs : s.size = 16
              · have b5 := build_ok (gn s 0 8) (gn s 8 4) (gn s 12 2) (gn s 14 2) (gn_lt s 0 8 (by omega)) (gn_lt s 8 4 (by omega)) (by have := gn_lt s 12 2 (by omega); omega) (by have := gn_lt s 14 2 (by omega); omega)
                rw [build_parse s hs] at b5
                exact descBack_dif4_ok s _ _ _ _ _ _ _ _ _ _ _ w (ne (fun h => e4 h.2.2.2)) (by simp; omega) b1 b2 p1 (parse_ok s hs) b5 fixed_any
              · exact descBack_dif4_bad s _ _ _ _ _ _ _ w (ne (fun h => e4 h.2.2.2)) (by simp; omega) (by simp; omega) b1 b2 p1 (parse_bad s hs) fixed_any
          · by_cases hs : s.size = 16
            · have b5 := build_ok (gn s 0 8) (gn s 8 4) (gn s 12 2) (gn s 14 2) (gn_lt s 0 8 (by omega)) (gn_lt s 8 4 (by omega)) (by have := gn_lt s 12 2 (by omega); omega) (by have := gn_lt s 14 2 (by omega); omega)
              rw [build_parse s hs] at b5
              exact descBack_dif3_ok s _ _ _ _ _ _ _ _ _ _ _ _ w (ne (fun h => e3 h.2.2.1)) (by simp; omega) b1 b2 p1 (parse_ok s hs) b5 fixed_any
            · exact descBack_dif3_bad s _ _ _ _ _ _ _ _ w (ne (fun h => e3 h.2.2.1)) (by simp; omega) (by simp; omega) b1 b2 p1 (parse_bad s hs) fixed_any
        · by_cases hs : s.size = 16
          · have b5 := build_ok (gn s 0 8) (gn s 8 4) (gn s 12 2) (gn s 14 2) (gn_lt s 0 8 (by omega)) (gn_lt s 8 4 (by omega)) (by have := gn_lt s 12 2 (by omega); omega) (by have := gn_lt s 14 2 (by omega); omega)
            rw [build_parse s hs] at b5
            exact descBack_dif2_ok s _ _ _ _ _ _ _ _ _ _ _ _ _ w (ne (fun h => e2 h.2.1)) (by simp; omega) b1 b2 p1 (parse_ok s hs) b5 fixed_any
          · exact descBack_dif2_bad s _ _ _ _ _ _ _ _ _ w (ne (fun h => e2 h.2.1)) (by simp; omega) (by simp; omega) b1 b2 p1 (parse_bad s hs) fixed_any
      · by_cases hs : s.size = 16
        · have b5 := build_ok (gn s 0 8) (gn s 8 4) (gn s 12 2) (gn s 14 2) (gn_lt s 0 8 (by omega)) (gn_lt s 8 4 (by omega)) (by have := gn_lt s 12 2 (by omega); omega) (by have := gn_lt s 14 2 (by omega); omega)
          rw [build_parse s hs] at b5
          exact descBack_dif1_ok s _ _ _ _ _ _ _ _ _ _ _ _ _ _ w (ne (fun h => e1 h.1)) (by simp; omega) b1 b2 p1 (parse_ok s hs) b5 fixed_any
        · exact descBack_dif1_bad s _ _ _ _ _ _ _ _ _ _ w (ne (fun h => e1 h.1)) (by simp; omega) (by simp; omega) b1 b2 p1 (parse_bad s hs) fixed_any
    · rw [buS, buE, if_neg k, if_neg k] at bb
      by_cases hs : s.size = 16
      · have b5 := build_ok (gn s 0 8) (gn s 8 4) (gn s 12 2) (gn s 14 2) (gn_lt s 0 8 (by omega)) (gn_lt s 8 4 (by omega)) (by have := gn_lt s 12 2 (by omega); omega) (by have := gn_lt s 14 2 (by omega); omega)
        rw [build_parse s hs] at b5
        exact descBack_bbad_ok s _ _ _ _ _ _ _ _ _ _ _ _ _ w b1 bb p1 (parse_ok s hs) b5 fixed_any
      · exact descBack_bbad_bad s _ _ _ _ _ _ _ _ _ w (by simp; omega) b1 bb p1 (parse_bad s hs) fixed_any
  · rw [buS, buE, if_neg h, if_neg h] at ba
    by_cases hs : s.size = 16
    · have b5 := build_ok (gn s 0 8) (gn s 8 4) (gn s 12 2) (gn s 14 2) (gn_lt s 0 8 (by omega)) (gn_lt s 8 4 (by omega)) (by have := gn_lt s 12 2 (by omega); omega) (by have := gn_lt s 14 2 (by omega); omega)
      rw [build_parse s hs] at b5
      exact descBack_abad_ok s _ _ _ _ _ _ _ _ _ _ _ _ _ _ w ba bb (parse_ok s hs) b5 fixed_any
    · exact descBack_abad_bad s _ _ _ _ _ _ _ _ _ _ w (by simp; omega) ba bb (parse_bad s hs) fixed_any

set_option maxRecDepth 100000 in
theorem descBack_lifted (os : Os) (started : os.Started) (H : Type) (enc : TypeId × Value → H) :
    ReturnsInHanded {} Try.checked os 5 .any (Rows.descBackSpec.pre6 enc Try.prog Try.f5 Rows.descBackRow.domain false) (Rows.descBackSpec.post enc Try.prog Try.f5 false true false false) := by
  have e : Try.f5.params.toList = [25, 25, 9] := by rw [Try.params5]
  refine law_of_walk (C := Try.checked) (tb := 4) H enc Try.own started (by kernel_rfl) Try.func5 Try.laidOut rfl rfl Try.underlying4 ?_ ?_
    (ChangeSpec.witness6 (enc := enc) (C := Try.checked) false ⟨#[], #[.agg #[.int .u64 0, .int .u32 0, .int .i64 0, .int .i64 0], .agg #[.int .u64 0, .int .u32 0, .int .i64 0, .int .i64 0], .string ByteArray.empty], []⟩ 8 (by kernel_rfl) (by kernel_rfl) (by kernel_rfl) (by kernel_rfl)) ?_
  · rw [e]
    intro t ht
    simp only [List.mem_cons, List.not_mem_nil, or_false] at ht
    rcases ht with rfl | rfl | rfl <;> exact ⟨by kernel_rfl, of_decide_eq_true (by kernel_rfl)⟩
  · intro ds hds
    rw [e] at hds
    match ds, hds with
    | [d0, d1, d2], _ => rfl
  · intro W base args ds p hval0 hA0 hsz0
    have hval : ∀ (j : Nat) t v, Try.f5.params[j]? = some t → args[j]? = some v → Value.okWide Try.prog W .any base t v := hval0
    have hA : DataW.TrodAll enc Try.prog W 0 (fun _ => true) true Try.f5.params.toList args.toList ds p := hA0
    have hsz : (DataW.weightsEach Try.prog Try.f5.params.toList ds).all (· ≤ reachBytes) = true := hsz0
    rw [Try.params5] at hA hval hsz
    obtain ⟨v0, v1, v2, d0, d1, d2, p0, p1, p2, rfl, rfl, rfl, h0, h1, h2⟩ := trodAll_three hA
    obtain ⟨A0, L0, I0, F0, rfl, a0, l0, i0, f0⟩ := open_desc (hval 0 25 v0 rfl rfl) h0
    obtain ⟨A1, L1, I1, F1, rfl, a1, l1, i1, f1⟩ := open_desc (hval 1 25 v1 rfl rfl) h1
    obtain ⟨x2, rfl, rfl, rfl, _⟩ := open_string Try.underlying9 (hval 2 9 v2 rfl rfl) h2
    have s2 := sized_string hsz (j := 2) (t := 9) rfl rfl
    simp only [reachBytes] at s2
    exact descBack_any A0 L0 A1 L1 I0 F0 I1 F1 x2 a0 l0 a1 l1 W

theorem descBack_holds : Rows.DescBackSaid :=
  OpenClaim.holds_of_wide 5 Try.f5 rfl rfl rfl rfl rfl rfl rfl ⟨rfl, rfl, rfl, rfl, rfl⟩ rfl rfl rfl rfl rfl (by kernel_rfl) Try.func5 (by kernel_rfl)
    (of_decide_eq_true (by kernel_rfl)) (by unfold Func.isWrapper; first | (rw [if_pos (by decide +kernel)]; kernel_rfl) | (rw [if_neg (by decide +kernel)]; exact ⟨rfl, rfl⟩))
    (fun os started H enc _ => descBack_lifted os started H enc)
end Go.Proofs.Ytmipjmoemmgkiaa
