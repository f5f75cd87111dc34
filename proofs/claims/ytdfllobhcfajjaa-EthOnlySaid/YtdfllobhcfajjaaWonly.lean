/-
  For every input the law EthOnly returns true, and its arguments read afterwards as before; no condition beyond the form's own reach.
-/
import Derived.Test.YtdfllobhcfajjaaLaw
import Derived.Test.YtdfllobhcfajjaaFixed
import Derived.Test.YtdfllobhcfajjaaBack
namespace Go.Proofs.Ytdfllobhcfajjaa
open Go.Joins Go.ChangeShapes Go.WideShapes Go.ChangeAt Go.RowKit Go.Deep
open Go.ChangeMaps (open_string)

set_option maxRecDepth 100000 in
set_option maxHeartbeats 3200000 in
theorem only_ok (s : ByteArray) (a X N : Int) (w : World) (hX : 0 ≤ X ∧ X < 65536) (eX : bits .and .i64 a 65535 = X) (hN : 0 ≤ N ∧ N ≤ 4094) (eN : X % 4095 = N) (h1 : tagE s N = 0) (h2 : tagE s (-1) = 0) :
    Calls Try.prog 7 #[.string s, .int .i64 a] w fun e w' => e = .returned (.bool true) ∧ Below w.heap.size w w' := by
  have hN1 : N ≠ -1 := by omega
  have T1 := tag_any s N
  have T2 := tag_any s (-1)
  have T3 := tag_any (tagT s N) (-1)
  have T4 := tag_any (tagT s (-1)) N
  have P1 := parse_any s
  have P2 := parse_any (tagT s N)
  have P3 := parse_any (tagT (tagT s (-1)) N)
  obtain ⟨g1, g2⟩ := tag_tag (n := N) (k := -1) h1 (.inr rfl) h2
  obtain ⟨g3, g4, g5⟩ := tag_again hN.1 hN.2 h1 h2
  obtain ⟨g6, g7⟩ := tag_parse h1
  have hl1 := (tag_size h1).1
  have hl2 := (tag_size h2).1
  have hl3 := (tag_size h1).2
  have hl4 := (tag_size h2).2
  rw [if_neg hN1] at hl1
  rw [if_pos rfl] at hl2
  have hlen : ((tagT s N).size : Int) = (tagT s (-1)).size + 4 := by omega
  have e7 : tagF s N = ⟨(parseF s).d, (parseF s).r, N, (parseF s).p, (parseF s).t, (parseF s).b⟩ := by rw [tagF, if_neg hN1]
  rw [e7] at g7
  rw [h1] at T1
  rw [h2] at T2
  rw [g1, g2] at T3
  rw [g3] at T4
  rw [(tag_is h1).1] at P1
  rw [g6, g7] at P2
  rw [g4, g5] at P3
  clear e7 g1 g2 g3 g4 g5 g6 g7 h1 h2 hl1 hl2
  generalize tagT (tagT s (-1)) N = D at *
  generalize tagT s N = A at *
  generalize tagT s (-1) = C at *
  generalize parseF s = F at *
  obtain ⟨d, r, v, p, t, b⟩ := F
  simp only [Fr.val, ethC] at P1 P2 P3
  have H1 := Lib.hid T1
  have H2 := Lib.hid T2
  have H3 := Lib.hid T3
  have H4 := Lib.hid T4
  have H5 := Lib.hid P1
  have H6 := Lib.hid P2
  have H7 := Lib.hid P3
  have hlb : ((A.size : Int) == (C.size : Int) + 4) = true := by rw [hlen]; simp
  clear T1 T2 T3 T4 P1 P2 P3 hlen hN1
  obtain ⟨hX0, hX1⟩ := hX
  obtain ⟨hN0, hN1⟩ := hN
  go_enter Try.func7, Try.ntmps7
  go_wp2_with fail
  refine (H1.out _).mono ?_
  rintro e w1 ⟨rfl, hB⟩
  go_wp2_with fail
  refine (H2.out _).mono ?_
  rintro e w2 ⟨rfl, hq⟩
  replace hB := hB.trans (hq.mono hB.size)
  clear hq
  go_wp2_with fail
  refine (H3.out _).mono ?_
  rintro e w3 ⟨rfl, hq⟩
  replace hB := hB.trans (hq.mono hB.size)
  clear hq
  go_wp2_with fail
  refine (H4.out _).mono ?_
  rintro e w4 ⟨rfl, hq⟩
  replace hB := hB.trans (hq.mono hB.size)
  clear hq
  go_wp2_with fail
  refine (H5.out _).mono ?_
  rintro e w5 ⟨rfl, hq⟩
  replace hB := hB.trans (hq.mono hB.size)
  have HX := Lib.hid (Hold.new hB #[.string d, .string r, .int .i64 v, .int .i64 p, .int .i64 t, .string b])
  clear hq hB
  go_wp2_with fail
  refine (H6.out _).mono ?_
  rintro e w6 ⟨rfl, hq⟩
  have hx := HX.out.next hq
  have HX2 := Lib.hid (hx.alloc (.cells #[.string d, .string r, .int .i64 N, .int .i64 p, .int .i64 t, .string b] 23))
  have HY := Lib.hid (Hold.new hx.below #[.string d, .string r, .int .i64 N, .int .i64 p, .int .i64 t, .string b])
  clear hq HX hx
  go_wp2_with fail
  refine (H7.out _).mono ?_
  rintro e w7 ⟨rfl, hq⟩
  have hx := HX2.out.next hq
  have hy := HY.out.next hq
  have HZ := Lib.hid (hx.alloc (.cells #[.string d, .string r, .int .i64 N, .int .i64 0, .int .i64 t, .string b] 23))
  obtain ⟨c0, c1, c2, c3, c4, c5, c6⟩ := hx.cells
  obtain ⟨a0, a1, a2, a3, a4, a5, a6⟩ := hy.cells
  clear hq HX2 HY hx hy
  go_wp2_with fail
  refine (fixed_any _).mono ?_
  rintro e w8 ⟨rfl, hq⟩
  have hB := Lib.hid (HZ.out.next hq).below
  clear hq HZ
  go_wp2_with fail
  go_ret
  exact ⟨rfl, hB.out⟩
set_option maxRecDepth 100000 in
set_option maxHeartbeats 1600000 in
theorem only_bad (s : ByteArray) (a X N : Int) (w : World) (hX : 0 ≤ X ∧ X < 65536) (eX : bits .and .i64 a 65535 = X) (hN : 0 ≤ N ∧ N ≤ 4094) (eN : X % 4095 = N) (h1 : (tagE s N != 0) = true) :
    Calls Try.prog 7 #[.string s, .int .i64 a] w fun e w' => e = .returned (.bool true) ∧ Below w.heap.size w w' := by
  have T1 := tag_any s N
  have T2 := tag_any s (-1)
  generalize tagE s N = E at *
  generalize tagT s N = A at *
  generalize tagE s (-1) = E2 at *
  generalize tagT s (-1) = C at *
  have H1 := Lib.hid T1
  have H2 := Lib.hid T2
  clear T1 T2
  obtain ⟨hX0, hX1⟩ := hX
  obtain ⟨hN0, hN1⟩ := hN
  go_enter Try.func7, Try.ntmps7
  go_wp2_with fail
  refine (H1.out _).mono ?_
  rintro e w1 ⟨rfl, hB⟩
  go_wp2_with fail
  refine (H2.out _).mono ?_
  rintro e w2 ⟨rfl, hq⟩
  replace hB := hB.trans (hq.mono hB.size)
  clear hq
  go_wp2_with fail
  refine (fixed_any _).mono ?_
  rintro e w5 ⟨rfl, hq⟩
  replace hB := hB.trans (hq.mono hB.size)
  clear hq
  go_wp2_with fail
  go_ret
  exact ⟨rfl, hB⟩
set_option maxRecDepth 100000 in
set_option maxHeartbeats 1600000 in
theorem only_off (s : ByteArray) (a X N : Int) (w : World) (hX : 0 ≤ X ∧ X < 65536) (eX : bits .and .i64 a 65535 = X) (hN : 0 ≤ N ∧ N ≤ 4094) (eN : X % 4095 = N) (h1 : tagE s N = 0) (h2 : (tagE s (-1) != 0) = true) :
    Calls Try.prog 7 #[.string s, .int .i64 a] w fun e w' => e = .returned (.bool true) ∧ Below w.heap.size w w' := by
  have T1 := tag_any s N
  have T2 := tag_any s (-1)
  rw [h1] at T1
  generalize tagT s N = A at *
  generalize tagE s (-1) = E2 at *
  generalize tagT s (-1) = C at *
  have H1 := Lib.hid T1
  have H2 := Lib.hid T2
  clear T1 T2 h1
  obtain ⟨hX0, hX1⟩ := hX
  obtain ⟨hN0, hN1⟩ := hN
  go_enter Try.func7, Try.ntmps7
  go_wp2_with fail
  refine (H1.out _).mono ?_
  rintro e w1 ⟨rfl, hB⟩
  go_wp2_with fail
  refine (H2.out _).mono ?_
  rintro e w2 ⟨rfl, hq⟩
  replace hB := hB.trans (hq.mono hB.size)
  clear hq
  go_wp2_with fail
  refine (fixed_any _).mono ?_
  rintro e w5 ⟨rfl, hq⟩
  replace hB := hB.trans (hq.mono hB.size)
  clear hq
  go_wp2_with fail
  go_ret
  exact ⟨rfl, hB⟩
theorem ethOnly_any (s : ByteArray) (a : Int) (w : World) :
    Calls Try.prog 7 #[.string s, .int .i64 a] w fun e w' => e = .returned (.bool true) ∧ Below w.heap.size w w' := by
  obtain ⟨X, hX, eX⟩ := low16 a
  by_cases h : tagE s (X % 4095) = 0
  · by_cases h2 : tagE s (-1) = 0
    · exact only_ok s a X _ w hX eX (by omega) rfl h h2
    · exact only_off s a X _ w hX eX (by omega) rfl h (by simpa using h2)
  · exact only_bad s a X _ w hX eX (by omega) rfl (by simpa using h)

set_option maxRecDepth 100000 in
theorem ethOnly_lifted (os : Os) (started : os.Started) (H : Type) (enc : TypeId × Value → H) :
    ReturnsInHanded {} Try.checked os 7 .any (Rows.ethOnlySpec.pre6 enc Try.prog Try.f7 Rows.ethOnlyRow.domain false) (Rows.ethOnlySpec.post enc Try.prog Try.f7 false true false false) := by
  have e : Try.f7.params.toList = [9, 3] := by rw [Try.params7]
  refine law_of_walk (C := Try.checked) (tb := 4) H enc Try.own started (by kernel_rfl) Try.func7 Try.laidOut rfl rfl Try.underlying4 ?_ ?_
    (ChangeSpec.witness6 (enc := enc) (C := Try.checked) false ⟨#[], #[.string ByteArray.empty, .int .i64 0], []⟩ 8 (by kernel_rfl) (by kernel_rfl) (by kernel_rfl) (by kernel_rfl)) ?_
  · rw [e]
    intro t ht
    simp only [List.mem_cons, List.not_mem_nil, or_false] at ht
    rcases ht with rfl | rfl <;> exact ⟨by kernel_rfl, of_decide_eq_true (by kernel_rfl)⟩
  · intro ds hds
    rw [e] at hds
    match ds, hds with
    | [d0, d1], _ => rfl
  · intro W base args ds p hval0 hA0 hsz0
    have hval : ∀ (j : Nat) t v, Try.f7.params[j]? = some t → args[j]? = some v → Value.okWide Try.prog W .any base t v := hval0
    have hA : DataW.TrodAll enc Try.prog W 0 (fun _ => true) true Try.f7.params.toList args.toList ds p := hA0
    have hsz : (DataW.weightsEach Try.prog Try.f7.params.toList ds).all (· ≤ reachBytes) = true := hsz0
    rw [Try.params7] at hA hval hsz
    obtain ⟨v0, v1, d0, d1, p0, p1, rfl, rfl, rfl, h0, h1⟩ := trodAll_two hA
    obtain ⟨x0, rfl, rfl, rfl, _⟩ := open_string Try.underlying9 (hval 0 9 v0 rfl rfl) h0
    obtain ⟨x1, rfl, rfl, rfl, k1⟩ := open_int Try.underlying3 (hval 1 3 v1 rfl rfl) h1
    have s0 := sized_string hsz (j := 0) (t := 9) rfl rfl
    simp only [reachBytes] at s0
    exact ethOnly_any x0 x1 W

theorem ethOnly_holds : Rows.EthOnlySaid :=
  OpenClaim.holds_of_wide 7 Try.f7 rfl rfl rfl rfl rfl rfl rfl ⟨rfl, rfl, rfl, rfl, rfl⟩ rfl rfl rfl rfl rfl (by kernel_rfl) Try.func7 (by kernel_rfl)
    (of_decide_eq_true (by kernel_rfl)) (by unfold Func.isWrapper; first | (rw [if_pos (by decide +kernel)]; kernel_rfl) | (rw [if_neg (by decide +kernel)]; exact ⟨rfl, rfl⟩))
    (fun os started H enc _ => ethOnly_lifted os started H enc)
end Go.Proofs.Ytdfllobhcfajjaa
