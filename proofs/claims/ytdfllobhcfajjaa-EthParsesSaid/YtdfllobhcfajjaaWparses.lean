/-
  For every input the law EthParses returns true, and its arguments read afterwards as before; no condition beyond the form's own reach.
-/
import Derived.Test.YtdfllobhcfajjaaLaw
import Derived.Test.YtdfllobhcfajjaaFixed
namespace Go.Proofs.Ytdfllobhcfajjaa
open Go.Joins Go.ChangeShapes Go.WideShapes Go.ChangeAt Go.RowKit Go.Deep
open Go.ChangeMaps (open_string)

set_option maxRecDepth 100000 in
set_option maxHeartbeats 1600000 in
theorem ethParses_any (s : ByteArray) (w : World) :
    Calls Try.prog 3 #[.string s] w fun e w' => e = .returned (.bool true) ∧ Below w.heap.size w w' := by
  have P := parse_any s
  have R := refParse_any s
  generalize parseF s = F at *
  generalize parseE s = E at *
  obtain ⟨d, r, v, p, t, b⟩ := F
  simp only [Fr.val, ethC] at P R
  have HP := Lib.hid P
  have HR := Lib.hid R
  clear P R
  go_enter Try.func3, Try.ntmps3
  go_wp2_with fail
  refine (HP.out _).mono ?_
  rintro e w1 ⟨rfl, hb1⟩
  have H1 := Lib.hid (Hold.new hb1 #[.string d, .string r, .int .i64 v, .int .i64 p, .int .i64 t, .string b])
  clear hb1
  go_wp2_with fail
  refine (HR.out _).mono ?_
  rintro e w2 ⟨rfl, hq⟩
  have h2 := H1.out.next hq
  have H2 := Lib.hid (h2.alloc (.cells #[.string d, .string r, .int .i64 v, .int .i64 p, .int .i64 t, .string b] 23))
  have H2b := Lib.hid (Hold.new h2.below #[.string d, .string r, .int .i64 v, .int .i64 p, .int .i64 t, .string b])
  clear hq H1 h2
  go_wp2_with fail
  refine (fixed_any _).mono ?_
  rintro e w3 ⟨rfl, hq⟩
  have h3 := H2.out.next hq
  obtain ⟨c0, c1, c2, c3, c4, c5, _⟩ := h3.cells
  obtain ⟨a0, a1, a2, a3, a4, a5, _⟩ := (H2b.out.next hq).cells
  have hB := Lib.hid h3.below
  clear hq H2 H2b h3
  go_wp2_with fail
  go_ret
  exact ⟨rfl, hB.out⟩

set_option maxRecDepth 100000 in
theorem ethParses_lifted (os : Os) (started : os.Started) (H : Type) (enc : TypeId × Value → H) :
    ReturnsInHanded {} Try.checked os 3 .any (Rows.ethParsesSpec.pre6 enc Try.prog Try.f3 Rows.ethParsesRow.domain false) (Rows.ethParsesSpec.post enc Try.prog Try.f3 false true false false) := by
  have e : Try.f3.params.toList = [9] := by rw [Try.params3]
  refine law_of_walk (C := Try.checked) (tb := 4) H enc Try.own started (by kernel_rfl) Try.func3 Try.laidOut rfl rfl Try.underlying4 ?_ ?_
    (ChangeSpec.witness6 (enc := enc) (C := Try.checked) false ⟨#[], #[.string ByteArray.empty], []⟩ 8 (by kernel_rfl) (by kernel_rfl) (by kernel_rfl) (by kernel_rfl)) ?_
  · rw [e]
    intro t ht
    simp only [List.mem_cons, List.not_mem_nil, or_false] at ht
    rcases ht with rfl <;> exact ⟨by kernel_rfl, of_decide_eq_true (by kernel_rfl)⟩
  · intro ds hds
    rw [e] at hds
    match ds, hds with
    | [d0], _ => rfl
  · intro W base args ds p hval0 hA0 hsz0
    have hval : ∀ (j : Nat) t v, Try.f3.params[j]? = some t → args[j]? = some v → Value.okWide Try.prog W .any base t v := hval0
    have hA : DataW.TrodAll enc Try.prog W 0 (fun _ => true) true Try.f3.params.toList args.toList ds p := hA0
    have hsz : (DataW.weightsEach Try.prog Try.f3.params.toList ds).all (· ≤ reachBytes) = true := hsz0
    rw [Try.params3] at hA hval hsz
    obtain ⟨v0, d0, rfl, rfl, h0⟩ := trodAll_one hA
    obtain ⟨x0, rfl, rfl, rfl, _⟩ := open_string Try.underlying9 (hval 0 9 v0 rfl rfl) h0
    have s0 := sized_string hsz (j := 0) (t := 9) rfl rfl
    simp only [reachBytes] at s0
    exact ethParses_any x0 W

theorem ethParses_holds : Rows.EthParsesSaid :=
  OpenClaim.holds_of_wide 3 Try.f3 rfl rfl rfl rfl rfl rfl rfl ⟨rfl, rfl, rfl, rfl, rfl⟩ rfl rfl rfl rfl rfl (by kernel_rfl) Try.func3 (by kernel_rfl)
    (of_decide_eq_true (by kernel_rfl)) (by unfold Func.isWrapper; first | (rw [if_pos (by decide +kernel)]; kernel_rfl) | (rw [if_neg (by decide +kernel)]; exact ⟨rfl, rfl⟩))
    (fun os started H enc _ => ethParses_lifted os started H enc)
end Go.Proofs.Ytdfllobhcfajjaa
