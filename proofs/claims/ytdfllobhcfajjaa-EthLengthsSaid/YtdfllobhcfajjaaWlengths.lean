/-
  For every input the law EthLengths returns true, and its arguments read afterwards as before; no condition beyond the form's own reach.
-/
import Derived.Test.YtdfllobhcfajjaaLaw
import Derived.Test.YtdfllobhcfajjaaFrame
import Derived.Test.YtdfllobhcfajjaaFixed
import Derived.Test.YtdfllobhcfajjaaBack
namespace Go.Proofs.Ytdfllobhcfajjaa
open Go.Joins Go.ChangeShapes Go.WideShapes Go.ChangeAt Go.RowKit Go.Deep
open Go.ChangeMaps (open_string)

theorem cut_of {s : ByteArray} {f : Fr} (h1 : readE s = 0) (h2 : readF s = f) : s.extract 0 6 = f.d ∧ s.extract (if f.v = -1 then 14 else 18) s.size = f.b := by
  subst h2
  have h3 : 14 ≤ s.size ∧ (num s 12 = 33024 → 18 ≤ s.size) := by
    unfold readE at h1
    split at h1
    · cases h1
    · rename_i h; exact ⟨by omega, fun e => by omega⟩
  by_cases ht : num s 12 = 33024
  · rw [readF_tag (h3.2 ht) ht]
    exact ⟨rfl, by rw [if_neg (show ((num s 14 : Int) % 8192) ≠ -1 by omega)]; rfl⟩
  · rw [readF_plain h3.1 ht]
    exact ⟨rfl, by rw [if_pos rfl]; rfl⟩
theorem build_cut {f : Fr} (h : buildE f = 0) : (buildS f).extract 0 6 = f.d ∧ (buildS f).extract (if f.v = -1 then 14 else 18) (buildS f).size = f.b ∧ (buildS f).size = f.b.size + (if f.v = -1 then 14 else 18) ∧ (buildS f).size ≤ 1518 := by
  obtain ⟨p1, p2, p3, p4⟩ := parse_build h
  obtain ⟨q1, q2, q3, q4⟩ := parse_is p1
  rw [p2] at q4
  obtain ⟨c1, c2⟩ := cut_of q2 q4.symm
  exact ⟨c1, c2, p3, p4⟩
theorem six_alloc {w w1 : World} {d r : ByteArray} {v p t : Int} {b : ByteArray} (h : Six w d r v p t b w1) (o : Obj) : Six w d r v p t b (w1.alloc o) :=
  ⟨h.blk.alloc o, h.below.alloc (by have := h.blk.lt; omega) o⟩
theorem made_text {B g n : Nat} {w : World} (h : w.ownsRow B 5 1 (.slice (some ⟨g, 0, none⟩) n n) n (madeCells (Value.cells (.int .u8 0)) (n * 1)).toList) :
    ∃ Z : ByteArray, (convert 35 9 (.slice (some ⟨g, 0, none⟩) n n)).run Try.prog w = .ok (.string Z) w ∧ Z.size = n := by
  have hconv := (Row.zero h).text n
  rw [List.length_replicate] at hconv
  exact ⟨_, hconv, by show (List.replicate n (0 : UInt8)).toArray.size = n; simp⟩
theorem parse_over (s z : ByteArray) (hz : z.size = 1519 - s.size) (hs : s.size ≤ 1518) (w : World) : Calls Try.prog 10 #[.string (s ++ z)] w fun e w' => e = .returned (.tuple #[.agg #[.string ⟨#[]⟩, .string ⟨#[]⟩, .int .i64 0, .int .i64 0, .int .i64 0, .string ⟨#[]⟩], .int .i64 61]) ∧ Below w.heap.size w w' :=
  parse_long (s ++ z) w (by rw [ByteArray.size_append]; omega)
set_option maxRecDepth 100000 in
set_option maxHeartbeats 3200000 in
theorem len_none (f : Fr) (w : World) (hb : f.b.size ≤ 140737488351232) (h1 : buildE f = 0) (hv : f.v = -1) :
    Calls Try.prog 8 #[.agg #[.string f.d, .string f.r, .int .i64 f.v, .int .i64 f.p, .int .i64 f.t, .string f.b]] w fun e w' => e = .returned (.bool true) ∧ Below w.heap.size w w' := by
  have B1 := fun W => build_any f W hb
  rw [h1] at B1
  obtain ⟨x0, x1, x2, x3⟩ := build_cut h1
  rw [if_pos hv] at x1 x2
  have P := fun Z (hZ : Z.size = 1519 - (buildS f).size) W => parse_over (buildS f) Z hZ x3 W
  generalize buildS f = S at *
  obtain ⟨d, r, v, p, t, b⟩ := f
  simp only at x0 x1 x2 B1 hv
  subst hv
  have hlb : ((S.size : Int) == 14 + (b.size : Int)) = true := by rw [x2]; simp; omega
  have hS1 : 14 ≤ S.size := by omega
  clear h1 x2
  have HB1 := Lib.hid B1
  have HP := Lib.hid P
  have X0 := Lib.hid x0
  have X1 := Lib.hid x1
  have HL := Lib.hid hlb
  clear B1 P x0 x1 hlb
  obtain ⟨j0, hi, hz0, hz1, hz2⟩ := info_parts Try.info5
  have HI := Lib.hid hi
  have HZ0 := Lib.hid hz0
  have HZ1 := Lib.hid hz1
  have HZ2 := Lib.hid hz2
  clear hi hz0 hz1 hz2
  obtain ⟨m, hm⟩ : ∃ m : Nat, m = 1519 - S.size := ⟨_, rfl⟩
  have hm1 : (1519 : Int) - (S.size : Int) = (m : Int) := by omega
  have hm2 : m ≤ 1519 := by omega
  have HM := Lib.hid hm
  clear hm
  go_enter Try.func8, Try.ntmps8
  go_wp2_with fail
  refine (HB1.out _).mono ?_
  rintro e w1 ⟨rfl, hq⟩
  have h1 := (Six.new w d r (-1) p t b).next hq
  obtain ⟨c0, c1, c2, c3, c4, c5, _⟩ := h1.cells
  have H1 := Lib.hid h1
  clear hq h1
  go_wp2_with (at_make; refine wpList_make_full _ rfl (.tmp 30) (.tmp 30) 35 rfl w1.heap.size 5 j0 (.int .u8 0) 1 Try.underlying35 HI.out HZ0.out HZ1.out .i64 .i64 m m m rfl rfl rfl rfl (by rw [HZ2.out]; omega) (by unfold maxLen; omega) (Nat.le_refl _) ?_; intro w2 hrow hgrow; have h2 := (H1.out.next ((Below.refl w1.heap.size w1).grown hgrow (Nat.le_refl _) (by simp))); have hconv0 := (made_text hrow); obtain ⟨Z, hconv, hzs⟩ := hconv0; have HPZ := Lib.hid (HP.out Z (hzs.trans HM.out)); have hzl : Z.size ≤ 1519 := (by omega); obtain ⟨i0, i1, i2, i3, i4, i5, _⟩ := h2.cells; have H2 := Lib.hid h2; clear h2 hrow hgrow H1 c0 c1 c2 c3 c4 c5 hzs hm1 HP)
  refine (HPZ.out _).mono ?_
  rintro e w3 ⟨rfl, hq⟩
  have h3 := H2.out.next hq
  have c1 := h3.cells
  have h4 := (six_alloc h3 (.cells #[.string ⟨#[]⟩, .string ⟨#[]⟩, .int .i64 0, .int .i64 0, .int .i64 0, .string ⟨#[]⟩] 23))
  have c2 := h4.cells
  have c3 := h4.drew.cells
  clear hq H2 i0 i1 i2 i3 i4 i5 hzl hconv h3 h4 HPZ HM
  have hd := X0.out
  have hbo := X1.out
  have hl := HL.out
  have q0 : IntKind.i64.wrap (14 + (b.size : Int)) = 14 + (b.size : Int) := IntWalk.i64_in _ (by omega)
  have q1 : (6 : Int) ≤ S.size := by omega
  have q2 : (14 : Int) ≤ S.size := by omega
  have q3 : 6 ≤ S.size := by omega
  have q4 : ¬ (S.size : Int) < 6 := by omega
  have q5 : ¬ (S.size : Int) < 14 := by omega
  go_wp2_with fail
  go_region_held3 (fun w' => w'.cell? ⟨w.heap.size, 0, none⟩ = some (.string d) ∧ w'.cell? ⟨w.heap.size, 1, none⟩ = some (.string r) ∧ w'.cell? ⟨w.heap.size, 2, none⟩ = some (.int .i64 (-1)) ∧
    w'.cell? ⟨w.heap.size, 3, none⟩ = some (.int .i64 p) ∧ w'.cell? ⟨w.heap.size, 4, none⟩ = some (.int .i64 t) ∧ w'.cell? ⟨w.heap.size, 5, none⟩ = some (.string b) ∧ Six w d r (-1) p t b w')
    (first | exact c1 | exact c2 | exact c3 | assumption | exact six_next (by assumption) hq)
    (first
      | (go_at_call 12; refine (fixed_any _).mono ?_; rintro e w' ⟨rfl, hq⟩))
  rename_i hH
  clear c1 c2 c3 hd hbo hl q0 q1 q2 q3 q4 q5
  go_wp2_with fail
  go_ret
  exact ⟨rfl, hH.2.2.2.2.2.2.below⟩
set_option maxRecDepth 100000 in
set_option maxHeartbeats 3200000 in
theorem len_tag (f : Fr) (w : World) (hb : f.b.size ≤ 140737488351232) (h1 : buildE f = 0) (hv : 0 ≤ f.v) :
    Calls Try.prog 8 #[.agg #[.string f.d, .string f.r, .int .i64 f.v, .int .i64 f.p, .int .i64 f.t, .string f.b]] w fun e w' => e = .returned (.bool true) ∧ Below w.heap.size w w' := by
  have B1 := fun W => build_any f W hb
  rw [h1] at B1
  obtain ⟨x0, x1, x2, x3⟩ := build_cut h1
  rw [if_neg (show f.v ≠ -1 by omega)] at x1 x2
  have P := fun Z (hZ : Z.size = 1519 - (buildS f).size) W => parse_over (buildS f) Z hZ x3 W
  generalize buildS f = S at *
  obtain ⟨d, r, v, p, t, b⟩ := f
  simp only at x0 x1 x2 B1 hv
  have hlb : ((S.size : Int) == 18 + (b.size : Int)) = true := by rw [x2]; simp; omega
  have hS1 : 18 ≤ S.size := by omega
  clear h1 x2
  have HB1 := Lib.hid B1
  have HP := Lib.hid P
  have X0 := Lib.hid x0
  have X1 := Lib.hid x1
  have HL := Lib.hid hlb
  clear B1 P x0 x1 hlb
  obtain ⟨j0, hi, hz0, hz1, hz2⟩ := info_parts Try.info5
  have HI := Lib.hid hi
  have HZ0 := Lib.hid hz0
  have HZ1 := Lib.hid hz1
  have HZ2 := Lib.hid hz2
  clear hi hz0 hz1 hz2
  obtain ⟨m, hm⟩ : ∃ m : Nat, m = 1519 - S.size := ⟨_, rfl⟩
  have hm1 : (1519 : Int) - (S.size : Int) = (m : Int) := by omega
  have hm2 : m ≤ 1519 := by omega
  have HM := Lib.hid hm
  clear hm
  go_enter Try.func8, Try.ntmps8
  go_wp2_with fail
  refine (HB1.out _).mono ?_
  rintro e w1 ⟨rfl, hq⟩
  have h1 := (Six.new w d r v p t b).next hq
  obtain ⟨c0, c1, c2, c3, c4, c5, _⟩ := h1.cells
  have H1 := Lib.hid h1
  clear hq h1
  go_wp2_with (at_make; refine wpList_make_full _ rfl (.tmp 30) (.tmp 30) 35 rfl w1.heap.size 5 j0 (.int .u8 0) 1 Try.underlying35 HI.out HZ0.out HZ1.out .i64 .i64 m m m rfl rfl rfl rfl (by rw [HZ2.out]; omega) (by unfold maxLen; omega) (Nat.le_refl _) ?_; intro w2 hrow hgrow; have h2 := (H1.out.next ((Below.refl w1.heap.size w1).grown hgrow (Nat.le_refl _) (by simp))); have hconv0 := (made_text hrow); obtain ⟨Z, hconv, hzs⟩ := hconv0; have HPZ := Lib.hid (HP.out Z (hzs.trans HM.out)); have hzl : Z.size ≤ 1519 := (by omega); obtain ⟨i0, i1, i2, i3, i4, i5, _⟩ := h2.cells; have H2 := Lib.hid h2; clear h2 hrow hgrow H1 c0 c1 c2 c3 c4 c5 hzs hm1 HP)
  refine (HPZ.out _).mono ?_
  rintro e w3 ⟨rfl, hq⟩
  have h3 := H2.out.next hq
  have c1 := h3.cells
  have h4 := (six_alloc h3 (.cells #[.string ⟨#[]⟩, .string ⟨#[]⟩, .int .i64 0, .int .i64 0, .int .i64 0, .string ⟨#[]⟩] 23))
  have c2 := h4.cells
  have c3 := h4.drew.cells
  clear hq H2 i0 i1 i2 i3 i4 i5 hzl hconv h3 h4 HPZ HM
  have hd := X0.out
  have hbo := X1.out
  have hl := HL.out
  have q0 : IntKind.i64.wrap (18 + (b.size : Int)) = 18 + (b.size : Int) := IntWalk.i64_in _ (by omega)
  have q1 : (6 : Int) ≤ S.size := by omega
  have q2 : (18 : Int) ≤ S.size := by omega
  have q3 : 6 ≤ S.size := by omega
  have q4 : ¬ (S.size : Int) < 6 := by omega
  have q5 : ¬ (S.size : Int) < 18 := by omega
  go_wp2_with fail
  go_region_held3 (fun w' => w'.cell? ⟨w.heap.size, 0, none⟩ = some (.string d) ∧ w'.cell? ⟨w.heap.size, 1, none⟩ = some (.string r) ∧ w'.cell? ⟨w.heap.size, 2, none⟩ = some (.int .i64 v) ∧
    w'.cell? ⟨w.heap.size, 3, none⟩ = some (.int .i64 p) ∧ w'.cell? ⟨w.heap.size, 4, none⟩ = some (.int .i64 t) ∧ w'.cell? ⟨w.heap.size, 5, none⟩ = some (.string b) ∧ Six w d r v p t b w')
    (first | exact c1 | exact c2 | exact c3 | assumption | exact six_next (by assumption) hq)
    (first
      | (go_at_call 12; refine (fixed_any _).mono ?_; rintro e w' ⟨rfl, hq⟩))
  rename_i hH
  clear c1 c2 c3 hd hbo hl q0 q1 q2 q3 q4 q5
  go_wp2_with fail
  go_ret
  exact ⟨rfl, hH.2.2.2.2.2.2.below⟩
set_option maxRecDepth 100000 in
set_option maxHeartbeats 1600000 in
theorem len_bad (f : Fr) (w : World) (hb : f.b.size ≤ 140737488351232) (h1 : buildE f ≠ 0) :
    Calls Try.prog 8 #[.agg #[.string f.d, .string f.r, .int .i64 f.v, .int .i64 f.p, .int .i64 f.t, .string f.b]] w fun e w' => e = .returned (.bool true) ∧ Below w.heap.size w w' := by
  have B1 := fun W => build_any f W hb
  obtain ⟨k1, k2⟩ := build_not h1
  rw [k1, k2] at B1
  obtain ⟨d, r, v, p, t, b⟩ := f
  have HB1 := Lib.hid B1
  clear B1 k1 k2 h1
  go_enter Try.func8, Try.ntmps8
  go_wp2_with fail
  refine (HB1.out _).mono ?_
  rintro e w1 ⟨rfl, hq⟩
  have H1 := Lib.hid ((Six.new w d r v p t b).next hq)
  clear hq
  go_wp2_with fail
  refine (fixed_any _).mono ?_
  rintro e w2 ⟨rfl, hq⟩
  have H2 := Lib.hid (H1.out.next hq)
  clear hq H1
  go_wp2_with fail
  go_ret
  exact ⟨rfl, H2.out.below⟩
theorem ethLengths_any (f : Fr) (w : World) (hb : f.b.size ≤ 140737488351232) :
    Calls Try.prog 8 #[.agg #[.string f.d, .string f.r, .int .i64 f.v, .int .i64 f.p, .int .i64 f.t, .string f.b]] w fun e w' => e = .returned (.bool true) ∧ Below w.heap.size w w' := by
  by_cases h1 : buildE f = 0
  · obtain ⟨_, hf, _⟩ := build_is h1
    rcases tagB_cases (frameB_iff.1 hf).2.2.1 with ⟨hv, _⟩ | ⟨hv, _⟩
    · exact len_none f w hb h1 hv
    · exact len_tag f w hb h1 hv
  · exact len_bad f w hb h1

set_option maxRecDepth 100000 in
theorem ethLengths_lifted (os : Os) (started : os.Started) (H : Type) (enc : TypeId × Value → H) :
    ReturnsInHanded {} Try.checked os 8 .any (Rows.ethLengthsSpec.pre6 enc Try.prog Try.f8 Rows.ethLengthsRow.domain false) (Rows.ethLengthsSpec.post enc Try.prog Try.f8 false true false false) := by
  have e : Try.f8.params.toList = [23] := by rw [Try.params8]
  refine law_of_walk (C := Try.checked) (tb := 4) H enc Try.own started (by kernel_rfl) Try.func8 Try.laidOut rfl rfl Try.underlying4 ?_ ?_
    (ChangeSpec.witness6 (enc := enc) (C := Try.checked) false ⟨#[], #[.agg #[.string ByteArray.empty, .string ByteArray.empty, .int .i64 0, .int .i64 0, .int .i64 0, .string ByteArray.empty]], []⟩ 8 (by kernel_rfl) (by kernel_rfl) (by kernel_rfl) (by kernel_rfl)) ?_
  · rw [e]
    intro t ht
    simp only [List.mem_cons, List.not_mem_nil, or_false] at ht
    rcases ht with rfl <;> exact ⟨by kernel_rfl, of_decide_eq_true (by kernel_rfl)⟩
  · intro ds hds
    rw [e] at hds
    match ds, hds with
    | [d0], _ => rfl
  · intro W base args ds p hval0 hA0 hsz0
    have hval : ∀ (j : Nat) t v, Try.f8.params[j]? = some t → args[j]? = some v → Value.okWide Try.prog W .any base t v := hval0
    have hA : DataW.TrodAll enc Try.prog W 0 (fun _ => true) true Try.f8.params.toList args.toList ds p := hA0
    have hsz : (DataW.weightsEach Try.prog Try.f8.params.toList ds).all (· ≤ reachBytes) = true := hsz0
    rw [Try.params8] at hA hval hsz
    obtain ⟨v0, d0, rfl, rfl, h0⟩ := trodAll_one hA
    obtain ⟨x0, rfl, rfl⟩ := open_eth (hval 0 23 v0 rfl rfl) h0
    have s0 := eth_sized (j := 0) (f := x0) hsz rfl rfl
    exact ethLengths_any x0 W s0

theorem ethLengths_holds : Rows.EthLengthsSaid :=
  OpenClaim.holds_of_wide 8 Try.f8 rfl rfl rfl rfl rfl rfl rfl ⟨rfl, rfl, rfl, rfl, rfl⟩ rfl rfl rfl rfl rfl (by kernel_rfl) Try.func8 (by kernel_rfl)
    (of_decide_eq_true (by kernel_rfl)) (by unfold Func.isWrapper; first | (rw [if_pos (by decide +kernel)]; kernel_rfl) | (rw [if_neg (by decide +kernel)]; exact ⟨rfl, rfl⟩))
    (fun os started H enc _ => ethLengths_lifted os started H enc)
end Go.Proofs.Ytdfllobhcfajjaa
