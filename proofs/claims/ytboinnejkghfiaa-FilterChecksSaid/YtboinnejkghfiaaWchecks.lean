/-
  FilterChecks: Check and Admits answer as the document says, whatever the filter and the string.
-/
import Derived.Test.YtboinnejkghfiaaFx
namespace Go.Proofs.Ytboinnejkghfiaa
open Go.Joins Go.ChangeShapes Go.WideShapes Go.ChangeAt Go.RowKit Go.Deep
open Go.ChangeMaps (open_string)

theorem vs_begin {F G : Fl} {w w1 : World} (hG : G.At w.heap.size w) (hl : G.Few) (hq : Below (w.alloc (.cells F.cells 25)).heap.size (w.alloc (.cells F.cells 25)) w1) :
    Vs w [(w.heap.size, G)] (((((((((((w1.setCell ⟨w.heap.size, 0, none⟩ (.string G.mac)).setCell ⟨w.heap.size, 1, none⟩ (.bool G.pr)).setCell ⟨w.heap.size, 2, none⟩ (.bool G.au)).setCell ⟨w.heap.size, 3, none⟩ (.bool G.am)).setCell ⟨w.heap.size, 4, none⟩ (.bool G.nu)).setCell ⟨w.heap.size, 5, none⟩ (.bool G.nm)).setCell ⟨w.heap.size, 6, none⟩ (.bool G.na)).setCell ⟨w.heap.size, 7, none⟩ (.slice G.U G.us.length G.uc)).setCell ⟨w.heap.size, 8, none⟩ (.slice G.M G.ms.length G.mc)).setCell ⟨w.heap.size, 9, none⟩ (.bool G.vo)).setCell ⟨w.heap.size, 10, none⟩ (.slice G.V G.vs.length G.vc)) := by
  have h1 := ba (b0 w) (.cells F.cells 25)
  have h2 := bt2 h1 hq
  have hb := below_set11 h2 (Nat.le_refl _) (.string G.mac) (.bool G.pr) (.bool G.au) (.bool G.am) (.bool G.nu) (.bool G.nm) (.bool G.na) (.slice G.U G.us.length G.uc) (.slice G.M G.ms.length G.mc) (.bool G.vo) (.slice G.V G.vs.length G.vc)
  have k := ((Blk.new w 25 F.cells).next hq).set11 (.string G.mac) (.bool G.pr) (.bool G.au) (.bool G.am) (.bool G.nu) (.bool G.nm) (.bool G.na) (.slice G.U G.us.length G.uc) (.slice G.M G.ms.length G.mc) (.bool G.vo) (.slice G.V G.vs.length G.vc)
  refine ⟨hb, fun p hp => ?_, fun p hp q hq' => ?_⟩
  · obtain rfl : p = (w.heap.size, G) := by simpa using hp
    exact ⟨Nat.le_refl _, k, (hG.far (Nat.le_refl _) hb).more hb.size, hl⟩
  · obtain rfl : p = (w.heap.size, G) := by simpa using hp
    obtain rfl : q = (w.heap.size, G) := by simpa using hq'
    exact hG.off (Nat.le_refl _)
set_option maxRecDepth 100000 in
set_option maxHeartbeats 4000000 in
theorem checks_walk (mac0 mac : ByteArray) (pr0 au0 am0 nu0 nm0 na0 vo0 pr au am nu nm na vo : Bool) (U0 M0 V0 U M V : Option Addr) (us0 ms0 us ms : List ByteArray) (vs0 vs : List Int) (uc0 mc0 vc0 uc mc vc : Nat) (s : ByteArray) (cv : Int) (av : Bool) (w : World) (hG : (⟨mac, pr, au, am, nu, nm, na, U, us, uc, M, ms, mc, vo, V, vs, vc⟩ : Fl).At w.heap.size w) (hl : (⟨mac, pr, au, am, nu, nm, na, U, us, uc, M, ms, mc, vo, V, vs, vc⟩ : Fl).Few)
    (AB : ∀ W, Calls Try.prog 9 #[.agg #[.string mac0, .bool pr0, .bool au0, .bool am0, .bool nu0, .bool nm0, .bool na0, .slice U0 us0.length uc0, .slice M0 ms0.length mc0, .bool vo0, .slice V0 vs0.length vc0]] W fun e w' => e = .returned (.agg #[.string mac, .bool pr, .bool au, .bool am, .bool nu, .bool nm, .bool na, .slice U us.length uc, .slice M ms.length mc, .bool vo, .slice V vs.length vc]) ∧ Below W.heap.size W w')
    (A1 : ∀ W, Vs w [(w.heap.size, (⟨mac, pr, au, am, nu, nm, na, U, us, uc, M, ms, mc, vo, V, vs, vc⟩ : Fl))] W → Calls Try.prog 11 #[.agg #[.string mac, .bool pr, .bool au, .bool am, .bool nu, .bool nm, .bool na, .slice U us.length uc, .slice M ms.length mc, .bool vo, .slice V vs.length vc]] W fun e w' => e = .returned (.int .i64 cv) ∧ Below W.heap.size W w')
    (A2 : ∀ W, Vs w [(w.heap.size, (⟨mac, pr, au, am, nu, nm, na, U, us, uc, M, ms, mc, vo, V, vs, vc⟩ : Fl))] W → Calls Try.prog 12 #[.agg #[.string mac, .bool pr, .bool au, .bool am, .bool nu, .bool nm, .bool na, .slice U us.length uc, .slice M ms.length mc, .bool vo, .slice V vs.length vc]] W fun e w' => e = .returned (.int .i64 cv) ∧ Below W.heap.size W w')
    (A3 : ∀ W, Vs w [(w.heap.size, (⟨mac, pr, au, am, nu, nm, na, U, us, uc, M, ms, mc, vo, V, vs, vc⟩ : Fl))] W → Calls Try.prog 13 #[.agg #[.string mac, .bool pr, .bool au, .bool am, .bool nu, .bool nm, .bool na, .slice U us.length uc, .slice M ms.length mc, .bool vo, .slice V vs.length vc], .string s] W fun e w' => e = .returned (.bool av) ∧ Below W.heap.size W w')
    (A4 : ∀ W, Vs w [(w.heap.size, (⟨mac, pr, au, am, nu, nm, na, U, us, uc, M, ms, mc, vo, V, vs, vc⟩ : Fl))] W → Calls Try.prog 14 #[.agg #[.string mac, .bool pr, .bool au, .bool am, .bool nu, .bool nm, .bool na, .slice U us.length uc, .slice M ms.length mc, .bool vo, .slice V vs.length vc], .string s] W fun e w' => e = .returned (.bool av) ∧ Below W.heap.size W w') :
    Calls Try.prog 3 #[.agg #[.string mac0, .bool pr0, .bool au0, .bool am0, .bool nu0, .bool nm0, .bool na0, .slice U0 us0.length uc0, .slice M0 ms0.length mc0, .bool vo0, .slice V0 vs0.length vc0], .string s] w fun e w' => e = .returned (.bool true) ∧ Below w.heap.size w w' := by
  have HB := Lib.hid AB
  have H1 := Lib.hid A1
  have H2 := Lib.hid A2
  have H3 := Lib.hid A3
  have H4 := Lib.hid A4
  clear AB A1 A2 A3 A4
  go_enter Try.func3, Try.ntmps3
  go_wp2_with fail
  refine (HB.out _).mono ?_
  rintro e w1 ⟨rfl, hq⟩
  have k1 : Blk w1 w.heap.size 25 #[.string mac0, .bool pr0, .bool au0, .bool am0, .bool nu0, .bool nm0, .bool na0, .slice U0 us0.length uc0, .slice M0 ms0.length mc0, .bool vo0, .slice V0 vs0.length vc0] := (Blk.new w 25 _).next hq
  have c0 := k1.cell 0
  have c1 := k1.cell 1
  have c2 := k1.cell 2
  have c3 := k1.cell 3
  have c4 := k1.cell 4
  have c5 := k1.cell 5
  have c6 := k1.cell 6
  have c7 := k1.cell 7
  have c8 := k1.cell 8
  have c9 := k1.cell 9
  have c10 := k1.cell 10
  simp only [List.getElem?_toArray, List.getElem?_cons_zero, List.getElem?_cons_succ] at c0 c1 c2 c3 c4 c5 c6 c7 c8 c9 c10
  have f0 := k1.frozen 0
  have f1 := k1.frozen 1
  have f2 := k1.frozen 2
  have f3 := k1.frozen 3
  have f4 := k1.frozen 4
  have f5 := k1.frozen 5
  have f6 := k1.frozen 6
  have f7 := k1.frozen 7
  have f8 := k1.frozen 8
  have f9 := k1.frozen 9
  have f10 := k1.frozen 10
  obtain ⟨w2, hw2⟩ : ∃ w2, (((((((((((w1.setCell ⟨w.heap.size, 0, none⟩ (.string mac)).setCell ⟨w.heap.size, 1, none⟩ (.bool pr)).setCell ⟨w.heap.size, 2, none⟩ (.bool au)).setCell ⟨w.heap.size, 3, none⟩ (.bool am)).setCell ⟨w.heap.size, 4, none⟩ (.bool nu)).setCell ⟨w.heap.size, 5, none⟩ (.bool nm)).setCell ⟨w.heap.size, 6, none⟩ (.bool na)).setCell ⟨w.heap.size, 7, none⟩ (.slice U us.length uc)).setCell ⟨w.heap.size, 8, none⟩ (.slice M ms.length mc)).setCell ⟨w.heap.size, 9, none⟩ (.bool vo)).setCell ⟨w.heap.size, 10, none⟩ (.slice V vs.length vc)) = w2 := ⟨_, rfl⟩
  have hv : Vs w [(w.heap.size, ⟨mac, pr, au, am, nu, nm, na, U, us, uc, M, ms, mc, vo, V, vs, vc⟩)] w2 := hw2 ▸ vs_begin (F := ⟨mac0, pr0, au0, am0, nu0, nm0, na0, U0, us0, uc0, M0, ms0, mc0, vo0, V0, vs0, vc0⟩) (G := ⟨mac, pr, au, am, nu, nm, na, U, us, uc, M, ms, mc, vo, V, vs, vc⟩) hG hl hq
  have HW := Lib.hid hw2
  have k2 : Blk w2 w.heap.size 25 #[.string mac, .bool pr, .bool au, .bool am, .bool nu, .bool nm, .bool na, .slice U us.length uc, .slice M ms.length mc, .bool vo, .slice V vs.length vc] := hv.get (show (w.heap.size, (⟨mac, pr, au, am, nu, nm, na, U, us, uc, M, ms, mc, vo, V, vs, vc⟩ : Fl)) ∈ _ by simp)
  clear hw2 k1 hq
  have d0 := k2.cell 0
  have d1 := k2.cell 1
  have d2 := k2.cell 2
  have d3 := k2.cell 3
  have d4 := k2.cell 4
  have d5 := k2.cell 5
  have d6 := k2.cell 6
  have d7 := k2.cell 7
  have d8 := k2.cell 8
  have d9 := k2.cell 9
  have d10 := k2.cell 10
  simp only [List.getElem?_toArray, List.getElem?_cons_zero, List.getElem?_cons_succ] at d0 d1 d2 d3 d4 d5 d6 d7 d8 d9 d10
  clear k2
  go_wp2_with (rw [HW.out]; clear c0 c1 c2 c3 c4 c5 c6 c7 c8 c9 c10 f0 f1 f2 f3 f4 f5 f6 f7 f8 f9 f10 HW)
  refine region_class (Vs w [(w.heap.size, ⟨mac, pr, au, am, nu, nm, na, U, us, uc, M, ms, mc, vo, V, vs, vc⟩)]) (by kernel_rfl) (by kernel_rfl) hv.drew ?_
  repeat (first
      | go_big_quiet_skip
      | (go_big_quiet_want; go_big_quiet_op; first
        | go_big_quiet_on
        | (refine ⟨_, fun _ _ => rfl, ?_⟩; go_big_quiet_on)
        | (apply Exists.intro; refine ⟨?_, ?_⟩; · (intro wq hC; first | (go_at_call 10; (with_reducible refine (fixed_any _).mono ?_); exact fun e w' h => ⟨h.1, hC.next h.2⟩) | (go_at_call 11; (with_reducible refine (H1.out _ hC).mono ?_); exact fun e w' h => ⟨h.1, hC.next h.2⟩) | (go_at_call 12; (with_reducible refine (H2.out _ hC).mono ?_); exact fun e w' h => ⟨h.1, hC.next h.2⟩) | (go_at_call 13; (with_reducible refine (H3.out _ hC).mono ?_); exact fun e w' h => ⟨h.1, hC.next h.2⟩) | (go_at_call 14; (with_reducible refine (H4.out _ hC).mono ?_); exact fun e w' h => ⟨h.1, hC.next h.2⟩))
           go_big_quiet_on)
        | (refine ⟨.agg #[.string mac, .bool pr, .bool au, .bool am, .bool nu, .bool nm, .bool na, .slice U us.length uc, .slice M ms.length mc, .bool vo, .slice V vs.length vc], fun wq hC => ?_, ?_⟩; · (have k := hC.get (show (w.heap.size, (⟨mac, pr, au, am, nu, nm, na, U, us, uc, M, ms, mc, vo, V, vs, vc⟩ : Fl)) ∈ _ by simp); have c0 := k.cell 0; have c1 := k.cell 1; have c2 := k.cell 2; have c3 := k.cell 3; have c4 := k.cell 4; have c5 := k.cell 5; have c6 := k.cell 6; have c7 := k.cell 7; have c8 := k.cell 8; have c9 := k.cell 9; have c10 := k.cell 10; simp only [Fl.cells, List.getElem?_toArray, List.getElem?_cons_zero, List.getElem?_cons_succ] at c0 c1 c2 c3 c4 c5 c6 c7 c8 c9 c10; simp [c0, c1, c2, c3, c4, c5, c6, c7, c8, c9, c10]; done)
           go_big_quiet_on)))
  refine wpQuiet_nil ?_
  intro w9 hM
  go_wp2
  go_ret
  exact ⟨by first | rfl | simp, hM.below⟩
theorem filterChecks_any (F : Fl) (s : ByteArray) (w : World) (hF : F.At w.heap.size w) (hFit : F.Fit) :
    Calls Try.prog 3 #[F.val, .string s] w fun e w' => e = .returned (.bool true) ∧ Below w.heap.size w w' := by
  have AB := fun W => bound_any F W hFit
  have hG := bnd_at hF
  have hl := bnd_few F
  generalize bnd F = G at *
  refine checks_walk F.mac G.mac F.pr F.au F.am F.nu F.nm F.na F.vo G.pr G.au G.am G.nu G.nm G.na G.vo F.U F.M F.V G.U G.M G.V F.us F.ms G.us G.ms F.vs G.vs F.uc F.mc F.vc G.uc G.mc G.vc s (chkV G) (adB G s) w hG hl AB ?_ ?_ ?_ ?_
  · exact fun W h => check_any G W.heap.size W (h.at (show (w.heap.size, G) ∈ _ by exact List.mem_singleton.2 rfl)) (Nat.le_refl _) hl
  · exact fun W h => rcheck_any G W.heap.size W (h.at (show (w.heap.size, G) ∈ _ by exact List.mem_singleton.2 rfl)) (Nat.le_refl _) hl
  · exact fun W h => adm_any G s W.heap.size W (h.at (show (w.heap.size, G) ∈ _ by exact List.mem_singleton.2 rfl)) (Nat.le_refl _) hl
  · exact fun W h => radm_any G s W.heap.size W (h.at (show (w.heap.size, G) ∈ _ by exact List.mem_singleton.2 rfl)) (Nat.le_refl _) hl

set_option maxRecDepth 100000 in
theorem filterChecks_lifted (os : Os) (started : os.Started) (H : Type) (enc : TypeId × Value → H) :
    ReturnsInHanded {} Try.checked os 3 .any (Rows.filterChecksSpec.pre6 enc Try.prog Try.f3 Rows.filterChecksRow.domain false) (Rows.filterChecksSpec.post enc Try.prog Try.f3 false true false false) := by
  have e : Try.f3.params.toList = [25, 9] := by rw [Try.params3]
  refine law_of_walk (C := Try.checked) (tb := 4) H enc Try.own started (by kernel_rfl) Try.func3 Try.laidOut rfl rfl Try.underlying4 ?_ ?_
    (ChangeSpec.witness6 (enc := enc) (C := Try.checked) false ⟨#[], #[.agg #[.string ByteArray.empty, .bool false, .bool false, .bool false, .bool false, .bool false, .bool false, .slice none 0 0, .slice none 0 0, .bool false, .slice none 0 0], .string ByteArray.empty], []⟩ 8 (by kernel_rfl) (by kernel_rfl) (by kernel_rfl) (by kernel_rfl)) ?_
  · rw [e]
    intro t ht
    simp only [List.mem_cons, List.not_mem_nil, or_false] at ht
    rcases ht with rfl | rfl <;> exact ⟨by kernel_rfl, of_decide_eq_true (by kernel_rfl)⟩
  · intro ds hds
    rw [e] at hds
    match ds, hds with
    | [d0, d1], _ => rfl
  · intro W base args ds p hval0 hA0 hsz0
    have hval : ∀ (j : Nat) t v, Try.f3.params[j]? = some t → args[j]? = some v → Value.okWide Try.prog W .any base t v := hval0
    have hA : DataW.TrodAll enc Try.prog W 0 (fun _ => true) true Try.f3.params.toList args.toList ds p := hA0
    have hsz : (DataW.weightsEach Try.prog Try.f3.params.toList ds).all (· ≤ reachBytes) = true := hsz0
    rw [Try.params3] at hA hval hsz
    obtain ⟨v0, v1, d0, d1, p0, p1, rfl, rfl, rfl, h0, h1⟩ := trodAll_two hA
    obtain ⟨F, rfl, hF, hFit⟩ := open_filter (hval 0 25 v0 rfl rfl) h0
    obtain ⟨x1, rfl, rfl, rfl, _⟩ := open_string Try.underlying9 (hval 1 9 v1 rfl rfl) h1
    have s1 := sized_string hsz (j := 1) (t := 9) rfl rfl
    simp only [reachBytes] at s1
    exact filterChecks_any F x1 W hF hFit

theorem filterChecks_holds : Rows.FilterChecksSaid :=
  OpenClaim.holds_of_wide 3 Try.f3 rfl rfl rfl rfl rfl rfl rfl ⟨rfl, rfl, rfl, rfl, rfl⟩ rfl rfl rfl rfl rfl (by kernel_rfl) Try.func3 (by kernel_rfl)
    (of_decide_eq_true (by kernel_rfl)) (by unfold Func.isWrapper; first | (rw [if_pos (by decide +kernel)]; kernel_rfl) | (rw [if_neg (by decide +kernel)]; exact ⟨rfl, rfl⟩))
    (fun os started H enc _ => filterChecks_lifted os started H enc)
end Go.Proofs.Ytboinnejkghfiaa
