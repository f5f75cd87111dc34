/-
  The laws' own fixed is true.
-/
import Derived.Test.YtongkfimgohhbaaVt
namespace Go.Proofs.Ytongkfimgohhbaa
open Go.RowKit

def fxF : Fl := ⟨⟨#[2, 97, 113, 0, 0, 5]⟩, false, false, false, false, false, false, none, [], 0, none, [], 0, false, none, [], 0⟩
def fxC : Cg := ⟨fxF, 1, 4, false, 0, none, [], 0, ⟨#[]⟩, 0⟩
theorem fx_1 : ackC fxC ⟨#[0, 0, 1]⟩ = 0 ∧ (resC fxC ⟨#[0, 0, 1]⟩).f.pr = true := by decide +kernel
theorem fx_2 : ackC fxC ⟨#[0, 0, 2]⟩ = 1 ∧ (appC fxC ⟨#[0, 0, 2]⟩).isSome = false := by decide +kernel
theorem fx_3 : ackC fxC ⟨#[2, 0, 7, 0]⟩ = 0 ∧ (resC fxC ⟨#[2, 0, 7, 0]⟩).f.vs = [7] := by decide +kernel
theorem fx_4 : ackC fxC (cmdS 4 0 [lowS 4 2]) = 0 ∧ (resC fxC (cmdS 4 0 [lowS 4 2])).pairs = 4 := by decide +kernel
theorem fx_5 : ackC fxC (cmdS 4 0 [lowS 5 2]) = 1 := by decide +kernel
theorem fx_6 : ackC fxC ⟨#[]⟩ = 1 := by decide +kernel
theorem fx_7 : cmdS 0 2 [lowS (onV true) 1] = ⟨#[0, 2, 1]⟩ := by decide +kernel
theorem fx_8 : cmdS 2 (1 - onV false) [lowS 258 2] = ⟨#[2, 1, 2, 1]⟩ := by decide +kernel
theorem fx_at (B : Nat) (w : World) : fxC.At B w := ⟨⟨Rd.nil, Rd.nil, Rd.nil⟩, Rd.nil⟩
theorem fx_ofs (g : Nat) : fxC.Ofs g := ⟨⟨fun _ _ h => absurd h (by decide), fun _ _ h => absurd h (by decide), fun _ _ h => absurd h (by decide)⟩, fun _ _ h => absurd h (by decide)⟩
theorem fx_room : fxC.Room := ⟨Nat.zero_le _, Nat.zero_le _, Nat.zero_le _, Nat.zero_le _⟩
theorem own_any (w : World) : Calls Try.prog 38 #[] w fun e w' => e = .returned (.agg fxF.cells) ∧ Below w.heap.size w w' := by
  go_enter Try.func38, Try.ntmps38
  go_wp2_with fail
  refine bodyPost_ret (v := .agg fxF.cells) ?_ rfl ⟨rfl, ba (b0 w) _⟩
  exact results_cell_row rfl _ _ _ _ _ (0, 0) _ rfl (Blk.new w _ _) Try.underlying25 rfl Try.size25
set_option maxHeartbeats 4000000 in
set_option maxRecDepth 100000 in
theorem fixed_any (w : World) : Calls Try.prog 13 #[] w fun e w' => e = .returned (.bool true) ∧ Below w.heap.size w w' := by
  have C : ∀ s : ByteArray, s.size ≤ maxLen → ∀ (g : Nat) (L : List (Nat × Th)) W, Vs w L W → (g, fxC.th) ∈ L → Calls Try.prog 11 #[.agg fxC.cells, .string s] W (AppP (resC fxC s) (ackC fxC s) W) :=
    fun s hs g L W h hm => capply_any fxC s W hs (h.at hm) fx_room
  have B1 := C ⟨#[0, 0, 1]⟩ (by decide)
  have B2 := C ⟨#[0, 0, 2]⟩ (by decide)
  have B3 := C ⟨#[2, 0, 7, 0]⟩ (by decide)
  have B4 := C (cmdS 4 0 [lowS 4 2]) (by decide +kernel)
  have B5 := C (cmdS 4 0 [lowS 5 2]) (by decide +kernel)
  have B6 := C ⟨#[]⟩ (by decide)
  rw [fx_1.1] at B1
  rw [fx_2.1] at B2
  rw [fx_3.1] at B3
  rw [fx_4.1] at B4
  rw [fx_5] at B5
  rw [fx_6] at B6
  have P4 := fun W => pairs_any 4 W
  have P5 := fun W => pairs_any 5 W
  have R1 := fx_1.2
  have R2 : resC fxC ⟨#[0, 0, 2]⟩ = fxC := by
    have h := fx_2.2
    unfold resC
    cases hA : appC fxC ⟨#[0, 0, 2]⟩ with
    | none => rfl
    | some x => rw [hA] at h; cases h
  have R3 := fx_3.2
  have R4 := fx_4.2
  rw [R2] at B2
  generalize resC fxC ⟨#[0, 0, 1]⟩ = X1 at *
  generalize resC fxC ⟨#[2, 0, 7, 0]⟩ = X3 at *
  generalize resC fxC (cmdS 4 0 [lowS 4 2]) = X4 at *
  generalize resC fxC (cmdS 4 0 [lowS 5 2]) = X5 at *
  generalize resC fxC ⟨#[]⟩ = X6 at *
  generalize cmdS 4 0 [lowS 4 2] = q4 at *
  generalize cmdS 4 0 [lowS 5 2] = q5 at *
  have HR1 := Lib.hid R1
  have HR3 := Lib.hid R3
  have HR4 := Lib.hid R4
  have HB1 := Lib.hid B1
  have HB2 := Lib.hid B2
  have HB3 := Lib.hid B3
  have HB4 := Lib.hid B4
  have HB5 := Lib.hid B5
  have HB6 := Lib.hid B6
  have HP4 := Lib.hid P4
  have HP5 := Lib.hid P5
  clear C B1 B2 B3 B4 B5 B6 P4 P5 R1 R2 R3 R4
  go_enter Try.func13, Try.ntmps13
  go_wp2_with fail
  refine (own_any w).mono ?_
  rintro e w1 ⟨rfl, hq⟩
  have hv0 : Vs w [] w1 := (Vs.begin w).next hq
  have hv : Vs w [(w1.heap.size, fxC.th)] ((w1.alloc (.cells zeroC 29)).setCells w1.heap.size 0 fxC.cells.toList) :=
    (hv0.alloc _).var hv0 (Nat.le_refl _) (Blk.new w1 _ _) rfl (fx_at _ _) (fx_ofs _) (fun q _ => fx_ofs _)
  obtain ⟨g1, hg1⟩ : ∃ g1, w1.heap.size = g1 := ⟨_, rfl⟩
  have kz := Blk.new w1 29 zeroC
  obtain ⟨wr, hwr⟩ : ∃ wr, ((w1.alloc (.cells #[.string ⟨#[]⟩, .bool false, .bool false, .bool false, .bool false, .bool false, .bool false, .slice none 0 0, .slice none 0 0, .bool false, .slice none 0 0, .int .i64 0, .int .i64 0, .bool false, .int .i64 0, .slice none 0 0, .string ⟨#[]⟩, .int .i64 0] 29)).setCells w1.heap.size 0 fxC.cells.toList) = wr := ⟨_, rfl⟩
  replace hv : Vs w [(w1.heap.size, fxC.th)] wr := hwr ▸ hv
  rw [hg1] at hv
  have HW := Lib.hid hwr
  have HZ := Lib.hid kz
  have HG1 := Lib.hid hg1
  clear hv0 hq hwr kz hg1
  dsimp only
  have kc : Blk wr g1 29 (Cg.cells fxC) := hv.get (show (g1, Cg.th fxC) ∈ ([(g1, Cg.th fxC)] : List (Nat × Th)) by simp)
  have HKC := Lib.hid kc
  have HA := Lib.hid (fun W (h : Vs w [(g1, Cg.th fxC)] W) => HB1.out g1 _ W h (show (g1, Cg.th fxC) ∈ ([(g1, Cg.th fxC)] : List (Nat × Th)) by simp))
  clear kc
  go_wp2_with (first
    | ((with_reducible refine sw_cfg (G := fxC) HZ.out ?_ ?_ (.tmp 1) (.tmp 15) ?_ ?_ ?_ ?_); (· rfl); (· rfl); (· rfl); (· rfl); (· rfl); simp only [Act.put]; rw [HW.out]; rw [HG1.out])
    | ((with_reducible refine lw_cfg HKC.out ?_ (.tmp 1) ?_ ?_ ?_); (· rfl); (· rfl); (· rfl); simp only [Act.put, List.setIfInBounds_toArray, List.set_cons_succ, List.set_cons_zero]))
  refine (HA.out _ hv).mono ?_
  rintro e w2 ⟨G2, hX2, rfl, hO, hq⟩
  have hvn := hv.app hO hq
  have kz := Blk.new w2 29 zeroC
  clear hO hq HKC HA HB1 HW HZ HG1 hv
  obtain ⟨g2, hg⟩ : ∃ x, w2.heap.size = x := ⟨_, rfl⟩
  obtain ⟨wr2, hwr⟩ : ∃ x, ((w2.alloc (.cells #[.string ⟨#[]⟩, .bool false, .bool false, .bool false, .bool false, .bool false, .bool false, .slice none 0 0, .slice none 0 0, .bool false, .slice none 0 0, .int .i64 0, .int .i64 0, .bool false, .int .i64 0, .slice none 0 0, .string ⟨#[]⟩, .int .i64 0] 29)).setCells w2.heap.size 0 (Cg.cells G2).toList) = x := ⟨_, rfl⟩
  have hv : Vs w ((w2.heap.size, Cg.th G2) :: [(g1, Cg.th fxC)]) wr2 := hwr ▸ hvn
  rw [hg] at hv
  have HW := Lib.hid hwr
  have HZ := Lib.hid kz
  have HG := Lib.hid hg
  clear hwr kz hg hvn
  dsimp only
  have kc : Blk wr2 g1 29 (Cg.cells fxC) := hv.get (show (g1, Cg.th fxC) ∈ ([(g2, Cg.th G2), (g1, Cg.th fxC)] : List (Nat × Th)) by simp)
  have HKC := Lib.hid kc
  have HA := Lib.hid (fun W (h : Vs w [(g2, Cg.th G2), (g1, Cg.th fxC)] W) => HB2.out g1 _ W h (show (g1, Cg.th fxC) ∈ ([(g2, Cg.th G2), (g1, Cg.th fxC)] : List (Nat × Th)) by simp))
  clear kc
  go_wp2_with (first
    | ((with_reducible refine sw_cfg (G := G2) HZ.out ?_ ?_ (.tmp 2) (.tmp 19) ?_ ?_ ?_ ?_); (· rfl); (· rfl); (· rfl); (· rfl); (· rfl); simp only [Act.put]; rw [HW.out]; rw [HG.out])
    | ((with_reducible refine lw_cfg HKC.out ?_ (.tmp 1) ?_ ?_ ?_); (· rfl); (· rfl); (· rfl); simp only [Act.put, List.setIfInBounds_toArray, List.set_cons_succ, List.set_cons_zero]))
  refine (HA.out _ hv).mono ?_
  rintro e w2 ⟨G3, hX3, rfl, hO, hq⟩
  have hvn := hv.app hO hq
  have kz := Blk.new w2 29 zeroC
  clear hO hq HKC HA HB2 HW HZ HG hv
  obtain ⟨g3, hg⟩ : ∃ x, w2.heap.size = x := ⟨_, rfl⟩
  obtain ⟨wr3, hwr⟩ : ∃ x, ((w2.alloc (.cells #[.string ⟨#[]⟩, .bool false, .bool false, .bool false, .bool false, .bool false, .bool false, .slice none 0 0, .slice none 0 0, .bool false, .slice none 0 0, .int .i64 0, .int .i64 0, .bool false, .int .i64 0, .slice none 0 0, .string ⟨#[]⟩, .int .i64 0] 29)).setCells w2.heap.size 0 (Cg.cells G3).toList) = x := ⟨_, rfl⟩
  have hv : Vs w ((w2.heap.size, Cg.th G3) :: [(g2, Cg.th G2), (g1, Cg.th fxC)]) wr3 := hwr ▸ hvn
  rw [hg] at hv
  have HW := Lib.hid hwr
  have HZ := Lib.hid kz
  have HG := Lib.hid hg
  clear hwr kz hg hvn
  dsimp only
  have kc : Blk wr3 g1 29 (Cg.cells fxC) := hv.get (show (g1, Cg.th fxC) ∈ ([(g3, Cg.th G3), (g2, Cg.th G2), (g1, Cg.th fxC)] : List (Nat × Th)) by simp)
  have HKC := Lib.hid kc
  have HA := Lib.hid (fun W (h : Vs w [(g3, Cg.th G3), (g2, Cg.th G2), (g1, Cg.th fxC)] W) => HB3.out g1 _ W h (show (g1, Cg.th fxC) ∈ ([(g3, Cg.th G3), (g2, Cg.th G2), (g1, Cg.th fxC)] : List (Nat × Th)) by simp))
  clear kc
  go_wp2_with (first
    | ((with_reducible refine sw_cfg (G := G3) HZ.out ?_ ?_ (.tmp 4) (.tmp 24) ?_ ?_ ?_ ?_); (· rfl); (· rfl); (· rfl); (· rfl); (· rfl); simp only [Act.put]; rw [HW.out]; rw [HG.out])
    | ((with_reducible refine lw_cfg HKC.out ?_ (.tmp 1) ?_ ?_ ?_); (· rfl); (· rfl); (· rfl); simp only [Act.put, List.setIfInBounds_toArray, List.set_cons_succ, List.set_cons_zero]))
  refine (HA.out _ hv).mono ?_
  rintro e w2 ⟨G4, hX4, rfl, hO, hq⟩
  have hvn := hv.app hO hq
  have kz := Blk.new w2 29 zeroC
  clear hO hq HKC HA HB3 HW HZ HG hv
  obtain ⟨g4, hg⟩ : ∃ x, w2.heap.size = x := ⟨_, rfl⟩
  obtain ⟨wr4, hwr⟩ : ∃ x, ((w2.alloc (.cells #[.string ⟨#[]⟩, .bool false, .bool false, .bool false, .bool false, .bool false, .bool false, .slice none 0 0, .slice none 0 0, .bool false, .slice none 0 0, .int .i64 0, .int .i64 0, .bool false, .int .i64 0, .slice none 0 0, .string ⟨#[]⟩, .int .i64 0] 29)).setCells w2.heap.size 0 (Cg.cells G4).toList) = x := ⟨_, rfl⟩
  have hv : Vs w ((w2.heap.size, Cg.th G4) :: [(g3, Cg.th G3), (g2, Cg.th G2), (g1, Cg.th fxC)]) wr4 := hwr ▸ hvn
  rw [hg] at hv
  have HW := Lib.hid hwr
  have HZ := Lib.hid kz
  have HG := Lib.hid hg
  clear hwr kz hg hvn
  dsimp only
  have HA := Lib.hid (fun W (h : Vs w [(g4, Cg.th G4), (g3, Cg.th G3), (g2, Cg.th G2), (g1, Cg.th fxC)] W) => HB4.out g1 _ W h (show (g1, Cg.th fxC) ∈ ([(g4, Cg.th G4), (g3, Cg.th G3), (g2, Cg.th G2), (g1, Cg.th fxC)] : List (Nat × Th)) by simp))
  go_wp2_with ((with_reducible refine sw_cfg (G := G4) HZ.out ?_ ?_ (.tmp 6) (.tmp 29) ?_ ?_ ?_ ?_); (· rfl); (· rfl); (· rfl); (· rfl); (· rfl); simp only [Act.put]; rw [HW.out]; rw [HG.out])
  clear HW HZ HG
  refine region_cut (fun a a' w' => ∃ (g : Nat) (G : Cg), Cg.Same X4 G ∧ a' = ((((((((a.put (some 32) (.agg (Cg.cells fxC))).put (some 33) (.string q4)).put (some 34) (.tuple #[.agg G.cells, .int .i64 (0)])).put (some 31) (.tuple #[.agg G.cells, .int .i64 (0)])).put (some 35) (.agg G.cells)).put (some 36) (.int .i64 (0))).put (some 8) (.pointer (some ⟨g, 0, none⟩))).put (some 9) (.int .i64 (0))) ∧ Vs w ((g, G.th) :: [(g4, Cg.th G4), (g3, Cg.th G3), (g2, Cg.th G2), (g1, Cg.th fxC)]) w') ?_ ?_
  · refine wp_region_held_drew (S := Sg w [(g4, Cg.th G4), (g3, Cg.th G3), (g2, Cg.th G2), (g1, Cg.th fxC)] wr4) (by kernel_rfl) (Sg.start hv) (fun hHeld => ?_)
    refine wpAnyH_take (i := 0) (oi := { dst := some 32, op := Go.Op.load 29 (Go.Operand.tmp 1), type := 29, pos := "law.go:22", after := #[], guard := none }) (v := .agg (Cg.cells fxC)) rfl (by kernel_rfl) (by kernel_rfl) (by kernel_rfl) (fun _ _ _ h => nomatch h.1) (yieldsIf_load_mid (by rfl) 29 (.tmp 1) rfl _ 0 rfl (Cg.cells fxC).toList _ (row_cfg (show (g1, Cg.th fxC) ∈ ([(g4, Cg.th G4), (g3, Cg.th G3), (g2, Cg.th G2), (g1, Cg.th fxC)] : List (Nat × Th)) by simp)) Try.underlying29 rfl Try.size29) hHeld ?_
    try simp only [Act.put, List.setIfInBounds_toArray, List.set_cons_zero, List.set_cons_succ]
    refine wpAnyH_ready (rs := [1, 6]) (by kernel_rfl) (by simp) ?_
    refine AllReadyH.cons (o := { dst := some 33, op := Go.Op.call { callee := Go.Callee.value (Go.Operand.func 20), args := #[Go.Operand.const (Go.Value.int Go.IntKind.i64 4)], argTypes := #[3] }, type := 9, pos := "law.go:22", after := #[], guard := none }) rfl (fun K hK => ?_) ?_
    · go_simp
      refine (HP4.out _).mono ?_
      rintro e v1 ⟨rfl, hq⟩
      have hS := hHeld.next hq
      clear hq hHeld
      dsimp only
      refine hK.out _ _ hS (fun hHeld => ?_)
      clear hK K
      try simp only [Act.put, List.setIfInBounds_toArray, List.set_cons_zero, List.set_cons_succ]
      refine wpAnyH_ready (rs := [2, 6]) (by kernel_rfl) (by simp) ?_
      refine AllReadyH.cons (o := { dst := some 34, op := Go.Op.call { callee := Go.Callee.value (Go.Operand.func 11), args := #[Go.Operand.tmp 32, Go.Operand.tmp 33], argTypes := #[29, 9] }, type := 31, pos := "law.go:22", after := #[{ on := 0, ground := Go.Ground.data }, { on := 1, ground := Go.Ground.data }, { on := 1, ground := Go.Ground.chain }], guard := none }) rfl (fun K hK => ?_) ?_
      · go_simp
        refine (HA.out _ hHeld.vs).mono ?_
        rintro e v2 ⟨G, hX, rfl, hO, hq⟩
        have hS := hHeld.next hq
        have oq : ∀ q ∈ ([(g4, Cg.th G4), (g3, Cg.th G3), (g2, Cg.th G2), (g1, Cg.th fxC)] : List (Nat × Th)), G.Ofs q.1 := fun q hq => hO.ofs (hHeld.vs.lt hq)
        have hG := hO.at (Nat.le_refl _)
        clear hO hq hHeld
        dsimp only
        refine hK.out _ _ hS (fun hHeld => ?_)
        clear hK K
        try simp only [Act.put, List.setIfInBounds_toArray, List.set_cons_zero, List.set_cons_succ]
        refine wpAnyH_take (i := 3) (oi := { dst := some 31, op := Go.Op.move (Go.Operand.tmp 34), type := 31, pos := "law.go:22", after := #[{ on := 2, ground := Go.Ground.data }], guard := none }) (v := ?_) rfl (by kernel_rfl) (by kernel_rfl) (by kernel_rfl) (fun _ _ _ h => nomatch h.1) (Or.inl ⟨by rfl, ?_⟩) hHeld ?_
        rotate_left
        · intro W hSw
          go_simp
          try with_reducible rfl
        try simp only [Act.put, List.setIfInBounds_toArray, List.set_cons_zero, List.set_cons_succ]
        refine wpAnyH_take (i := 4) (oi := { dst := some 35, op := Go.Op.extract (Go.Operand.tmp 31) 0, type := 29, pos := "law.go:22", after := #[{ on := 3, ground := Go.Ground.data }], guard := none }) (v := ?_) rfl (by kernel_rfl) (by kernel_rfl) (by kernel_rfl) (fun _ _ _ h => nomatch h.1) (Or.inl ⟨by rfl, ?_⟩) hHeld ?_
        rotate_left
        · intro W hSw
          go_simp
          try with_reducible rfl
        try simp only [Act.put, List.setIfInBounds_toArray, List.set_cons_zero, List.set_cons_succ]
        refine wpAnyH_take (i := 5) (oi := { dst := some 36, op := Go.Op.extract (Go.Operand.tmp 31) 1, type := 3, pos := "law.go:22", after := #[{ on := 3, ground := Go.Ground.data }, { on := 7, ground := Go.Ground.gcOnly Go.Departure.lateStores }], guard := none }) (v := ?_) rfl (by kernel_rfl) (by kernel_rfl) (by kernel_rfl) (fun _ _ _ h => nomatch h.1) (Or.inl ⟨by rfl, ?_⟩) hHeld ?_
        rotate_left
        · intro W hSw
          go_simp
          try with_reducible rfl
        try simp only [Act.put, List.setIfInBounds_toArray, List.set_cons_zero, List.set_cons_succ]
        refine wpAnyH_ready (rs := [6]) (by kernel_rfl) (by simp) ?_
        refine AllReadyH.cons (o := { dst := some 8, op := Go.Op.alloc 29, type := 0, pos := "law.go:22", after := #[], guard := none }) rfl (fun K hK => ?_) ?_
        · go_simp
          obtain ⟨v3, hvv3⟩ : ∃ x, (v2.alloc (.cells #[.string ⟨#[]⟩, .bool false, .bool false, .bool false, .bool false, .bool false, .bool false, .slice none 0 0, .slice none 0 0, .bool false, .slice none 0 0, .int .i64 0, .int .i64 0, .bool false, .int .i64 0, .slice none 0 0, .string ⟨#[]⟩, .int .i64 0] 29)) = x := ⟨_, rfl⟩
          have kz0 := Blk.new v2 29 zeroC
          have kz : Blk v3 v2.heap.size 29 zeroC := hvv3 ▸ (show Blk (v2.alloc (.cells #[.string ⟨#[]⟩, .bool false, .bool false, .bool false, .bool false, .bool false, .bool false, .slice none 0 0, .slice none 0 0, .bool false, .slice none 0 0, .int .i64 0, .int .i64 0, .bool false, .int .i64 0, .slice none 0 0, .string ⟨#[]⟩, .int .i64 0] 29)) _ _ _ from kz0)
          have zge : wr4.heap.size ≤ v2.heap.size := hHeld.bl.size
          have hS : Sg w [(g4, Cg.th G4), (g3, Cg.th G3), (g2, Cg.th G2), (g1, Cg.th fxC)] wr4 v3 := hvv3 ▸ (show Sg w [(g4, Cg.th G4), (g3, Cg.th G3), (g2, Cg.th G2), (g1, Cg.th fxC)] wr4 (v2.alloc (.cells #[.string ⟨#[]⟩, .bool false, .bool false, .bool false, .bool false, .bool false, .bool false, .slice none 0 0, .slice none 0 0, .bool false, .slice none 0 0, .int .i64 0, .int .i64 0, .bool false, .int .i64 0, .slice none 0 0, .string ⟨#[]⟩, .int .i64 0] 29)) from hHeld.alloc (.cells zeroC 29))
          have og := hG.ofs (Nat.le_refl _)
          have hG : G.At v3.heap.size v3 := hvv3 ▸ (show G.At (World.heap (v2.alloc (.cells #[.string ⟨#[]⟩, .bool false, .bool false, .bool false, .bool false, .bool false, .bool false, .slice none 0 0, .slice none 0 0, .bool false, .slice none 0 0, .int .i64 0, .int .i64 0, .bool false, .int .i64 0, .slice none 0 0, .string ⟨#[]⟩, .int .i64 0] 29))).size (v2.alloc (.cells #[.string ⟨#[]⟩, .bool false, .bool false, .bool false, .bool false, .bool false, .bool false, .slice none 0 0, .slice none 0 0, .bool false, .slice none 0 0, .int .i64 0, .int .i64 0, .bool false, .int .i64 0, .slice none 0 0, .string ⟨#[]⟩, .int .i64 0] 29)) from hG.alloc (.cells zeroC 29))
          rw [hvv3]
          clear hvv3 hHeld kz0
          refine hK.out _ _ hS (fun hHeld => ?_)
          clear hK K
          try simp only [Act.put, List.setIfInBounds_toArray, List.set_cons_zero, List.set_cons_succ]
          refine wpAnyH_ready (rs := [7]) (by kernel_rfl) (by simp) ?_
          refine AllReadyH.cons (o := { dst := none, op := Go.Op.store 29 (Go.Operand.tmp 8) (Go.Operand.tmp 35), type := 0, pos := "law.go:22", after := #[{ on := 6, ground := Go.Ground.data }, { on := 4, ground := Go.Ground.data }, { on := 2, ground := Go.Ground.chain }, { on := 0, ground := Go.Ground.phase }, { on := 1, ground := Go.Ground.phase }, { on := 2, ground := Go.Ground.phase }, { on := 3, ground := Go.Ground.phase }, { on := 4, ground := Go.Ground.phase }, { on := 5, ground := Go.Ground.textOnly Go.Departure.lateStores }, { on := 6, ground := Go.Ground.phase }], guard := none }) rfl (fun K hK => ?_) ?_
          · have hvn := hHeld.vs.var (W := wr4) hv zge kz rfl hG og oq
            have hS : Sg w [(g4, Cg.th G4), (g3, Cg.th G3), (g2, Cg.th G2), (g1, Cg.th fxC)] wr4 (v3.setCells (v2.heap.size) 0 G.cells.toList) := ⟨hvn.less (by simp), below_puts hHeld.bl hHeld.bl.size zge 0 _⟩
            rw [if_pos (by rfl)]
            refine wp_store_mid 29 (.tmp 8) (.tmp 35) rfl (v2.heap.size) 0 G.cells rfl rfl (there_of_blk kz 0 _ (Nat.le_refl 18)) Try.size29 (by simp [Cg.cells, Value.oneCell']) ?_
            refine hK.out _ _ hS (fun hHeld => ?_)
            clear hK K
            try simp only [Act.put]
            refine wpAnyH_take (i := 8) (oi := { dst := some 9, op := Go.Op.assign (Go.Operand.tmp 36), type := 3, pos := "law.go:22", after := #[{ on := 5, ground := Go.Ground.data }, { on := 7, ground := Go.Ground.chain }, { on := 0, ground := Go.Ground.phase }, { on := 1, ground := Go.Ground.phase }, { on := 2, ground := Go.Ground.phase }, { on := 3, ground := Go.Ground.phase }, { on := 4, ground := Go.Ground.phase }, { on := 5, ground := Go.Ground.phase }, { on := 6, ground := Go.Ground.phase }, { on := 7, ground := Go.Ground.phase }], guard := none }) (v := ?_) rfl (by kernel_rfl) (by kernel_rfl) (by kernel_rfl) (fun _ _ _ h => nomatch h.1) (Or.inl ⟨by rfl, ?_⟩) hHeld ?_
            rotate_left
            · intro W hSw
              go_simp
              try with_reducible rfl
            try simp only [Act.put, List.setIfInBounds_toArray, List.set_cons_zero, List.set_cons_succ]
            refine wpAnyH_done (by kernel_rfl) ?_ _
            refine ⟨rfl, _, _, hX, ?_, hvn⟩
            rfl
          exact AllReadyH.nil
        exact AllReadyH.nil
      refine AllReadyH.cons (o := { dst := some 8, op := Go.Op.alloc 29, type := 0, pos := "law.go:22", after := #[], guard := none }) rfl (fun K hK => ?_) ?_
      · go_simp
        obtain ⟨v4, hvv4⟩ : ∃ x, (v1.alloc (.cells #[.string ⟨#[]⟩, .bool false, .bool false, .bool false, .bool false, .bool false, .bool false, .slice none 0 0, .slice none 0 0, .bool false, .slice none 0 0, .int .i64 0, .int .i64 0, .bool false, .int .i64 0, .slice none 0 0, .string ⟨#[]⟩, .int .i64 0] 29)) = x := ⟨_, rfl⟩
        have kz0 := Blk.new v1 29 zeroC
        have kz : Blk v4 v1.heap.size 29 zeroC := hvv4 ▸ (show Blk (v1.alloc (.cells #[.string ⟨#[]⟩, .bool false, .bool false, .bool false, .bool false, .bool false, .bool false, .slice none 0 0, .slice none 0 0, .bool false, .slice none 0 0, .int .i64 0, .int .i64 0, .bool false, .int .i64 0, .slice none 0 0, .string ⟨#[]⟩, .int .i64 0] 29)) _ _ _ from kz0)
        have zge : wr4.heap.size ≤ v1.heap.size := hHeld.bl.size
        have hS : Sg w [(g4, Cg.th G4), (g3, Cg.th G3), (g2, Cg.th G2), (g1, Cg.th fxC)] wr4 v4 := hvv4 ▸ (show Sg w [(g4, Cg.th G4), (g3, Cg.th G3), (g2, Cg.th G2), (g1, Cg.th fxC)] wr4 (v1.alloc (.cells #[.string ⟨#[]⟩, .bool false, .bool false, .bool false, .bool false, .bool false, .bool false, .slice none 0 0, .slice none 0 0, .bool false, .slice none 0 0, .int .i64 0, .int .i64 0, .bool false, .int .i64 0, .slice none 0 0, .string ⟨#[]⟩, .int .i64 0] 29)) from hHeld.alloc (.cells zeroC 29))
        rw [hvv4]
        clear hvv4 hHeld kz0
        refine hK.out _ _ hS (fun hHeld => ?_)
        clear hK K
        try simp only [Act.put, List.setIfInBounds_toArray, List.set_cons_zero, List.set_cons_succ]
        refine wpAnyH_ready (rs := [2]) (by kernel_rfl) (by simp) ?_
        refine AllReadyH.cons (o := { dst := some 34, op := Go.Op.call { callee := Go.Callee.value (Go.Operand.func 11), args := #[Go.Operand.tmp 32, Go.Operand.tmp 33], argTypes := #[29, 9] }, type := 31, pos := "law.go:22", after := #[{ on := 0, ground := Go.Ground.data }, { on := 1, ground := Go.Ground.data }, { on := 1, ground := Go.Ground.chain }], guard := none }) rfl (fun K hK => ?_) ?_
        · go_simp
          refine (HA.out _ hHeld.vs).mono ?_
          rintro e v5 ⟨G, hX, rfl, hO, hq⟩
          have hS := hHeld.next hq
          have og := hO.ofs kz.lt
          have kz := kz.next hq
          have oq : ∀ q ∈ ([(g4, Cg.th G4), (g3, Cg.th G3), (g2, Cg.th G2), (g1, Cg.th fxC)] : List (Nat × Th)), G.Ofs q.1 := fun q hq => hO.ofs (hHeld.vs.lt hq)
          have hG := hO.at (Nat.le_refl _)
          clear hO hq hHeld
          dsimp only
          refine hK.out _ _ hS (fun hHeld => ?_)
          clear hK K
          try simp only [Act.put, List.setIfInBounds_toArray, List.set_cons_zero, List.set_cons_succ]
          refine wpAnyH_take (i := 3) (oi := { dst := some 31, op := Go.Op.move (Go.Operand.tmp 34), type := 31, pos := "law.go:22", after := #[{ on := 2, ground := Go.Ground.data }], guard := none }) (v := ?_) rfl (by kernel_rfl) (by kernel_rfl) (by kernel_rfl) (fun _ _ _ h => nomatch h.1) (Or.inl ⟨by rfl, ?_⟩) hHeld ?_
          rotate_left
          · intro W hSw
            go_simp
            try with_reducible rfl
          try simp only [Act.put, List.setIfInBounds_toArray, List.set_cons_zero, List.set_cons_succ]
          refine wpAnyH_take (i := 4) (oi := { dst := some 35, op := Go.Op.extract (Go.Operand.tmp 31) 0, type := 29, pos := "law.go:22", after := #[{ on := 3, ground := Go.Ground.data }], guard := none }) (v := ?_) rfl (by kernel_rfl) (by kernel_rfl) (by kernel_rfl) (fun _ _ _ h => nomatch h.1) (Or.inl ⟨by rfl, ?_⟩) hHeld ?_
          rotate_left
          · intro W hSw
            go_simp
            try with_reducible rfl
          try simp only [Act.put, List.setIfInBounds_toArray, List.set_cons_zero, List.set_cons_succ]
          refine wpAnyH_take (i := 5) (oi := { dst := some 36, op := Go.Op.extract (Go.Operand.tmp 31) 1, type := 3, pos := "law.go:22", after := #[{ on := 3, ground := Go.Ground.data }, { on := 7, ground := Go.Ground.gcOnly Go.Departure.lateStores }], guard := none }) (v := ?_) rfl (by kernel_rfl) (by kernel_rfl) (by kernel_rfl) (fun _ _ _ h => nomatch h.1) (Or.inl ⟨by rfl, ?_⟩) hHeld ?_
          rotate_left
          · intro W hSw
            go_simp
            try with_reducible rfl
          try simp only [Act.put, List.setIfInBounds_toArray, List.set_cons_zero, List.set_cons_succ]
          refine wpAnyH_ready (rs := [7]) (by kernel_rfl) (by simp) ?_
          refine AllReadyH.cons (o := { dst := none, op := Go.Op.store 29 (Go.Operand.tmp 8) (Go.Operand.tmp 35), type := 0, pos := "law.go:22", after := #[{ on := 6, ground := Go.Ground.data }, { on := 4, ground := Go.Ground.data }, { on := 2, ground := Go.Ground.chain }, { on := 0, ground := Go.Ground.phase }, { on := 1, ground := Go.Ground.phase }, { on := 2, ground := Go.Ground.phase }, { on := 3, ground := Go.Ground.phase }, { on := 4, ground := Go.Ground.phase }, { on := 5, ground := Go.Ground.textOnly Go.Departure.lateStores }, { on := 6, ground := Go.Ground.phase }], guard := none }) rfl (fun K hK => ?_) ?_
          · have hvn := hHeld.vs.var (W := wr4) hv zge kz rfl hG og oq
            have hS : Sg w [(g4, Cg.th G4), (g3, Cg.th G3), (g2, Cg.th G2), (g1, Cg.th fxC)] wr4 (v5.setCells (v1.heap.size) 0 G.cells.toList) := ⟨hvn.less (by simp), below_puts hHeld.bl hHeld.bl.size zge 0 _⟩
            rw [if_pos (by rfl)]
            refine wp_store_mid 29 (.tmp 8) (.tmp 35) rfl (v1.heap.size) 0 G.cells rfl rfl (there_of_blk kz 0 _ (Nat.le_refl 18)) Try.size29 (by simp [Cg.cells, Value.oneCell']) ?_
            refine hK.out _ _ hS (fun hHeld => ?_)
            clear hK K
            try simp only [Act.put]
            refine wpAnyH_take (i := 8) (oi := { dst := some 9, op := Go.Op.assign (Go.Operand.tmp 36), type := 3, pos := "law.go:22", after := #[{ on := 5, ground := Go.Ground.data }, { on := 7, ground := Go.Ground.chain }, { on := 0, ground := Go.Ground.phase }, { on := 1, ground := Go.Ground.phase }, { on := 2, ground := Go.Ground.phase }, { on := 3, ground := Go.Ground.phase }, { on := 4, ground := Go.Ground.phase }, { on := 5, ground := Go.Ground.phase }, { on := 6, ground := Go.Ground.phase }, { on := 7, ground := Go.Ground.phase }], guard := none }) (v := ?_) rfl (by kernel_rfl) (by kernel_rfl) (by kernel_rfl) (fun _ _ _ h => nomatch h.1) (Or.inl ⟨by rfl, ?_⟩) hHeld ?_
            rotate_left
            · intro W hSw
              go_simp
              try with_reducible rfl
            try simp only [Act.put, List.setIfInBounds_toArray, List.set_cons_zero, List.set_cons_succ]
            refine wpAnyH_done (by kernel_rfl) ?_ _
            refine ⟨rfl, _, _, hX, ?_, hvn⟩
            rfl
          exact AllReadyH.nil
        exact AllReadyH.nil
      exact AllReadyH.nil
    refine AllReadyH.cons (o := { dst := some 8, op := Go.Op.alloc 29, type := 0, pos := "law.go:22", after := #[], guard := none }) rfl (fun K hK => ?_) ?_
    · go_simp
      obtain ⟨v6, hvv6⟩ : ∃ x, ((wr4.alloc (.cells #[.string ⟨#[]⟩, .bool false, .bool false, .bool false, .bool false, .bool false, .bool false, .slice none 0 0, .slice none 0 0, .bool false, .slice none 0 0, .int .i64 0, .int .i64 0, .bool false, .int .i64 0, .slice none 0 0, .string ⟨#[]⟩, .int .i64 0] 29)).drew) = x := ⟨_, rfl⟩
      have kz0 := Blk.new wr4 29 zeroC
      have kz : Blk v6 wr4.heap.size 29 zeroC := hvv6 ▸ (show Blk ((wr4.alloc (.cells #[.string ⟨#[]⟩, .bool false, .bool false, .bool false, .bool false, .bool false, .bool false, .slice none 0 0, .slice none 0 0, .bool false, .slice none 0 0, .int .i64 0, .int .i64 0, .bool false, .int .i64 0, .slice none 0 0, .string ⟨#[]⟩, .int .i64 0] 29)).drew) _ _ _ from kz0)
      have zge : wr4.heap.size ≤ wr4.heap.size := hHeld.bl.size
      have hS : Sg w [(g4, Cg.th G4), (g3, Cg.th G3), (g2, Cg.th G2), (g1, Cg.th fxC)] wr4 v6 := hvv6 ▸ (show Sg w [(g4, Cg.th G4), (g3, Cg.th G3), (g2, Cg.th G2), (g1, Cg.th fxC)] wr4 ((wr4.alloc (.cells #[.string ⟨#[]⟩, .bool false, .bool false, .bool false, .bool false, .bool false, .bool false, .slice none 0 0, .slice none 0 0, .bool false, .slice none 0 0, .int .i64 0, .int .i64 0, .bool false, .int .i64 0, .slice none 0 0, .string ⟨#[]⟩, .int .i64 0] 29)).drew) from hHeld.alloc (.cells zeroC 29))
      rw [hvv6]
      clear hvv6 hHeld kz0
      refine hK.out _ _ hS (fun hHeld => ?_)
      clear hK K
      try simp only [Act.put, List.setIfInBounds_toArray, List.set_cons_zero, List.set_cons_succ]
      refine wpAnyH_ready (rs := [1]) (by kernel_rfl) (by simp) ?_
      refine AllReadyH.cons (o := { dst := some 33, op := Go.Op.call { callee := Go.Callee.value (Go.Operand.func 20), args := #[Go.Operand.const (Go.Value.int Go.IntKind.i64 4)], argTypes := #[3] }, type := 9, pos := "law.go:22", after := #[], guard := none }) rfl (fun K hK => ?_) ?_
      · go_simp
        refine (HP4.out _).mono ?_
        rintro e v7 ⟨rfl, hq⟩
        have hS := hHeld.next hq
        have kz := kz.next hq
        clear hq hHeld
        dsimp only
        refine hK.out _ _ hS (fun hHeld => ?_)
        clear hK K
        try simp only [Act.put, List.setIfInBounds_toArray, List.set_cons_zero, List.set_cons_succ]
        refine wpAnyH_ready (rs := [2]) (by kernel_rfl) (by simp) ?_
        refine AllReadyH.cons (o := { dst := some 34, op := Go.Op.call { callee := Go.Callee.value (Go.Operand.func 11), args := #[Go.Operand.tmp 32, Go.Operand.tmp 33], argTypes := #[29, 9] }, type := 31, pos := "law.go:22", after := #[{ on := 0, ground := Go.Ground.data }, { on := 1, ground := Go.Ground.data }, { on := 1, ground := Go.Ground.chain }], guard := none }) rfl (fun K hK => ?_) ?_
        · go_simp
          refine (HA.out _ hHeld.vs).mono ?_
          rintro e v8 ⟨G, hX, rfl, hO, hq⟩
          have hS := hHeld.next hq
          have og := hO.ofs kz.lt
          have kz := kz.next hq
          have oq : ∀ q ∈ ([(g4, Cg.th G4), (g3, Cg.th G3), (g2, Cg.th G2), (g1, Cg.th fxC)] : List (Nat × Th)), G.Ofs q.1 := fun q hq => hO.ofs (hHeld.vs.lt hq)
          have hG := hO.at (Nat.le_refl _)
          clear hO hq hHeld
          dsimp only
          refine hK.out _ _ hS (fun hHeld => ?_)
          clear hK K
          try simp only [Act.put, List.setIfInBounds_toArray, List.set_cons_zero, List.set_cons_succ]
          refine wpAnyH_take (i := 3) (oi := { dst := some 31, op := Go.Op.move (Go.Operand.tmp 34), type := 31, pos := "law.go:22", after := #[{ on := 2, ground := Go.Ground.data }], guard := none }) (v := ?_) rfl (by kernel_rfl) (by kernel_rfl) (by kernel_rfl) (fun _ _ _ h => nomatch h.1) (Or.inl ⟨by rfl, ?_⟩) hHeld ?_
          rotate_left
          · intro W hSw
            go_simp
            try with_reducible rfl
          try simp only [Act.put, List.setIfInBounds_toArray, List.set_cons_zero, List.set_cons_succ]
          refine wpAnyH_take (i := 4) (oi := { dst := some 35, op := Go.Op.extract (Go.Operand.tmp 31) 0, type := 29, pos := "law.go:22", after := #[{ on := 3, ground := Go.Ground.data }], guard := none }) (v := ?_) rfl (by kernel_rfl) (by kernel_rfl) (by kernel_rfl) (fun _ _ _ h => nomatch h.1) (Or.inl ⟨by rfl, ?_⟩) hHeld ?_
          rotate_left
          · intro W hSw
            go_simp
            try with_reducible rfl
          try simp only [Act.put, List.setIfInBounds_toArray, List.set_cons_zero, List.set_cons_succ]
          refine wpAnyH_take (i := 5) (oi := { dst := some 36, op := Go.Op.extract (Go.Operand.tmp 31) 1, type := 3, pos := "law.go:22", after := #[{ on := 3, ground := Go.Ground.data }, { on := 7, ground := Go.Ground.gcOnly Go.Departure.lateStores }], guard := none }) (v := ?_) rfl (by kernel_rfl) (by kernel_rfl) (by kernel_rfl) (fun _ _ _ h => nomatch h.1) (Or.inl ⟨by rfl, ?_⟩) hHeld ?_
          rotate_left
          · intro W hSw
            go_simp
            try with_reducible rfl
          try simp only [Act.put, List.setIfInBounds_toArray, List.set_cons_zero, List.set_cons_succ]
          refine wpAnyH_ready (rs := [7]) (by kernel_rfl) (by simp) ?_
          refine AllReadyH.cons (o := { dst := none, op := Go.Op.store 29 (Go.Operand.tmp 8) (Go.Operand.tmp 35), type := 0, pos := "law.go:22", after := #[{ on := 6, ground := Go.Ground.data }, { on := 4, ground := Go.Ground.data }, { on := 2, ground := Go.Ground.chain }, { on := 0, ground := Go.Ground.phase }, { on := 1, ground := Go.Ground.phase }, { on := 2, ground := Go.Ground.phase }, { on := 3, ground := Go.Ground.phase }, { on := 4, ground := Go.Ground.phase }, { on := 5, ground := Go.Ground.textOnly Go.Departure.lateStores }, { on := 6, ground := Go.Ground.phase }], guard := none }) rfl (fun K hK => ?_) ?_
          · have hvn := hHeld.vs.var (W := wr4) hv zge kz rfl hG og oq
            have hS : Sg w [(g4, Cg.th G4), (g3, Cg.th G3), (g2, Cg.th G2), (g1, Cg.th fxC)] wr4 (v8.setCells (wr4.heap.size) 0 G.cells.toList) := ⟨hvn.less (by simp), below_puts hHeld.bl hHeld.bl.size zge 0 _⟩
            rw [if_pos (by rfl)]
            refine wp_store_mid 29 (.tmp 8) (.tmp 35) rfl (wr4.heap.size) 0 G.cells rfl rfl (there_of_blk kz 0 _ (Nat.le_refl 18)) Try.size29 (by simp [Cg.cells, Value.oneCell']) ?_
            refine hK.out _ _ hS (fun hHeld => ?_)
            clear hK K
            try simp only [Act.put]
            refine wpAnyH_take (i := 8) (oi := { dst := some 9, op := Go.Op.assign (Go.Operand.tmp 36), type := 3, pos := "law.go:22", after := #[{ on := 5, ground := Go.Ground.data }, { on := 7, ground := Go.Ground.chain }, { on := 0, ground := Go.Ground.phase }, { on := 1, ground := Go.Ground.phase }, { on := 2, ground := Go.Ground.phase }, { on := 3, ground := Go.Ground.phase }, { on := 4, ground := Go.Ground.phase }, { on := 5, ground := Go.Ground.phase }, { on := 6, ground := Go.Ground.phase }, { on := 7, ground := Go.Ground.phase }], guard := none }) (v := ?_) rfl (by kernel_rfl) (by kernel_rfl) (by kernel_rfl) (fun _ _ _ h => nomatch h.1) (Or.inl ⟨by rfl, ?_⟩) hHeld ?_
            rotate_left
            · intro W hSw
              go_simp
              try with_reducible rfl
            try simp only [Act.put, List.setIfInBounds_toArray, List.set_cons_zero, List.set_cons_succ]
            refine wpAnyH_done (by kernel_rfl) ?_ _
            refine ⟨rfl, _, _, hX, ?_, hvn⟩
            rfl
          exact AllReadyH.nil
        exact AllReadyH.nil
      exact AllReadyH.nil
    exact AllReadyH.nil
  rintro a' wr5 ⟨g5, G5, hX5, rfl, hvn⟩
  clear hv HA HB4 HP4
  have hv := hvn
  clear hvn
  simp only [Act.put, List.setIfInBounds_toArray, List.set_cons_zero, List.set_cons_succ]
  have HA := Lib.hid (fun W (h : Vs w [(g5, Cg.th G5), (g4, Cg.th G4), (g3, Cg.th G3), (g2, Cg.th G2), (g1, Cg.th fxC)] W) => HB5.out g1 _ W h (show (g1, Cg.th fxC) ∈ ([(g5, Cg.th G5), (g4, Cg.th G4), (g3, Cg.th G3), (g2, Cg.th G2), (g1, Cg.th fxC)] : List (Nat × Th)) by simp))
  go_wp2_with fail
  refine region_cut (fun a a' w' => ∃ (g : Nat) (G : Cg), Cg.Same X5 G ∧ a' = ((((((((a.put (some 38) (.agg (Cg.cells fxC))).put (some 39) (.string q5)).put (some 40) (.tuple #[.agg G.cells, .int .i64 (1)])).put (some 37) (.tuple #[.agg G.cells, .int .i64 (1)])).put (some 41) (.agg G.cells)).put (some 42) (.int .i64 (1))).put (some 10) (.pointer (some ⟨g, 0, none⟩))).put (some 11) (.int .i64 (1))) ∧ Vs w ((g, G.th) :: [(g5, Cg.th G5), (g4, Cg.th G4), (g3, Cg.th G3), (g2, Cg.th G2), (g1, Cg.th fxC)]) w') ?_ ?_
  · refine wp_region_held_drew (S := Sg w [(g5, Cg.th G5), (g4, Cg.th G4), (g3, Cg.th G3), (g2, Cg.th G2), (g1, Cg.th fxC)] wr5) (by kernel_rfl) (Sg.start hv) (fun hHeld => ?_)
    refine wpAnyH_take (i := 0) (oi := { dst := some 38, op := Go.Op.load 29 (Go.Operand.tmp 1), type := 29, pos := "law.go:23", after := #[], guard := none }) (v := .agg (Cg.cells fxC)) rfl (by kernel_rfl) (by kernel_rfl) (by kernel_rfl) (fun _ _ _ h => nomatch h.1) (yieldsIf_load_mid (by rfl) 29 (.tmp 1) rfl _ 0 rfl (Cg.cells fxC).toList _ (row_cfg (show (g1, Cg.th fxC) ∈ ([(g5, Cg.th G5), (g4, Cg.th G4), (g3, Cg.th G3), (g2, Cg.th G2), (g1, Cg.th fxC)] : List (Nat × Th)) by simp)) Try.underlying29 rfl Try.size29) hHeld ?_
    try simp only [Act.put, List.setIfInBounds_toArray, List.set_cons_zero, List.set_cons_succ]
    refine wpAnyH_ready (rs := [1, 6]) (by kernel_rfl) (by simp) ?_
    refine AllReadyH.cons (o := { dst := some 39, op := Go.Op.call { callee := Go.Callee.value (Go.Operand.func 20), args := #[Go.Operand.const (Go.Value.int Go.IntKind.i64 5)], argTypes := #[3] }, type := 9, pos := "law.go:23", after := #[], guard := none }) rfl (fun K hK => ?_) ?_
    · go_simp
      refine (HP5.out _).mono ?_
      rintro e v1 ⟨rfl, hq⟩
      have hS := hHeld.next hq
      clear hq hHeld
      dsimp only
      refine hK.out _ _ hS (fun hHeld => ?_)
      clear hK K
      try simp only [Act.put, List.setIfInBounds_toArray, List.set_cons_zero, List.set_cons_succ]
      refine wpAnyH_ready (rs := [2, 6]) (by kernel_rfl) (by simp) ?_
      refine AllReadyH.cons (o := { dst := some 40, op := Go.Op.call { callee := Go.Callee.value (Go.Operand.func 11), args := #[Go.Operand.tmp 38, Go.Operand.tmp 39], argTypes := #[29, 9] }, type := 31, pos := "law.go:23", after := #[{ on := 0, ground := Go.Ground.data }, { on := 1, ground := Go.Ground.data }, { on := 1, ground := Go.Ground.chain }], guard := none }) rfl (fun K hK => ?_) ?_
      · go_simp
        refine (HA.out _ hHeld.vs).mono ?_
        rintro e v2 ⟨G, hX, rfl, hO, hq⟩
        have hS := hHeld.next hq
        have oq : ∀ q ∈ ([(g5, Cg.th G5), (g4, Cg.th G4), (g3, Cg.th G3), (g2, Cg.th G2), (g1, Cg.th fxC)] : List (Nat × Th)), G.Ofs q.1 := fun q hq => hO.ofs (hHeld.vs.lt hq)
        have hG := hO.at (Nat.le_refl _)
        clear hO hq hHeld
        dsimp only
        refine hK.out _ _ hS (fun hHeld => ?_)
        clear hK K
        try simp only [Act.put, List.setIfInBounds_toArray, List.set_cons_zero, List.set_cons_succ]
        refine wpAnyH_take (i := 3) (oi := { dst := some 37, op := Go.Op.move (Go.Operand.tmp 40), type := 31, pos := "law.go:23", after := #[{ on := 2, ground := Go.Ground.data }], guard := none }) (v := ?_) rfl (by kernel_rfl) (by kernel_rfl) (by kernel_rfl) (fun _ _ _ h => nomatch h.1) (Or.inl ⟨by rfl, ?_⟩) hHeld ?_
        rotate_left
        · intro W hSw
          go_simp
          try with_reducible rfl
        try simp only [Act.put, List.setIfInBounds_toArray, List.set_cons_zero, List.set_cons_succ]
        refine wpAnyH_take (i := 4) (oi := { dst := some 41, op := Go.Op.extract (Go.Operand.tmp 37) 0, type := 29, pos := "law.go:23", after := #[{ on := 3, ground := Go.Ground.data }], guard := none }) (v := ?_) rfl (by kernel_rfl) (by kernel_rfl) (by kernel_rfl) (fun _ _ _ h => nomatch h.1) (Or.inl ⟨by rfl, ?_⟩) hHeld ?_
        rotate_left
        · intro W hSw
          go_simp
          try with_reducible rfl
        try simp only [Act.put, List.setIfInBounds_toArray, List.set_cons_zero, List.set_cons_succ]
        refine wpAnyH_take (i := 5) (oi := { dst := some 42, op := Go.Op.extract (Go.Operand.tmp 37) 1, type := 3, pos := "law.go:23", after := #[{ on := 3, ground := Go.Ground.data }, { on := 7, ground := Go.Ground.gcOnly Go.Departure.lateStores }], guard := none }) (v := ?_) rfl (by kernel_rfl) (by kernel_rfl) (by kernel_rfl) (fun _ _ _ h => nomatch h.1) (Or.inl ⟨by rfl, ?_⟩) hHeld ?_
        rotate_left
        · intro W hSw
          go_simp
          try with_reducible rfl
        try simp only [Act.put, List.setIfInBounds_toArray, List.set_cons_zero, List.set_cons_succ]
        refine wpAnyH_ready (rs := [6]) (by kernel_rfl) (by simp) ?_
        refine AllReadyH.cons (o := { dst := some 10, op := Go.Op.alloc 29, type := 0, pos := "law.go:23", after := #[], guard := none }) rfl (fun K hK => ?_) ?_
        · go_simp
          obtain ⟨v3, hvv3⟩ : ∃ x, (v2.alloc (.cells #[.string ⟨#[]⟩, .bool false, .bool false, .bool false, .bool false, .bool false, .bool false, .slice none 0 0, .slice none 0 0, .bool false, .slice none 0 0, .int .i64 0, .int .i64 0, .bool false, .int .i64 0, .slice none 0 0, .string ⟨#[]⟩, .int .i64 0] 29)) = x := ⟨_, rfl⟩
          have kz0 := Blk.new v2 29 zeroC
          have kz : Blk v3 v2.heap.size 29 zeroC := hvv3 ▸ (show Blk (v2.alloc (.cells #[.string ⟨#[]⟩, .bool false, .bool false, .bool false, .bool false, .bool false, .bool false, .slice none 0 0, .slice none 0 0, .bool false, .slice none 0 0, .int .i64 0, .int .i64 0, .bool false, .int .i64 0, .slice none 0 0, .string ⟨#[]⟩, .int .i64 0] 29)) _ _ _ from kz0)
          have zge : wr5.heap.size ≤ v2.heap.size := hHeld.bl.size
          have hS : Sg w [(g5, Cg.th G5), (g4, Cg.th G4), (g3, Cg.th G3), (g2, Cg.th G2), (g1, Cg.th fxC)] wr5 v3 := hvv3 ▸ (show Sg w [(g5, Cg.th G5), (g4, Cg.th G4), (g3, Cg.th G3), (g2, Cg.th G2), (g1, Cg.th fxC)] wr5 (v2.alloc (.cells #[.string ⟨#[]⟩, .bool false, .bool false, .bool false, .bool false, .bool false, .bool false, .slice none 0 0, .slice none 0 0, .bool false, .slice none 0 0, .int .i64 0, .int .i64 0, .bool false, .int .i64 0, .slice none 0 0, .string ⟨#[]⟩, .int .i64 0] 29)) from hHeld.alloc (.cells zeroC 29))
          have og := hG.ofs (Nat.le_refl _)
          have hG : G.At v3.heap.size v3 := hvv3 ▸ (show G.At (World.heap (v2.alloc (.cells #[.string ⟨#[]⟩, .bool false, .bool false, .bool false, .bool false, .bool false, .bool false, .slice none 0 0, .slice none 0 0, .bool false, .slice none 0 0, .int .i64 0, .int .i64 0, .bool false, .int .i64 0, .slice none 0 0, .string ⟨#[]⟩, .int .i64 0] 29))).size (v2.alloc (.cells #[.string ⟨#[]⟩, .bool false, .bool false, .bool false, .bool false, .bool false, .bool false, .slice none 0 0, .slice none 0 0, .bool false, .slice none 0 0, .int .i64 0, .int .i64 0, .bool false, .int .i64 0, .slice none 0 0, .string ⟨#[]⟩, .int .i64 0] 29)) from hG.alloc (.cells zeroC 29))
          rw [hvv3]
          clear hvv3 hHeld kz0
          refine hK.out _ _ hS (fun hHeld => ?_)
          clear hK K
          try simp only [Act.put, List.setIfInBounds_toArray, List.set_cons_zero, List.set_cons_succ]
          refine wpAnyH_ready (rs := [7]) (by kernel_rfl) (by simp) ?_
          refine AllReadyH.cons (o := { dst := none, op := Go.Op.store 29 (Go.Operand.tmp 10) (Go.Operand.tmp 41), type := 0, pos := "law.go:23", after := #[{ on := 6, ground := Go.Ground.data }, { on := 4, ground := Go.Ground.data }, { on := 2, ground := Go.Ground.chain }, { on := 0, ground := Go.Ground.phase }, { on := 1, ground := Go.Ground.phase }, { on := 2, ground := Go.Ground.phase }, { on := 3, ground := Go.Ground.phase }, { on := 4, ground := Go.Ground.phase }, { on := 5, ground := Go.Ground.textOnly Go.Departure.lateStores }, { on := 6, ground := Go.Ground.phase }], guard := none }) rfl (fun K hK => ?_) ?_
          · have hvn := hHeld.vs.var (W := wr5) hv zge kz rfl hG og oq
            have hS : Sg w [(g5, Cg.th G5), (g4, Cg.th G4), (g3, Cg.th G3), (g2, Cg.th G2), (g1, Cg.th fxC)] wr5 (v3.setCells (v2.heap.size) 0 G.cells.toList) := ⟨hvn.less (by simp), below_puts hHeld.bl hHeld.bl.size zge 0 _⟩
            rw [if_pos (by rfl)]
            refine wp_store_mid 29 (.tmp 10) (.tmp 41) rfl (v2.heap.size) 0 G.cells rfl rfl (there_of_blk kz 0 _ (Nat.le_refl 18)) Try.size29 (by simp [Cg.cells, Value.oneCell']) ?_
            refine hK.out _ _ hS (fun hHeld => ?_)
            clear hK K
            try simp only [Act.put]
            refine wpAnyH_take (i := 8) (oi := { dst := some 11, op := Go.Op.assign (Go.Operand.tmp 42), type := 3, pos := "law.go:23", after := #[{ on := 5, ground := Go.Ground.data }, { on := 7, ground := Go.Ground.chain }, { on := 0, ground := Go.Ground.phase }, { on := 1, ground := Go.Ground.phase }, { on := 2, ground := Go.Ground.phase }, { on := 3, ground := Go.Ground.phase }, { on := 4, ground := Go.Ground.phase }, { on := 5, ground := Go.Ground.phase }, { on := 6, ground := Go.Ground.phase }, { on := 7, ground := Go.Ground.phase }], guard := none }) (v := ?_) rfl (by kernel_rfl) (by kernel_rfl) (by kernel_rfl) (fun _ _ _ h => nomatch h.1) (Or.inl ⟨by rfl, ?_⟩) hHeld ?_
            rotate_left
            · intro W hSw
              go_simp
              try with_reducible rfl
            try simp only [Act.put, List.setIfInBounds_toArray, List.set_cons_zero, List.set_cons_succ]
            refine wpAnyH_done (by kernel_rfl) ?_ _
            refine ⟨rfl, _, _, hX, ?_, hvn⟩
            rfl
          exact AllReadyH.nil
        exact AllReadyH.nil
      refine AllReadyH.cons (o := { dst := some 10, op := Go.Op.alloc 29, type := 0, pos := "law.go:23", after := #[], guard := none }) rfl (fun K hK => ?_) ?_
      · go_simp
        obtain ⟨v4, hvv4⟩ : ∃ x, (v1.alloc (.cells #[.string ⟨#[]⟩, .bool false, .bool false, .bool false, .bool false, .bool false, .bool false, .slice none 0 0, .slice none 0 0, .bool false, .slice none 0 0, .int .i64 0, .int .i64 0, .bool false, .int .i64 0, .slice none 0 0, .string ⟨#[]⟩, .int .i64 0] 29)) = x := ⟨_, rfl⟩
        have kz0 := Blk.new v1 29 zeroC
        have kz : Blk v4 v1.heap.size 29 zeroC := hvv4 ▸ (show Blk (v1.alloc (.cells #[.string ⟨#[]⟩, .bool false, .bool false, .bool false, .bool false, .bool false, .bool false, .slice none 0 0, .slice none 0 0, .bool false, .slice none 0 0, .int .i64 0, .int .i64 0, .bool false, .int .i64 0, .slice none 0 0, .string ⟨#[]⟩, .int .i64 0] 29)) _ _ _ from kz0)
        have zge : wr5.heap.size ≤ v1.heap.size := hHeld.bl.size
        have hS : Sg w [(g5, Cg.th G5), (g4, Cg.th G4), (g3, Cg.th G3), (g2, Cg.th G2), (g1, Cg.th fxC)] wr5 v4 := hvv4 ▸ (show Sg w [(g5, Cg.th G5), (g4, Cg.th G4), (g3, Cg.th G3), (g2, Cg.th G2), (g1, Cg.th fxC)] wr5 (v1.alloc (.cells #[.string ⟨#[]⟩, .bool false, .bool false, .bool false, .bool false, .bool false, .bool false, .slice none 0 0, .slice none 0 0, .bool false, .slice none 0 0, .int .i64 0, .int .i64 0, .bool false, .int .i64 0, .slice none 0 0, .string ⟨#[]⟩, .int .i64 0] 29)) from hHeld.alloc (.cells zeroC 29))
        rw [hvv4]
        clear hvv4 hHeld kz0
        refine hK.out _ _ hS (fun hHeld => ?_)
        clear hK K
        try simp only [Act.put, List.setIfInBounds_toArray, List.set_cons_zero, List.set_cons_succ]
        refine wpAnyH_ready (rs := [2]) (by kernel_rfl) (by simp) ?_
        refine AllReadyH.cons (o := { dst := some 40, op := Go.Op.call { callee := Go.Callee.value (Go.Operand.func 11), args := #[Go.Operand.tmp 38, Go.Operand.tmp 39], argTypes := #[29, 9] }, type := 31, pos := "law.go:23", after := #[{ on := 0, ground := Go.Ground.data }, { on := 1, ground := Go.Ground.data }, { on := 1, ground := Go.Ground.chain }], guard := none }) rfl (fun K hK => ?_) ?_
        · go_simp
          refine (HA.out _ hHeld.vs).mono ?_
          rintro e v5 ⟨G, hX, rfl, hO, hq⟩
          have hS := hHeld.next hq
          have og := hO.ofs kz.lt
          have kz := kz.next hq
          have oq : ∀ q ∈ ([(g5, Cg.th G5), (g4, Cg.th G4), (g3, Cg.th G3), (g2, Cg.th G2), (g1, Cg.th fxC)] : List (Nat × Th)), G.Ofs q.1 := fun q hq => hO.ofs (hHeld.vs.lt hq)
          have hG := hO.at (Nat.le_refl _)
          clear hO hq hHeld
          dsimp only
          refine hK.out _ _ hS (fun hHeld => ?_)
          clear hK K
          try simp only [Act.put, List.setIfInBounds_toArray, List.set_cons_zero, List.set_cons_succ]
          refine wpAnyH_take (i := 3) (oi := { dst := some 37, op := Go.Op.move (Go.Operand.tmp 40), type := 31, pos := "law.go:23", after := #[{ on := 2, ground := Go.Ground.data }], guard := none }) (v := ?_) rfl (by kernel_rfl) (by kernel_rfl) (by kernel_rfl) (fun _ _ _ h => nomatch h.1) (Or.inl ⟨by rfl, ?_⟩) hHeld ?_
          rotate_left
          · intro W hSw
            go_simp
            try with_reducible rfl
          try simp only [Act.put, List.setIfInBounds_toArray, List.set_cons_zero, List.set_cons_succ]
          refine wpAnyH_take (i := 4) (oi := { dst := some 41, op := Go.Op.extract (Go.Operand.tmp 37) 0, type := 29, pos := "law.go:23", after := #[{ on := 3, ground := Go.Ground.data }], guard := none }) (v := ?_) rfl (by kernel_rfl) (by kernel_rfl) (by kernel_rfl) (fun _ _ _ h => nomatch h.1) (Or.inl ⟨by rfl, ?_⟩) hHeld ?_
          rotate_left
          · intro W hSw
            go_simp
            try with_reducible rfl
          try simp only [Act.put, List.setIfInBounds_toArray, List.set_cons_zero, List.set_cons_succ]
          refine wpAnyH_take (i := 5) (oi := { dst := some 42, op := Go.Op.extract (Go.Operand.tmp 37) 1, type := 3, pos := "law.go:23", after := #[{ on := 3, ground := Go.Ground.data }, { on := 7, ground := Go.Ground.gcOnly Go.Departure.lateStores }], guard := none }) (v := ?_) rfl (by kernel_rfl) (by kernel_rfl) (by kernel_rfl) (fun _ _ _ h => nomatch h.1) (Or.inl ⟨by rfl, ?_⟩) hHeld ?_
          rotate_left
          · intro W hSw
            go_simp
            try with_reducible rfl
          try simp only [Act.put, List.setIfInBounds_toArray, List.set_cons_zero, List.set_cons_succ]
          refine wpAnyH_ready (rs := [7]) (by kernel_rfl) (by simp) ?_
          refine AllReadyH.cons (o := { dst := none, op := Go.Op.store 29 (Go.Operand.tmp 10) (Go.Operand.tmp 41), type := 0, pos := "law.go:23", after := #[{ on := 6, ground := Go.Ground.data }, { on := 4, ground := Go.Ground.data }, { on := 2, ground := Go.Ground.chain }, { on := 0, ground := Go.Ground.phase }, { on := 1, ground := Go.Ground.phase }, { on := 2, ground := Go.Ground.phase }, { on := 3, ground := Go.Ground.phase }, { on := 4, ground := Go.Ground.phase }, { on := 5, ground := Go.Ground.textOnly Go.Departure.lateStores }, { on := 6, ground := Go.Ground.phase }], guard := none }) rfl (fun K hK => ?_) ?_
          · have hvn := hHeld.vs.var (W := wr5) hv zge kz rfl hG og oq
            have hS : Sg w [(g5, Cg.th G5), (g4, Cg.th G4), (g3, Cg.th G3), (g2, Cg.th G2), (g1, Cg.th fxC)] wr5 (v5.setCells (v1.heap.size) 0 G.cells.toList) := ⟨hvn.less (by simp), below_puts hHeld.bl hHeld.bl.size zge 0 _⟩
            rw [if_pos (by rfl)]
            refine wp_store_mid 29 (.tmp 10) (.tmp 41) rfl (v1.heap.size) 0 G.cells rfl rfl (there_of_blk kz 0 _ (Nat.le_refl 18)) Try.size29 (by simp [Cg.cells, Value.oneCell']) ?_
            refine hK.out _ _ hS (fun hHeld => ?_)
            clear hK K
            try simp only [Act.put]
            refine wpAnyH_take (i := 8) (oi := { dst := some 11, op := Go.Op.assign (Go.Operand.tmp 42), type := 3, pos := "law.go:23", after := #[{ on := 5, ground := Go.Ground.data }, { on := 7, ground := Go.Ground.chain }, { on := 0, ground := Go.Ground.phase }, { on := 1, ground := Go.Ground.phase }, { on := 2, ground := Go.Ground.phase }, { on := 3, ground := Go.Ground.phase }, { on := 4, ground := Go.Ground.phase }, { on := 5, ground := Go.Ground.phase }, { on := 6, ground := Go.Ground.phase }, { on := 7, ground := Go.Ground.phase }], guard := none }) (v := ?_) rfl (by kernel_rfl) (by kernel_rfl) (by kernel_rfl) (fun _ _ _ h => nomatch h.1) (Or.inl ⟨by rfl, ?_⟩) hHeld ?_
            rotate_left
            · intro W hSw
              go_simp
              try with_reducible rfl
            try simp only [Act.put, List.setIfInBounds_toArray, List.set_cons_zero, List.set_cons_succ]
            refine wpAnyH_done (by kernel_rfl) ?_ _
            refine ⟨rfl, _, _, hX, ?_, hvn⟩
            rfl
          exact AllReadyH.nil
        exact AllReadyH.nil
      exact AllReadyH.nil
    refine AllReadyH.cons (o := { dst := some 10, op := Go.Op.alloc 29, type := 0, pos := "law.go:23", after := #[], guard := none }) rfl (fun K hK => ?_) ?_
    · go_simp
      obtain ⟨v6, hvv6⟩ : ∃ x, ((wr5.alloc (.cells #[.string ⟨#[]⟩, .bool false, .bool false, .bool false, .bool false, .bool false, .bool false, .slice none 0 0, .slice none 0 0, .bool false, .slice none 0 0, .int .i64 0, .int .i64 0, .bool false, .int .i64 0, .slice none 0 0, .string ⟨#[]⟩, .int .i64 0] 29)).drew) = x := ⟨_, rfl⟩
      have kz0 := Blk.new wr5 29 zeroC
      have kz : Blk v6 wr5.heap.size 29 zeroC := hvv6 ▸ (show Blk ((wr5.alloc (.cells #[.string ⟨#[]⟩, .bool false, .bool false, .bool false, .bool false, .bool false, .bool false, .slice none 0 0, .slice none 0 0, .bool false, .slice none 0 0, .int .i64 0, .int .i64 0, .bool false, .int .i64 0, .slice none 0 0, .string ⟨#[]⟩, .int .i64 0] 29)).drew) _ _ _ from kz0)
      have zge : wr5.heap.size ≤ wr5.heap.size := hHeld.bl.size
      have hS : Sg w [(g5, Cg.th G5), (g4, Cg.th G4), (g3, Cg.th G3), (g2, Cg.th G2), (g1, Cg.th fxC)] wr5 v6 := hvv6 ▸ (show Sg w [(g5, Cg.th G5), (g4, Cg.th G4), (g3, Cg.th G3), (g2, Cg.th G2), (g1, Cg.th fxC)] wr5 ((wr5.alloc (.cells #[.string ⟨#[]⟩, .bool false, .bool false, .bool false, .bool false, .bool false, .bool false, .slice none 0 0, .slice none 0 0, .bool false, .slice none 0 0, .int .i64 0, .int .i64 0, .bool false, .int .i64 0, .slice none 0 0, .string ⟨#[]⟩, .int .i64 0] 29)).drew) from hHeld.alloc (.cells zeroC 29))
      rw [hvv6]
      clear hvv6 hHeld kz0
      refine hK.out _ _ hS (fun hHeld => ?_)
      clear hK K
      try simp only [Act.put, List.setIfInBounds_toArray, List.set_cons_zero, List.set_cons_succ]
      refine wpAnyH_ready (rs := [1]) (by kernel_rfl) (by simp) ?_
      refine AllReadyH.cons (o := { dst := some 39, op := Go.Op.call { callee := Go.Callee.value (Go.Operand.func 20), args := #[Go.Operand.const (Go.Value.int Go.IntKind.i64 5)], argTypes := #[3] }, type := 9, pos := "law.go:23", after := #[], guard := none }) rfl (fun K hK => ?_) ?_
      · go_simp
        refine (HP5.out _).mono ?_
        rintro e v7 ⟨rfl, hq⟩
        have hS := hHeld.next hq
        have kz := kz.next hq
        clear hq hHeld
        dsimp only
        refine hK.out _ _ hS (fun hHeld => ?_)
        clear hK K
        try simp only [Act.put, List.setIfInBounds_toArray, List.set_cons_zero, List.set_cons_succ]
        refine wpAnyH_ready (rs := [2]) (by kernel_rfl) (by simp) ?_
        refine AllReadyH.cons (o := { dst := some 40, op := Go.Op.call { callee := Go.Callee.value (Go.Operand.func 11), args := #[Go.Operand.tmp 38, Go.Operand.tmp 39], argTypes := #[29, 9] }, type := 31, pos := "law.go:23", after := #[{ on := 0, ground := Go.Ground.data }, { on := 1, ground := Go.Ground.data }, { on := 1, ground := Go.Ground.chain }], guard := none }) rfl (fun K hK => ?_) ?_
        · go_simp
          refine (HA.out _ hHeld.vs).mono ?_
          rintro e v8 ⟨G, hX, rfl, hO, hq⟩
          have hS := hHeld.next hq
          have og := hO.ofs kz.lt
          have kz := kz.next hq
          have oq : ∀ q ∈ ([(g5, Cg.th G5), (g4, Cg.th G4), (g3, Cg.th G3), (g2, Cg.th G2), (g1, Cg.th fxC)] : List (Nat × Th)), G.Ofs q.1 := fun q hq => hO.ofs (hHeld.vs.lt hq)
          have hG := hO.at (Nat.le_refl _)
          clear hO hq hHeld
          dsimp only
          refine hK.out _ _ hS (fun hHeld => ?_)
          clear hK K
          try simp only [Act.put, List.setIfInBounds_toArray, List.set_cons_zero, List.set_cons_succ]
          refine wpAnyH_take (i := 3) (oi := { dst := some 37, op := Go.Op.move (Go.Operand.tmp 40), type := 31, pos := "law.go:23", after := #[{ on := 2, ground := Go.Ground.data }], guard := none }) (v := ?_) rfl (by kernel_rfl) (by kernel_rfl) (by kernel_rfl) (fun _ _ _ h => nomatch h.1) (Or.inl ⟨by rfl, ?_⟩) hHeld ?_
          rotate_left
          · intro W hSw
            go_simp
            try with_reducible rfl
          try simp only [Act.put, List.setIfInBounds_toArray, List.set_cons_zero, List.set_cons_succ]
          refine wpAnyH_take (i := 4) (oi := { dst := some 41, op := Go.Op.extract (Go.Operand.tmp 37) 0, type := 29, pos := "law.go:23", after := #[{ on := 3, ground := Go.Ground.data }], guard := none }) (v := ?_) rfl (by kernel_rfl) (by kernel_rfl) (by kernel_rfl) (fun _ _ _ h => nomatch h.1) (Or.inl ⟨by rfl, ?_⟩) hHeld ?_
          rotate_left
          · intro W hSw
            go_simp
            try with_reducible rfl
          try simp only [Act.put, List.setIfInBounds_toArray, List.set_cons_zero, List.set_cons_succ]
          refine wpAnyH_take (i := 5) (oi := { dst := some 42, op := Go.Op.extract (Go.Operand.tmp 37) 1, type := 3, pos := "law.go:23", after := #[{ on := 3, ground := Go.Ground.data }, { on := 7, ground := Go.Ground.gcOnly Go.Departure.lateStores }], guard := none }) (v := ?_) rfl (by kernel_rfl) (by kernel_rfl) (by kernel_rfl) (fun _ _ _ h => nomatch h.1) (Or.inl ⟨by rfl, ?_⟩) hHeld ?_
          rotate_left
          · intro W hSw
            go_simp
            try with_reducible rfl
          try simp only [Act.put, List.setIfInBounds_toArray, List.set_cons_zero, List.set_cons_succ]
          refine wpAnyH_ready (rs := [7]) (by kernel_rfl) (by simp) ?_
          refine AllReadyH.cons (o := { dst := none, op := Go.Op.store 29 (Go.Operand.tmp 10) (Go.Operand.tmp 41), type := 0, pos := "law.go:23", after := #[{ on := 6, ground := Go.Ground.data }, { on := 4, ground := Go.Ground.data }, { on := 2, ground := Go.Ground.chain }, { on := 0, ground := Go.Ground.phase }, { on := 1, ground := Go.Ground.phase }, { on := 2, ground := Go.Ground.phase }, { on := 3, ground := Go.Ground.phase }, { on := 4, ground := Go.Ground.phase }, { on := 5, ground := Go.Ground.textOnly Go.Departure.lateStores }, { on := 6, ground := Go.Ground.phase }], guard := none }) rfl (fun K hK => ?_) ?_
          · have hvn := hHeld.vs.var (W := wr5) hv zge kz rfl hG og oq
            have hS : Sg w [(g5, Cg.th G5), (g4, Cg.th G4), (g3, Cg.th G3), (g2, Cg.th G2), (g1, Cg.th fxC)] wr5 (v8.setCells (wr5.heap.size) 0 G.cells.toList) := ⟨hvn.less (by simp), below_puts hHeld.bl hHeld.bl.size zge 0 _⟩
            rw [if_pos (by rfl)]
            refine wp_store_mid 29 (.tmp 10) (.tmp 41) rfl (wr5.heap.size) 0 G.cells rfl rfl (there_of_blk kz 0 _ (Nat.le_refl 18)) Try.size29 (by simp [Cg.cells, Value.oneCell']) ?_
            refine hK.out _ _ hS (fun hHeld => ?_)
            clear hK K
            try simp only [Act.put]
            refine wpAnyH_take (i := 8) (oi := { dst := some 11, op := Go.Op.assign (Go.Operand.tmp 42), type := 3, pos := "law.go:23", after := #[{ on := 5, ground := Go.Ground.data }, { on := 7, ground := Go.Ground.chain }, { on := 0, ground := Go.Ground.phase }, { on := 1, ground := Go.Ground.phase }, { on := 2, ground := Go.Ground.phase }, { on := 3, ground := Go.Ground.phase }, { on := 4, ground := Go.Ground.phase }, { on := 5, ground := Go.Ground.phase }, { on := 6, ground := Go.Ground.phase }, { on := 7, ground := Go.Ground.phase }], guard := none }) (v := ?_) rfl (by kernel_rfl) (by kernel_rfl) (by kernel_rfl) (fun _ _ _ h => nomatch h.1) (Or.inl ⟨by rfl, ?_⟩) hHeld ?_
            rotate_left
            · intro W hSw
              go_simp
              try with_reducible rfl
            try simp only [Act.put, List.setIfInBounds_toArray, List.set_cons_zero, List.set_cons_succ]
            refine wpAnyH_done (by kernel_rfl) ?_ _
            refine ⟨rfl, _, _, hX, ?_, hvn⟩
            rfl
          exact AllReadyH.nil
        exact AllReadyH.nil
      exact AllReadyH.nil
    exact AllReadyH.nil
  rintro a' wr6 ⟨g6, G6, hX6, rfl, hvn⟩
  clear hv HA HB5 HP5
  have hv := hvn
  clear hvn
  simp only [Act.put, List.setIfInBounds_toArray, List.set_cons_zero, List.set_cons_succ]
  have kc : Blk wr6 g1 29 (Cg.cells fxC) := hv.get (show (g1, Cg.th fxC) ∈ ([(g6, Cg.th G6), (g5, Cg.th G5), (g4, Cg.th G4), (g3, Cg.th G3), (g2, Cg.th G2), (g1, Cg.th fxC)] : List (Nat × Th)) by simp)
  have HKC := Lib.hid kc
  have HA := Lib.hid (fun W (h : Vs w [(g6, Cg.th G6), (g5, Cg.th G5), (g4, Cg.th G4), (g3, Cg.th G3), (g2, Cg.th G2), (g1, Cg.th fxC)] W) => HB6.out g1 _ W h (show (g1, Cg.th fxC) ∈ ([(g6, Cg.th G6), (g5, Cg.th G5), (g4, Cg.th G4), (g3, Cg.th G3), (g2, Cg.th G2), (g1, Cg.th fxC)] : List (Nat × Th)) by simp))
  clear kc
  go_wp2_with (first
    | fail
    | ((with_reducible refine lw_cfg HKC.out ?_ (.tmp 1) ?_ ?_ ?_); (· rfl); (· rfl); (· rfl); simp only [Act.put, List.setIfInBounds_toArray, List.set_cons_succ, List.set_cons_zero]))
  refine (HA.out _ hv).mono ?_
  rintro e w2 ⟨G7, hX7, rfl, hO, hq⟩
  have hvn := hv.app hO hq
  have kz := Blk.new w2 29 zeroC
  clear hO hq HKC HA HB6  hv
  obtain ⟨g7, hg⟩ : ∃ x, w2.heap.size = x := ⟨_, rfl⟩
  obtain ⟨wr7, hwr⟩ : ∃ x, ((w2.alloc (.cells #[.string ⟨#[]⟩, .bool false, .bool false, .bool false, .bool false, .bool false, .bool false, .slice none 0 0, .slice none 0 0, .bool false, .slice none 0 0, .int .i64 0, .int .i64 0, .bool false, .int .i64 0, .slice none 0 0, .string ⟨#[]⟩, .int .i64 0] 29)).setCells w2.heap.size 0 (Cg.cells G7).toList) = x := ⟨_, rfl⟩
  have hv : Vs w ((w2.heap.size, Cg.th G7) :: [(g6, Cg.th G6), (g5, Cg.th G5), (g4, Cg.th G4), (g3, Cg.th G3), (g2, Cg.th G2), (g1, Cg.th fxC)]) wr7 := hwr ▸ hvn
  rw [hg] at hv
  have HW := Lib.hid hwr
  have HZ := Lib.hid kz
  have HG := Lib.hid hg
  clear hwr kz hg hvn
  dsimp only
  have HS := Lib.hid (fun W (h : Vs w [(g7, Cg.th G7), (g6, Cg.th G6), (g5, Cg.th G5), (g4, Cg.th G4), (g3, Cg.th G3), (g2, Cg.th G2), (g1, Cg.th fxC)] W) => csame_yes G3 fxC W.heap.size W hX3.symm (h.at (show (g3, Cg.th G3) ∈ ([(g7, Cg.th G7), (g6, Cg.th G6), (g5, Cg.th G5), (g4, Cg.th G4), (g3, Cg.th G3), (g2, Cg.th G2), (g1, Cg.th fxC)] : List (Nat × Th)) by simp)) (h.at (show (g1, Cg.th fxC) ∈ ([(g7, Cg.th G7), (g6, Cg.th G6), (g5, Cg.th G5), (g4, Cg.th G4), (g3, Cg.th G3), (g2, Cg.th G2), (g1, Cg.th fxC)] : List (Nat × Th)) by simp)) (Nat.le_refl _) (Cg.Same.few hX3 fx_room.few))
  have k2 : Blk wr7 g2 29 (Cg.cells G2) := hv.get (show (g2, Cg.th G2) ∈ ([(g7, Cg.th G7), (g6, Cg.th G6), (g5, Cg.th G5), (g4, Cg.th G4), (g3, Cg.th G3), (g2, Cg.th G2), (g1, Cg.th fxC)] : List (Nat × Th)) by simp)
  have k3 : Blk wr7 g3 29 (Cg.cells G3) := hv.get (show (g3, Cg.th G3) ∈ ([(g7, Cg.th G7), (g6, Cg.th G6), (g5, Cg.th G5), (g4, Cg.th G4), (g3, Cg.th G3), (g2, Cg.th G2), (g1, Cg.th fxC)] : List (Nat × Th)) by simp)
  have kc : Blk wr7 g1 29 (Cg.cells fxC) := hv.get (show (g1, Cg.th fxC) ∈ ([(g7, Cg.th G7), (g6, Cg.th G6), (g5, Cg.th G5), (g4, Cg.th G4), (g3, Cg.th G3), (g2, Cg.th G2), (g1, Cg.th fxC)] : List (Nat × Th)) by simp)
  have a1 := k2.cell 1
  simp only [List.getElem?_toArray, List.getElem?_cons_zero, List.getElem?_cons_succ] at a1
  rw [hX2.f.pr, HR1.out] at a1
  have HK3 := Lib.hid k3
  have HKC := Lib.hid kc
  clear k2 k3 kc
  go_wp2_with (first
    | ((with_reducible refine sw_cfg (G := G7) HZ.out ?_ ?_ (.tmp 12) (.tmp 46) ?_ ?_ ?_ ?_); (· rfl); (· rfl); (· rfl); (· rfl); (· rfl); simp only [Act.put]; rw [HW.out]; rw [HG.out])
    | ((with_reducible refine lwg_cfg HK3.out ?_ (.tmp 4) ?_ ?_ ?_); (· rfl); (· rfl); (· rfl); simp only [Act.put, List.setIfInBounds_toArray, List.set_cons_succ, List.set_cons_zero])
    | ((with_reducible refine lwg_cfg HKC.out ?_ (.tmp 1) ?_ ?_ ?_); (· rfl); (· rfl); (· rfl); simp only [Act.put, List.setIfInBounds_toArray, List.set_cons_succ, List.set_cons_zero]))
  refine (HS.out _ hv).mono ?_
  rintro e w5 ⟨rfl, hq⟩
  replace hv := hv.next hq
  clear hq HS HK3 HKC a1 HW HZ HG
  have k4 : Blk w5 g4 29 (Cg.cells G4) := hv.get (show (g4, Cg.th G4) ∈ ([(g7, Cg.th G7), (g6, Cg.th G6), (g5, Cg.th G5), (g4, Cg.th G4), (g3, Cg.th G3), (g2, Cg.th G2), (g1, Cg.th fxC)] : List (Nat × Th)) by simp)
  have b10 := k4.cell 10
  simp only [List.getElem?_toArray, List.getElem?_cons_zero, List.getElem?_cons_succ] at b10
  have hvs : G4.f.vs = [7] := hX4.f.vs.trans HR3.out
  have hvl : G4.f.vs.length = 1 := by rw [hvs]; rfl
  rw [hvl] at b10
  have HT := Lib.hid (fun W (h : Vs w [(g7, Cg.th G7), (g6, Cg.th G6), (g5, Cg.th G5), (g4, Cg.th G4), (g3, Cg.th G3), (g2, Cg.th G2), (g1, Cg.th fxC)] W) c' g (hb : Blk W g 3 #[.int .i64 7]) => Rs.same_yes [7] G4.f.V (some ⟨g, 0, none⟩) G4.f.vc c' W (by decide) (by have := (h.at (show (g4, Cg.th G4) ∈ ([(g7, Cg.th G7), (g6, Cg.th G6), (g5, Cg.th G5), (g4, Cg.th G4), (g3, Cg.th G3), (g2, Cg.th G2), (g1, Cg.th fxC)] : List (Nat × Th)) by simp)).f.v.tab (Nat.le_refl _); rwa [hvs] at this) (by
    intro _
    refine ⟨g, 0, rfl, hb.lt, fun i hi => ?_⟩
    obtain rfl : i = 0 := by simp at hi; omega
    exact hb.cell 0))
  clear k4 hvs hvl
  dsimp only
  go_wp2_with fail
  refine (HT.out _ (hv.alloc _) _ _ (Blk.new w5 _ _)).mono ?_
  rintro e w6 ⟨rfl, hq⟩
  replace hv := (hv.alloc _).next hq
  clear hq HT b10
  have k5 : Blk w6 g5 29 (Cg.cells G5) := hv.get (show (g5, Cg.th G5) ∈ ([(g7, Cg.th G7), (g6, Cg.th G6), (g5, Cg.th G5), (g4, Cg.th G4), (g3, Cg.th G3), (g2, Cg.th G2), (g1, Cg.th fxC)] : List (Nat × Th)) by simp)
  have d11 := k5.cell 11
  simp only [List.getElem?_toArray, List.getElem?_cons_zero, List.getElem?_cons_succ] at d11
  rw [hX5.pairs, HR4.out] at d11
  have X1 := fun W => rx_any 2 true W
  have X2 := fun W => vlan_any 258 false W
  rw [fx_7] at X1
  rw [fx_8] at X2
  have HX1 := Lib.hid X1
  have HX2 := Lib.hid X2
  clear k5 X1 X2
  dsimp only
  go_wp2_with fail
  refine (HX1.out _).mono ?_
  rintro e w7 ⟨rfl, hq⟩
  replace hv := hv.next hq
  clear hq HX1 d11
  dsimp only
  go_wp2_with fail
  refine (HX2.out _).mono ?_
  rintro e w8 ⟨rfl, hq⟩
  replace hv := hv.next hq
  clear hq HX2
  dsimp only
  go_wp2_with fail
  go_ret
  exact ⟨rfl, hv.below⟩
end Go.Proofs.Ytongkfimgohhbaa
