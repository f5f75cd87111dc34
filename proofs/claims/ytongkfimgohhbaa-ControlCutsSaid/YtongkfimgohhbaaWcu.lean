/-
  ControlCuts: a right command that is cut short, or has more behind it, is none: for all settings, commands and cuts.
-/
import Derived.Test.YtongkfimgohhbaaLw
import Derived.Test.YtongkfimgohhbaaMy
namespace Go.Proofs.Ytongkfimgohhbaa
open Go.Joins Go.ChangeShapes Go.WideShapes Go.ChangeAt Go.RowKit Go.Deep
open Go.ChangeMaps (open_string)

@[reducible] def rowT (s1 s2 s3 : ByteArray) : Th := ⟨9, #[.string s1, .string s2, .string s3], []⟩
set_option maxRecDepth 100000 in
set_option maxHeartbeats 8000000 in
theorem cuts_walk (K0 K : Cg) (O : Cm) (cut : Int) (w : World) (hK : K.At w.heap.size w) (hO : O.At w.heap.size w) (N7 V12 P4 : Int) (hN : bits .and .i64 O.n 7 = N7) (hV : bits .and .i64 O.vl 4095 = V12) (hP : bits .and .i64 O.pr 15 = P4)
    (C : Nat) (hC : bits .and .i64 cut 65535 = (C : Int)) (hC2 : C ≤ 65535) (s1 s2 s3 : ByteArray) (X : ByteArray → Cg)
    (AB : ∀ W, Calls Try.prog 9 #[.agg K0.cells] W fun e w' => e = .returned (.agg K.cells) ∧ Below W.heap.size W w')
    (E1 : ∀ W, Calls Try.prog 14 #[.int .i64 N7, .bool O.on] W fun e w' => e = .returned (.string s1) ∧ Below W.heap.size W w')
    (E2 : ∀ W, Calls Try.prog 19 #[.int .i64 V12, .bool O.on] W fun e w' => e = .returned (.string s2) ∧ Below W.heap.size W w')
    (E3 : ∀ W, Calls Try.prog 20 #[.int .i64 P4] W fun e w' => e = .returned (.string s3) ∧ Below W.heap.size W w')
    (Z : ∀ s, s = s1 ∨ s = s2 ∨ s = s3 → 0 < s.size ∧ s.size ≤ 8)
    (P1 : ∀ s, s = s1 ∨ s = s2 ∨ s = s3 → ∀ c, c < s.size → ∀ W, K.At W.heap.size W → Calls Try.prog 11 #[.agg K.cells, .string (s.extract 0 c)] W (AppP (X (s.extract 0 c)) 1 W))
    (P2 : ∀ s, s = s1 ∨ s = s2 ∨ s = s3 → ∀ W, K.At W.heap.size W → Calls Try.prog 11 #[.agg K.cells, .string (s ++ ⟨#[0]⟩)] W (AppP (X (s ++ ⟨#[0]⟩)) 1 W)) :
    Calls Try.prog 8 #[.agg K0.cells, .agg O.cells, .int .i64 cut] w fun e w' => e = .returned (.bool true) ∧ Below w.heap.size w w' := by
  have HB := Lib.hid AB
  have HE1 := Lib.hid E1
  have HE2 := Lib.hid E2
  have HE3 := Lib.hid E3
  have HP1 := Lib.hid P1
  have HP2 := Lib.hid P2
  have HZs := Lib.hid Z
  have HC2 := Lib.hid hC2
  clear AB E1 E2 E3 P1 P2 Z hC2
  have k0 : Blk ((w.alloc (.cells K0.cells 29)).alloc (.cells O.cells 37)) w.heap.size 29 K0.cells := (Blk.new w _ _).alloc _
  have HK0 := Lib.hid k0
  clear k0
  go_enter Try.func8, Try.ntmps8
  go_wp2_with ((with_reducible refine lw_cfg HK0.out ?_ (.tmp 3) ?_ ?_ ?_); (· rfl); (· rfl); (· rfl); simp only [Act.put, List.setIfInBounds_toArray, List.set_cons_succ, List.set_cons_zero])
  refine (HB.out _).mono ?_
  rintro e w1 ⟨rfl, hq⟩
  have kz := HK0.out.next hq
  have hv := vs_law hK hO hq
  obtain ⟨wr, hwr⟩ : ∃ x, (w1.setCells w.heap.size 0 K.cells.toList) = x := ⟨_, rfl⟩
  rw [hwr] at hv
  have HW := Lib.hid hwr
  have HZ := Lib.hid kz
  clear hwr kz hq HB HK0 hK hO
  dsimp only
  go_wp2_with ((with_reducible refine sw_cfg (G := K) HZ.out ?_ ?_ (.tmp 3) (.tmp 14) ?_ ?_ ?_ ?_); (· rfl); (· rfl); (· rfl); (· rfl); (· rfl); simp only [Act.put]; rw [HW.out])
  clear HW HZ
  refine region_cut (fun a a' w' => ∃ g : Nat, a' = ((((((((((((((((((a.put (some 15) (.pointer (some ⟨w.heap.size + 1, 0, none⟩))).put (some 16) (.int .i64 O.n)).put (some 17) (.int .i64 N7)).put (some 18) (.pointer (some ⟨w.heap.size + 1, 3, none⟩))).put (some 19) (.bool O.on)).put (some 20) (.string s1)).put (some 21) (.pointer (some ⟨w.heap.size + 1, 1, none⟩))).put (some 22) (.int .i64 O.vl)).put (some 23) (.int .i64 V12)).put (some 24) (.pointer (some ⟨w.heap.size + 1, 3, none⟩))).put (some 25) (.bool O.on)).put (some 26) (.string s2)).put (some 27) (.pointer (some ⟨w.heap.size + 1, 2, none⟩))).put (some 28) (.int .i64 O.pr)).put (some 29) (.int .i64 P4)).put (some 30) (.string s3)).put (some 31) (.slice (some ⟨g, 0, none⟩) 3 3)).put (some 7) (.slice (some ⟨g, 0, none⟩) 3 3)) ∧ Vs w ((g, rowT s1 s2 s3) :: [(w.heap.size + 1, O.th), (w.heap.size, K.th)]) w') ?_ ?_
  · refine wp_region_held_drew (S := Sg w [(w.heap.size + 1, O.th), (w.heap.size, K.th)] wr) (by kernel_rfl) (Sg.start hv) (fun hHeld => ?_)
    refine wpAnyH_take (i := 0) (oi := { dst := some 15, op := Go.Op.fieldAddr 37 (Go.Operand.tmp 4) 0, type := 0, pos := "more.go:29", after := #[], guard := none }) (v := ?_) rfl (by kernel_rfl) (by kernel_rfl) (by kernel_rfl) (fun _ _ _ h => nomatch h.1) (Or.inl ⟨by rfl, ?_⟩) hHeld ?_
    rotate_left
    · intro W hSw
      go_simp
      try with_reducible rfl
    try simp only [Act.put, List.setIfInBounds_toArray, List.set_cons_zero, List.set_cons_succ]
    refine wpAnyH_take (i := 1) (oi := { dst := some 16, op := Go.Op.load 3 (Go.Operand.tmp 15), type := 3, pos := "more.go:29", after := #[{ on := 0, ground := Go.Ground.data }], guard := none }) (v := ?_) rfl (by kernel_rfl) (by kernel_rfl) (by kernel_rfl) (fun _ _ _ h => nomatch h.1) (Or.inl ⟨by rfl, ?_⟩) hHeld ?_
    rotate_left
    · intro W hSw
      have kq : Blk W (w.heap.size + 1) 37 O.cells := hSw.vs.get (show (w.heap.size + 1, O.th) ∈ ([(w.heap.size + 1, O.th), (w.heap.size, K.th)] : List (Nat × Th)) from List.mem_cons_self)
      have q0 := kq.cell 0
      simp only [List.getElem?_toArray, List.getElem?_cons_zero] at q0
      go_simp
      try with_reducible rfl
    try simp only [Act.put, List.setIfInBounds_toArray, List.set_cons_zero, List.set_cons_succ]
    refine wpAnyH_take (i := 2) (oi := { dst := some 17, op := Go.Op.binOp Go.BinOp.and 3 (Go.Operand.tmp 16) (Go.Operand.const (Go.Value.int Go.IntKind.i64 7)) 3, type := 3, pos := "more.go:29", after := #[{ on := 1, ground := Go.Ground.data }], guard := none }) (v := ?_) rfl (by kernel_rfl) (by kernel_rfl) (by kernel_rfl) (fun _ _ _ h => nomatch h.1) (Or.inl ⟨by rfl, ?_⟩) hHeld ?_
    rotate_left
    · intro W hSw
      go_simp
      try with_reducible rfl
    try simp only [Act.put, List.setIfInBounds_toArray, List.set_cons_zero, List.set_cons_succ]
    refine wpAnyH_take (i := 3) (oi := { dst := some 18, op := Go.Op.fieldAddr 37 (Go.Operand.tmp 4) 3, type := 0, pos := "more.go:29", after := #[], guard := none }) (v := ?_) rfl (by kernel_rfl) (by kernel_rfl) (by kernel_rfl) (fun _ _ _ h => nomatch h.1) (Or.inl ⟨by rfl, ?_⟩) hHeld ?_
    rotate_left
    · intro W hSw
      go_simp
      try with_reducible rfl
    try simp only [Act.put, List.setIfInBounds_toArray, List.set_cons_zero, List.set_cons_succ]
    refine wpAnyH_take (i := 4) (oi := { dst := some 19, op := Go.Op.load 4 (Go.Operand.tmp 18), type := 4, pos := "more.go:29", after := #[{ on := 3, ground := Go.Ground.data }], guard := none }) (v := ?_) rfl (by kernel_rfl) (by kernel_rfl) (by kernel_rfl) (fun _ _ _ h => nomatch h.1) (Or.inl ⟨by rfl, ?_⟩) hHeld ?_
    rotate_left
    · intro W hSw
      have kq : Blk W (w.heap.size + 1) 37 O.cells := hSw.vs.get (show (w.heap.size + 1, O.th) ∈ ([(w.heap.size + 1, O.th), (w.heap.size, K.th)] : List (Nat × Th)) from List.mem_cons_self)
      have q3 := kq.cell 3
      simp only [List.getElem?_toArray, List.getElem?_cons_zero, List.getElem?_cons_succ] at q3
      go_simp
      try with_reducible rfl
    try simp only [Act.put, List.setIfInBounds_toArray, List.set_cons_zero, List.set_cons_succ]
    refine wpAnyH_take (i := 6) (oi := { dst := some 21, op := Go.Op.fieldAddr 37 (Go.Operand.tmp 4) 1, type := 0, pos := "more.go:29", after := #[], guard := none }) (v := ?_) rfl (by kernel_rfl) (by kernel_rfl) (by kernel_rfl) (fun _ _ _ h => nomatch h.1) (Or.inl ⟨by rfl, ?_⟩) hHeld ?_
    rotate_left
    · intro W hSw
      go_simp
      try with_reducible rfl
    try simp only [Act.put, List.setIfInBounds_toArray, List.set_cons_zero, List.set_cons_succ]
    refine wpAnyH_take (i := 7) (oi := { dst := some 22, op := Go.Op.load 3 (Go.Operand.tmp 21), type := 3, pos := "more.go:29", after := #[{ on := 6, ground := Go.Ground.data }], guard := none }) (v := ?_) rfl (by kernel_rfl) (by kernel_rfl) (by kernel_rfl) (fun _ _ _ h => nomatch h.1) (Or.inl ⟨by rfl, ?_⟩) hHeld ?_
    rotate_left
    · intro W hSw
      have kq : Blk W (w.heap.size + 1) 37 O.cells := hSw.vs.get (show (w.heap.size + 1, O.th) ∈ ([(w.heap.size + 1, O.th), (w.heap.size, K.th)] : List (Nat × Th)) from List.mem_cons_self)
      have q1 := kq.cell 1
      simp only [List.getElem?_toArray, List.getElem?_cons_zero, List.getElem?_cons_succ] at q1
      go_simp
      try with_reducible rfl
    try simp only [Act.put, List.setIfInBounds_toArray, List.set_cons_zero, List.set_cons_succ]
    refine wpAnyH_take (i := 8) (oi := { dst := some 23, op := Go.Op.binOp Go.BinOp.and 3 (Go.Operand.tmp 22) (Go.Operand.const (Go.Value.int Go.IntKind.i64 4095)) 3, type := 3, pos := "more.go:29", after := #[{ on := 7, ground := Go.Ground.data }], guard := none }) (v := ?_) rfl (by kernel_rfl) (by kernel_rfl) (by kernel_rfl) (fun _ _ _ h => nomatch h.1) (Or.inl ⟨by rfl, ?_⟩) hHeld ?_
    rotate_left
    · intro W hSw
      go_simp
      try with_reducible rfl
    try simp only [Act.put, List.setIfInBounds_toArray, List.set_cons_zero, List.set_cons_succ]
    refine wpAnyH_take (i := 9) (oi := { dst := some 24, op := Go.Op.fieldAddr 37 (Go.Operand.tmp 4) 3, type := 0, pos := "more.go:29", after := #[], guard := none }) (v := ?_) rfl (by kernel_rfl) (by kernel_rfl) (by kernel_rfl) (fun _ _ _ h => nomatch h.1) (Or.inl ⟨by rfl, ?_⟩) hHeld ?_
    rotate_left
    · intro W hSw
      go_simp
      try with_reducible rfl
    try simp only [Act.put, List.setIfInBounds_toArray, List.set_cons_zero, List.set_cons_succ]
    refine wpAnyH_take (i := 10) (oi := { dst := some 25, op := Go.Op.load 4 (Go.Operand.tmp 24), type := 4, pos := "more.go:29", after := #[{ on := 9, ground := Go.Ground.data }], guard := none }) (v := ?_) rfl (by kernel_rfl) (by kernel_rfl) (by kernel_rfl) (fun _ _ _ h => nomatch h.1) (Or.inl ⟨by rfl, ?_⟩) hHeld ?_
    rotate_left
    · intro W hSw
      have kq : Blk W (w.heap.size + 1) 37 O.cells := hSw.vs.get (show (w.heap.size + 1, O.th) ∈ ([(w.heap.size + 1, O.th), (w.heap.size, K.th)] : List (Nat × Th)) from List.mem_cons_self)
      have q3 := kq.cell 3
      simp only [List.getElem?_toArray, List.getElem?_cons_zero, List.getElem?_cons_succ] at q3
      go_simp
      try with_reducible rfl
    try simp only [Act.put, List.setIfInBounds_toArray, List.set_cons_zero, List.set_cons_succ]
    refine wpAnyH_take (i := 12) (oi := { dst := some 27, op := Go.Op.fieldAddr 37 (Go.Operand.tmp 4) 2, type := 0, pos := "more.go:29", after := #[], guard := none }) (v := ?_) rfl (by kernel_rfl) (by kernel_rfl) (by kernel_rfl) (fun _ _ _ h => nomatch h.1) (Or.inl ⟨by rfl, ?_⟩) hHeld ?_
    rotate_left
    · intro W hSw
      go_simp
      try with_reducible rfl
    try simp only [Act.put, List.setIfInBounds_toArray, List.set_cons_zero, List.set_cons_succ]
    refine wpAnyH_take (i := 13) (oi := { dst := some 28, op := Go.Op.load 3 (Go.Operand.tmp 27), type := 3, pos := "more.go:29", after := #[{ on := 12, ground := Go.Ground.data }], guard := none }) (v := ?_) rfl (by kernel_rfl) (by kernel_rfl) (by kernel_rfl) (fun _ _ _ h => nomatch h.1) (Or.inl ⟨by rfl, ?_⟩) hHeld ?_
    rotate_left
    · intro W hSw
      have kq : Blk W (w.heap.size + 1) 37 O.cells := hSw.vs.get (show (w.heap.size + 1, O.th) ∈ ([(w.heap.size + 1, O.th), (w.heap.size, K.th)] : List (Nat × Th)) from List.mem_cons_self)
      have q2 := kq.cell 2
      simp only [List.getElem?_toArray, List.getElem?_cons_zero, List.getElem?_cons_succ] at q2
      go_simp
      try with_reducible rfl
    try simp only [Act.put, List.setIfInBounds_toArray, List.set_cons_zero, List.set_cons_succ]
    refine wpAnyH_take (i := 14) (oi := { dst := some 29, op := Go.Op.binOp Go.BinOp.and 3 (Go.Operand.tmp 28) (Go.Operand.const (Go.Value.int Go.IntKind.i64 15)) 3, type := 3, pos := "more.go:29", after := #[{ on := 13, ground := Go.Ground.data }], guard := none }) (v := ?_) rfl (by kernel_rfl) (by kernel_rfl) (by kernel_rfl) (fun _ _ _ h => nomatch h.1) (Or.inl ⟨by rfl, ?_⟩) hHeld ?_
    rotate_left
    · intro W hSw
      go_simp
      try with_reducible rfl
    try simp only [Act.put, List.setIfInBounds_toArray, List.set_cons_zero, List.set_cons_succ]
    refine wpAnyH_ready (rs := [5]) (by kernel_rfl) (by simp) ?_
    refine AllReadyH.cons (o := { dst := some 20, op := Go.Op.call { callee := Go.Callee.value (Go.Operand.func 14), args := #[Go.Operand.tmp 17, Go.Operand.tmp 19], argTypes := #[3, 4] }, type := 9, pos := "more.go:29", after := #[{ on := 2, ground := Go.Ground.data }, { on := 4, ground := Go.Ground.data }], guard := none }) rfl (fun kK hkK => ?_) ?_
    · go_simp
      refine (HE1.out _).mono ?_
      rintro e v1 ⟨rfl, hq⟩
      have hS := hHeld.next hq
      clear hq hHeld
      dsimp only
      refine hkK.out _ _ hS (fun hHeld => ?_)
      clear hkK kK
      try simp only [Act.put, List.setIfInBounds_toArray, List.set_cons_zero, List.set_cons_succ]
      refine wpAnyH_ready (rs := [11]) (by kernel_rfl) (by simp) ?_
      refine AllReadyH.cons (o := { dst := some 26, op := Go.Op.call { callee := Go.Callee.value (Go.Operand.func 19), args := #[Go.Operand.tmp 23, Go.Operand.tmp 25], argTypes := #[3, 4] }, type := 9, pos := "more.go:29", after := #[{ on := 8, ground := Go.Ground.data }, { on := 10, ground := Go.Ground.data }, { on := 5, ground := Go.Ground.chain }], guard := none }) rfl (fun kK hkK => ?_) ?_
      · go_simp
        refine (HE2.out _).mono ?_
        rintro e v2 ⟨rfl, hq⟩
        have hS := hHeld.next hq
        clear hq hHeld
        dsimp only
        refine hkK.out _ _ hS (fun hHeld => ?_)
        clear hkK kK
        try simp only [Act.put, List.setIfInBounds_toArray, List.set_cons_zero, List.set_cons_succ]
        refine wpAnyH_ready (rs := [15]) (by kernel_rfl) (by simp) ?_
        refine AllReadyH.cons (o := { dst := some 30, op := Go.Op.call { callee := Go.Callee.value (Go.Operand.func 20), args := #[Go.Operand.tmp 29], argTypes := #[3] }, type := 9, pos := "more.go:29", after := #[{ on := 14, ground := Go.Ground.data }, { on := 11, ground := Go.Ground.chain }], guard := none }) rfl (fun kK hkK => ?_) ?_
        · go_simp
          refine (HE3.out _).mono ?_
          rintro e v3 ⟨rfl, hq⟩
          have hS := hHeld.next hq
          clear hq hHeld
          dsimp only
          refine hkK.out _ _ hS (fun hHeld => ?_)
          clear hkK kK
          try simp only [Act.put, List.setIfInBounds_toArray, List.set_cons_zero, List.set_cons_succ]
          refine wpAnyH_ready (rs := [16]) (by kernel_rfl) (by simp) ?_
          refine AllReadyH.cons (o := { dst := some 31, op := Go.Op.buildSlice 22 3 #[(0, Go.Operand.tmp 20), (1, Go.Operand.tmp 26), (2, Go.Operand.tmp 30)], type := 22, pos := "more.go:29", after := #[{ on := 5, ground := Go.Ground.data }, { on := 11, ground := Go.Ground.data }, { on := 15, ground := Go.Ground.data }], guard := none }) rfl (fun kK hkK => ?_) ?_
          · go_simp
            have hR : Vs w ((v3.heap.size, rowT s1 s2 s3) :: [(w.heap.size + 1, O.th), (w.heap.size, K.th)]) (v3.alloc (.cells #[.string s1, .string s2, .string s3] 9)) := hHeld.vs.new (t := rowT s1 s2 s3) (fun _ h => nomatch h) (fun _ h => nomatch h)
            have hS := hHeld.alloc (.cells #[.string s1, .string s2, .string s3] 9)
            refine hkK.out _ _ hS (fun hHeld => ?_)
            clear hkK kK
            try simp only [Act.put, List.setIfInBounds_toArray, List.set_cons_zero, List.set_cons_succ]
            refine wpAnyH_take (i := 17) (oi := { dst := some 7, op := Go.Op.assign (Go.Operand.tmp 31), type := 22, pos := "more.go:29", after := #[{ on := 16, ground := Go.Ground.data }, { on := 15, ground := Go.Ground.chain }, { on := 0, ground := Go.Ground.phase }, { on := 1, ground := Go.Ground.phase }, { on := 2, ground := Go.Ground.phase }, { on := 3, ground := Go.Ground.phase }, { on := 4, ground := Go.Ground.phase }, { on := 5, ground := Go.Ground.phase }, { on := 6, ground := Go.Ground.phase }, { on := 7, ground := Go.Ground.phase }, { on := 8, ground := Go.Ground.phase }, { on := 9, ground := Go.Ground.phase }, { on := 10, ground := Go.Ground.phase }, { on := 11, ground := Go.Ground.phase }, { on := 12, ground := Go.Ground.phase }, { on := 13, ground := Go.Ground.phase }, { on := 14, ground := Go.Ground.phase }, { on := 15, ground := Go.Ground.phase }, { on := 16, ground := Go.Ground.phase }], guard := none }) (v := ?_) rfl (by kernel_rfl) (by kernel_rfl) (by kernel_rfl) (fun _ _ _ h => nomatch h.1) (Or.inl ⟨by rfl, ?_⟩) hHeld ?_
            rotate_left
            · intro W hSw
              go_simp
              try with_reducible rfl
            try simp only [Act.put, List.setIfInBounds_toArray, List.set_cons_zero, List.set_cons_succ]
            refine wpAnyH_done (by kernel_rfl) ?_ _
            refine ⟨rfl, _, ?_, hR⟩
            rfl
          exact AllReadyH.nil
        exact AllReadyH.nil
      exact AllReadyH.nil
    exact AllReadyH.nil
  rintro a' w2 ⟨gl, rfl, hvn⟩
  clear hv HE1 HE2 HE3
  have hv := hvn
  clear hvn
  simp only [Act.put, List.setIfInBounds_toArray, List.set_cons_zero, List.set_cons_succ]
  clear hN hV hP
  have HV := Lib.hid hv
  clear hv
  go_wp2_with fail
  go_loopw [8] (fun i wr => ∃ k : Nat, k ≤ 3 ∧ i = .int .i64 k ∧ Vs w [(gl, rowT s1 s2 s3), (w.heap.size + 1, O.th), (w.heap.size, K.th)] wr) (fun i _ => 3 - (intOf i).toNat)
  case atStart => exact ⟨0, Nat.zero_le _, rfl, HV.out⟩
  case round =>
    obtain ⟨k, hk, rfl, hv⟩ := hrel
    clear HV
    by_cases hlt : k < 3
    · obtain ⟨s, hs3, hsk⟩ : ∃ s, (s = s1 ∨ s = s2 ∨ s = s3) ∧ (#[Value.string s1, .string s2, .string s3] : Array Value)[k]? = some (.string s) := by
        obtain rfl | rfl | rfl : k = 0 ∨ k = 1 ∨ k = 2 := by omega
        · exact ⟨s1, .inl rfl, rfl⟩
        · exact ⟨s2, .inr (.inl rfl), rfl⟩
        · exact ⟨s3, .inr (.inr rfl), rfl⟩
      obtain ⟨hz0, hz8⟩ := HZs.out s hs3
      obtain ⟨c, hcm⟩ : ∃ c, C % s.size = c := ⟨_, rfl⟩
      have hcl : c < s.size := by rw [← hcm]; exact Nat.mod_lt _ hz0
      have hT : Int.tmod (C : Int) (s.size : Int) = (c : Int) := by rw [Int.tmod_eq_emod_of_nonneg (by omega), ← hcm]; rfl
      have k0 : (0 : Int) ≤ (k : Int) := by omega
      have k3 : (k : Int) < 3 := by omega
      have k4 : k < 3 := hlt
      have z1 : ((s.size : Int) == 0) = false := by rw [beq_eq_false_iff_ne]; omega
      have z2 : ¬ (s.size : Int) = 0 := by omega
      have z3 : ¬ s.size = 0 := by omega
      have c0 : (0 : Int) ≤ (c : Int) := by omega
      have c1 : (c : Int) ≤ (s.size : Int) := by omega
      have c2 : c ≤ s.size := by omega
      have hsum : ¬ 9223372036854775807 < s.size + 1 := by omega
      have hne : (s.toList == ([] : List UInt8)) = false := by
        rw [ByteArray.toList_eq, beq_eq_false_iff_ne]
        intro e
        have := congrArg List.length e
        have hl : s.data.toList.length = s.size := rfl
        rw [List.length_nil] at this
        omega
      have kl : Blk wr gl 9 #[.string s1, .string s2, .string s3] := hv.get (show (gl, rowT s1 s2 s3) ∈ ([(gl, rowT s1 s2 s3), (w.heap.size + 1, O.th), (w.heap.size, K.th)] : List (Nat × Th)) from List.mem_cons_self)
      have ck := kl.cell k
      rw [hsk] at ck
      have HA1 := Lib.hid (fun W (h : Vs w [(gl, rowT s1 s2 s3), (w.heap.size + 1, O.th), (w.heap.size, K.th)] W) => HP1.out s hs3 c hcl W (h.at (show (w.heap.size, K.th) ∈ ([(gl, rowT s1 s2 s3), (w.heap.size + 1, O.th), (w.heap.size, K.th)] : List (Nat × Th)) from (List.mem_cons_of_mem _ (List.mem_cons_of_mem _ List.mem_cons_self)))))
      have HA2 := Lib.hid (fun (L : List (Nat × Th)) (hm : (w.heap.size, K.th) ∈ L) W (h : Vs w L W) => HP2.out s hs3 W (h.at hm))
      have HSK := Lib.hid hsk
      have HCM := Lib.hid hcm
      clear kl hs3 hz0 hz8 hsk hcm hcl hlt
      go_wp2_with fail
      refine region_cut (fun a a' w' => ∃ (g : Nat) (G : Cg), Cg.Same (X (s.extract 0 c)) G ∧ a' = ((((((((((((((((((((a.put (some 44) (.agg (Cg.cells K))).put (some 45) (.slice (some ⟨gl, 0, none⟩) 3 3)).put (some 46) (.int .i64 (k : Nat))).put (some 47) (.pointer (some ⟨gl, k, none⟩))).put (some 48) (.string s)).put (some 49) (.int .i64 cut)).put (some 50) (.int .i64 (C : Nat))).put (some 51) (.slice (some ⟨gl, 0, none⟩) 3 3)).put (some 52) (.int .i64 (k : Nat))).put (some 53) (.pointer (some ⟨gl, k, none⟩))).put (some 54) (.string s)).put (some 55) (.int .i64 (s.size : Nat))).put (some 56) (.int .i64 (c : Nat))).put (some 57) (.string (s.extract 0 c))).put (some 58) (.tuple #[.agg G.cells, .int .i64 (1)])).put (some 43) (.tuple #[.agg G.cells, .int .i64 (1)])).put (some 59) (.agg G.cells)).put (some 60) (.int .i64 (1))).put (some 9) (.pointer (some ⟨g, 0, none⟩))).put (some 10) (.int .i64 (1))) ∧ Vs w ((g, G.th) :: [(gl, rowT s1 s2 s3), (w.heap.size + 1, O.th), (w.heap.size, K.th)]) w') ?_ ?_
      · refine wp_region_held_drew (S := Sg w [(gl, rowT s1 s2 s3), (w.heap.size + 1, O.th), (w.heap.size, K.th)] wr) (by kernel_rfl) (Sg.start hv) (fun hHeld => ?_)
        refine wpAnyH_take (i := 0) (oi := { dst := some 44, op := Go.Op.load 29 (Go.Operand.tmp 3), type := 29, pos := "more.go:34", after := #[], guard := none }) (v := .agg (Cg.cells K)) rfl (by kernel_rfl) (by kernel_rfl) (by kernel_rfl) (fun _ _ _ h => nomatch h.1) (yieldsIf_load_mid (by rfl) 29 (.tmp 3) rfl _ 0 rfl (Cg.cells K).toList _ (row_cfg (show (w.heap.size, K.th) ∈ ([(gl, rowT s1 s2 s3), (w.heap.size + 1, O.th), (w.heap.size, K.th)] : List (Nat × Th)) from (List.mem_cons_of_mem _ (List.mem_cons_of_mem _ List.mem_cons_self)))) Try.underlying29 rfl Try.size29) hHeld ?_
        try simp only [Act.put, List.setIfInBounds_toArray, List.set_cons_zero, List.set_cons_succ]
        refine wpAnyH_take (i := 1) (oi := { dst := some 45, op := Go.Op.move (Go.Operand.tmp 7), type := 22, pos := "more.go:34", after := #[], guard := none }) (v := ?_) rfl (by kernel_rfl) (by kernel_rfl) (by kernel_rfl) (fun _ _ _ h => nomatch h.1) (Or.inl ⟨by rfl, ?_⟩) hHeld ?_
        rotate_left
        · intro W hSw
          go_simp
          try with_reducible rfl
        try simp only [Act.put, List.setIfInBounds_toArray, List.set_cons_zero, List.set_cons_succ]
        refine wpAnyH_take (i := 2) (oi := { dst := some 46, op := Go.Op.move (Go.Operand.tmp 8), type := 3, pos := "more.go:34", after := #[], guard := none }) (v := ?_) rfl (by kernel_rfl) (by kernel_rfl) (by kernel_rfl) (fun _ _ _ h => nomatch h.1) (Or.inl ⟨by rfl, ?_⟩) hHeld ?_
        rotate_left
        · intro W hSw
          go_simp
          try with_reducible rfl
        try simp only [Act.put, List.setIfInBounds_toArray, List.set_cons_zero, List.set_cons_succ]
        refine wpAnyH_take (i := 3) (oi := { dst := some 47, op := Go.Op.indexAddr 22 (Go.Operand.tmp 45) (Go.Operand.tmp 46), type := 0, pos := "more.go:34", after := #[{ on := 1, ground := Go.Ground.data }, { on := 2, ground := Go.Ground.data }], guard := none }) (v := ?_) rfl (by kernel_rfl) (by kernel_rfl) (by kernel_rfl) (fun _ _ _ h => nomatch h.1) (Or.inl ⟨by rfl, ?_⟩) hHeld ?_
        rotate_left
        · intro W hSw
          go_simp
          try with_reducible rfl
        try simp only [Act.put, List.setIfInBounds_toArray, List.set_cons_zero, List.set_cons_succ]
        refine wpAnyH_take (i := 4) (oi := { dst := some 48, op := Go.Op.load 9 (Go.Operand.tmp 47), type := 9, pos := "more.go:34", after := #[{ on := 3, ground := Go.Ground.data }], guard := none }) (v := ?_) rfl (by kernel_rfl) (by kernel_rfl) (by kernel_rfl) (fun _ _ _ h => nomatch h.1) (Or.inl ⟨by rfl, ?_⟩) hHeld ?_
        rotate_left
        · intro W hSw
          have kq : Blk W gl 9 #[.string s1, .string s2, .string s3] := hSw.vs.get (show (gl, rowT s1 s2 s3) ∈ ([(gl, rowT s1 s2 s3), (w.heap.size + 1, O.th), (w.heap.size, K.th)] : List (Nat × Th)) from List.mem_cons_self)
          have ck2 := kq.cell k
          rw [HSK.out] at ck2
          go_simp
          try with_reducible rfl
        try simp only [Act.put, List.setIfInBounds_toArray, List.set_cons_zero, List.set_cons_succ]
        refine wpAnyH_take (i := 5) (oi := { dst := some 49, op := Go.Op.move (Go.Operand.tmp 2), type := 3, pos := "more.go:34", after := #[], guard := none }) (v := ?_) rfl (by kernel_rfl) (by kernel_rfl) (by kernel_rfl) (fun _ _ _ h => nomatch h.1) (Or.inl ⟨by rfl, ?_⟩) hHeld ?_
        rotate_left
        · intro W hSw
          go_simp
          try with_reducible rfl
        try simp only [Act.put, List.setIfInBounds_toArray, List.set_cons_zero, List.set_cons_succ]
        refine wpAnyH_take (i := 6) (oi := { dst := some 50, op := Go.Op.binOp Go.BinOp.and 3 (Go.Operand.tmp 49) (Go.Operand.const (Go.Value.int Go.IntKind.i64 65535)) 3, type := 3, pos := "more.go:34", after := #[{ on := 5, ground := Go.Ground.data }], guard := none }) (v := ?_) rfl (by kernel_rfl) (by kernel_rfl) (by kernel_rfl) (fun _ _ _ h => nomatch h.1) (Or.inl ⟨by rfl, ?_⟩) hHeld ?_
        rotate_left
        · intro W hSw
          go_simp
          try with_reducible rfl
        try simp only [Act.put, List.setIfInBounds_toArray, List.set_cons_zero, List.set_cons_succ]
        refine wpAnyH_take (i := 7) (oi := { dst := some 51, op := Go.Op.move (Go.Operand.tmp 7), type := 22, pos := "more.go:34", after := #[], guard := none }) (v := ?_) rfl (by kernel_rfl) (by kernel_rfl) (by kernel_rfl) (fun _ _ _ h => nomatch h.1) (Or.inl ⟨by rfl, ?_⟩) hHeld ?_
        rotate_left
        · intro W hSw
          go_simp
          try with_reducible rfl
        try simp only [Act.put, List.setIfInBounds_toArray, List.set_cons_zero, List.set_cons_succ]
        refine wpAnyH_take (i := 8) (oi := { dst := some 52, op := Go.Op.move (Go.Operand.tmp 8), type := 3, pos := "more.go:34", after := #[], guard := none }) (v := ?_) rfl (by kernel_rfl) (by kernel_rfl) (by kernel_rfl) (fun _ _ _ h => nomatch h.1) (Or.inl ⟨by rfl, ?_⟩) hHeld ?_
        rotate_left
        · intro W hSw
          go_simp
          try with_reducible rfl
        try simp only [Act.put, List.setIfInBounds_toArray, List.set_cons_zero, List.set_cons_succ]
        refine wpAnyH_take (i := 9) (oi := { dst := some 53, op := Go.Op.indexAddr 22 (Go.Operand.tmp 51) (Go.Operand.tmp 52), type := 0, pos := "more.go:34", after := #[{ on := 7, ground := Go.Ground.data }, { on := 8, ground := Go.Ground.data }], guard := none }) (v := ?_) rfl (by kernel_rfl) (by kernel_rfl) (by kernel_rfl) (fun _ _ _ h => nomatch h.1) (Or.inl ⟨by rfl, ?_⟩) hHeld ?_
        rotate_left
        · intro W hSw
          go_simp
          try with_reducible rfl
        try simp only [Act.put, List.setIfInBounds_toArray, List.set_cons_zero, List.set_cons_succ]
        refine wpAnyH_take (i := 10) (oi := { dst := some 54, op := Go.Op.load 9 (Go.Operand.tmp 53), type := 9, pos := "more.go:34", after := #[{ on := 9, ground := Go.Ground.data }], guard := none }) (v := ?_) rfl (by kernel_rfl) (by kernel_rfl) (by kernel_rfl) (fun _ _ _ h => nomatch h.1) (Or.inl ⟨by rfl, ?_⟩) hHeld ?_
        rotate_left
        · intro W hSw
          have kq : Blk W gl 9 #[.string s1, .string s2, .string s3] := hSw.vs.get (show (gl, rowT s1 s2 s3) ∈ ([(gl, rowT s1 s2 s3), (w.heap.size + 1, O.th), (w.heap.size, K.th)] : List (Nat × Th)) from List.mem_cons_self)
          have ck2 := kq.cell k
          rw [HSK.out] at ck2
          go_simp
          try with_reducible rfl
        try simp only [Act.put, List.setIfInBounds_toArray, List.set_cons_zero, List.set_cons_succ]
        refine wpAnyH_take (i := 11) (oi := { dst := some 55, op := Go.Op.call { callee := Go.Callee.builtin Go.Builtin.len, args := #[Go.Operand.tmp 54], argTypes := #[9] }, type := 3, pos := "more.go:34", after := #[{ on := 10, ground := Go.Ground.data }], guard := none }) (v := ?_) rfl (by kernel_rfl) (by kernel_rfl) (by kernel_rfl) (fun _ _ _ h => nomatch h.1) (Or.inl ⟨by rfl, ?_⟩) hHeld ?_
        rotate_left
        · intro W hSw
          go_simp
          try with_reducible rfl
        try simp only [Act.put, List.setIfInBounds_toArray, List.set_cons_zero, List.set_cons_succ]
        refine wpAnyH_take (i := 12) (oi := { dst := some 56, op := Go.Op.binOp Go.BinOp.rem 3 (Go.Operand.tmp 50) (Go.Operand.tmp 55) 3, type := 3, pos := "more.go:34", after := #[{ on := 6, ground := Go.Ground.data }, { on := 11, ground := Go.Ground.data }], guard := none }) (v := ?_) rfl (by kernel_rfl) (by kernel_rfl) (by kernel_rfl) (fun _ _ _ h => nomatch h.1) (Or.inl ⟨by rfl, ?_⟩) hHeld ?_
        rotate_left
        · intro W hSw
          go_simp
          try with_reducible rfl
        try simp only [Act.put, List.setIfInBounds_toArray, List.set_cons_zero, List.set_cons_succ]
        refine wpAnyH_take (i := 13) (oi := { dst := some 57, op := Go.Op.slice 9 (Go.Operand.tmp 48) none (some (Go.Operand.tmp 56)) none, type := 9, pos := "more.go:34", after := #[{ on := 4, ground := Go.Ground.data }, { on := 12, ground := Go.Ground.data }], guard := none }) (v := ?_) rfl (by kernel_rfl) (by kernel_rfl) (by kernel_rfl) (fun _ _ _ h => nomatch h.1) (Or.inl ⟨by rfl, ?_⟩) hHeld ?_
        rotate_left
        · intro W hSw
          go_simp
          try with_reducible rfl
        try simp only [Act.put, List.setIfInBounds_toArray, List.set_cons_zero, List.set_cons_succ]
        refine wpAnyH_ready (rs := [14, 18]) (by kernel_rfl) (by simp) ?_
        refine AllReadyH.cons (o := { dst := some 58, op := Go.Op.call { callee := Go.Callee.value (Go.Operand.func 11), args := #[Go.Operand.tmp 44, Go.Operand.tmp 57], argTypes := #[29, 9] }, type := 31, pos := "more.go:34", after := #[{ on := 0, ground := Go.Ground.data }, { on := 13, ground := Go.Ground.data }], guard := none }) rfl (fun kK hkK => ?_) ?_
        · go_simp
          refine (HA1.out _ hHeld.vs).mono ?_
          rintro e v1 ⟨G, hX, rfl, hO, hq⟩
          have hS := hHeld.next hq
          have oq : ∀ q ∈ ([(gl, rowT s1 s2 s3), (w.heap.size + 1, O.th), (w.heap.size, K.th)] : List (Nat × Th)), G.Ofs q.1 := fun q hq => hO.ofs (hHeld.vs.lt hq)
          have hG := hO.at (Nat.le_refl _)
          clear hO hq hHeld
          dsimp only
          refine hkK.out _ _ hS (fun hHeld => ?_)
          clear hkK kK
          try simp only [Act.put, List.setIfInBounds_toArray, List.set_cons_zero, List.set_cons_succ]
          refine wpAnyH_take (i := 15) (oi := { dst := some 43, op := Go.Op.move (Go.Operand.tmp 58), type := 31, pos := "more.go:34", after := #[{ on := 14, ground := Go.Ground.data }], guard := none }) (v := ?_) rfl (by kernel_rfl) (by kernel_rfl) (by kernel_rfl) (fun _ _ _ h => nomatch h.1) (Or.inl ⟨by rfl, ?_⟩) hHeld ?_
          rotate_left
          · intro W hSw
            go_simp
            try with_reducible rfl
          try simp only [Act.put, List.setIfInBounds_toArray, List.set_cons_zero, List.set_cons_succ]
          refine wpAnyH_take (i := 16) (oi := { dst := some 59, op := Go.Op.extract (Go.Operand.tmp 43) 0, type := 29, pos := "more.go:34", after := #[{ on := 15, ground := Go.Ground.data }], guard := none }) (v := ?_) rfl (by kernel_rfl) (by kernel_rfl) (by kernel_rfl) (fun _ _ _ h => nomatch h.1) (Or.inl ⟨by rfl, ?_⟩) hHeld ?_
          rotate_left
          · intro W hSw
            go_simp
            try with_reducible rfl
          try simp only [Act.put, List.setIfInBounds_toArray, List.set_cons_zero, List.set_cons_succ]
          refine wpAnyH_take (i := 17) (oi := { dst := some 60, op := Go.Op.extract (Go.Operand.tmp 43) 1, type := 3, pos := "more.go:34", after := #[{ on := 15, ground := Go.Ground.data }, { on := 19, ground := Go.Ground.gcOnly Go.Departure.lateStores }], guard := none }) (v := ?_) rfl (by kernel_rfl) (by kernel_rfl) (by kernel_rfl) (fun _ _ _ h => nomatch h.1) (Or.inl ⟨by rfl, ?_⟩) hHeld ?_
          rotate_left
          · intro W hSw
            go_simp
            try with_reducible rfl
          try simp only [Act.put, List.setIfInBounds_toArray, List.set_cons_zero, List.set_cons_succ]
          refine wpAnyH_ready (rs := [18]) (by kernel_rfl) (by simp) ?_
          refine AllReadyH.cons (o := { dst := some 9, op := Go.Op.alloc 29, type := 0, pos := "more.go:34", after := #[], guard := none }) rfl (fun kK hkK => ?_) ?_
          · go_simp
            obtain ⟨v2, hvv2⟩ : ∃ x, (v1.alloc (.cells #[.string ⟨#[]⟩, .bool false, .bool false, .bool false, .bool false, .bool false, .bool false, .slice none 0 0, .slice none 0 0, .bool false, .slice none 0 0, .int .i64 0, .int .i64 0, .bool false, .int .i64 0, .slice none 0 0, .string ⟨#[]⟩, .int .i64 0] 29)) = x := ⟨_, rfl⟩
            have kz0 := Blk.new v1 29 zeroC
            have kz : Blk v2 v1.heap.size 29 zeroC := hvv2 ▸ (show Blk (v1.alloc (.cells #[.string ⟨#[]⟩, .bool false, .bool false, .bool false, .bool false, .bool false, .bool false, .slice none 0 0, .slice none 0 0, .bool false, .slice none 0 0, .int .i64 0, .int .i64 0, .bool false, .int .i64 0, .slice none 0 0, .string ⟨#[]⟩, .int .i64 0] 29)) _ _ _ from kz0)
            have zge : wr.heap.size ≤ v1.heap.size := hHeld.bl.size
            have hS : Sg w [(gl, rowT s1 s2 s3), (w.heap.size + 1, O.th), (w.heap.size, K.th)] wr v2 := hvv2 ▸ (show Sg w [(gl, rowT s1 s2 s3), (w.heap.size + 1, O.th), (w.heap.size, K.th)] wr (v1.alloc (.cells #[.string ⟨#[]⟩, .bool false, .bool false, .bool false, .bool false, .bool false, .bool false, .slice none 0 0, .slice none 0 0, .bool false, .slice none 0 0, .int .i64 0, .int .i64 0, .bool false, .int .i64 0, .slice none 0 0, .string ⟨#[]⟩, .int .i64 0] 29)) from hHeld.alloc (.cells zeroC 29))
            have og := hG.ofs (Nat.le_refl _)
            have hG : G.At v2.heap.size v2 := hvv2 ▸ (show G.At (World.heap (v1.alloc (.cells #[.string ⟨#[]⟩, .bool false, .bool false, .bool false, .bool false, .bool false, .bool false, .slice none 0 0, .slice none 0 0, .bool false, .slice none 0 0, .int .i64 0, .int .i64 0, .bool false, .int .i64 0, .slice none 0 0, .string ⟨#[]⟩, .int .i64 0] 29))).size (v1.alloc (.cells #[.string ⟨#[]⟩, .bool false, .bool false, .bool false, .bool false, .bool false, .bool false, .slice none 0 0, .slice none 0 0, .bool false, .slice none 0 0, .int .i64 0, .int .i64 0, .bool false, .int .i64 0, .slice none 0 0, .string ⟨#[]⟩, .int .i64 0] 29)) from hG.alloc (.cells zeroC 29))
            rw [hvv2]
            clear hvv2 hHeld kz0
            refine hkK.out _ _ hS (fun hHeld => ?_)
            clear hkK kK
            try simp only [Act.put, List.setIfInBounds_toArray, List.set_cons_zero, List.set_cons_succ]
            refine wpAnyH_ready (rs := [19]) (by kernel_rfl) (by simp) ?_
            refine AllReadyH.cons (o := { dst := none, op := Go.Op.store 29 (Go.Operand.tmp 9) (Go.Operand.tmp 59), type := 0, pos := "more.go:34", after := #[{ on := 18, ground := Go.Ground.data }, { on := 16, ground := Go.Ground.data }, { on := 14, ground := Go.Ground.chain }, { on := 0, ground := Go.Ground.phase }, { on := 1, ground := Go.Ground.phase }, { on := 2, ground := Go.Ground.phase }, { on := 3, ground := Go.Ground.phase }, { on := 4, ground := Go.Ground.phase }, { on := 5, ground := Go.Ground.phase }, { on := 6, ground := Go.Ground.phase }, { on := 7, ground := Go.Ground.phase }, { on := 8, ground := Go.Ground.phase }, { on := 9, ground := Go.Ground.phase }, { on := 10, ground := Go.Ground.phase }, { on := 11, ground := Go.Ground.phase }, { on := 12, ground := Go.Ground.phase }, { on := 13, ground := Go.Ground.phase }, { on := 14, ground := Go.Ground.phase }, { on := 15, ground := Go.Ground.phase }, { on := 16, ground := Go.Ground.phase }, { on := 17, ground := Go.Ground.textOnly Go.Departure.lateStores }, { on := 18, ground := Go.Ground.phase }], guard := none }) rfl (fun kK hkK => ?_) ?_
            · have hvn := hHeld.vs.var (W := wr) hv zge kz rfl hG og oq
              have hS : Sg w [(gl, rowT s1 s2 s3), (w.heap.size + 1, O.th), (w.heap.size, K.th)] wr (v2.setCells (v1.heap.size) 0 G.cells.toList) := ⟨hvn.less (fun _ hp => List.mem_cons_of_mem _ hp), below_puts hHeld.bl hHeld.bl.size zge 0 _⟩
              rw [if_pos (by rfl)]
              refine wp_store_mid 29 (.tmp 9) (.tmp 59) rfl (v1.heap.size) 0 G.cells rfl rfl (there_of_blk kz 0 _ (Nat.le_refl 18)) Try.size29 (by simp [Cg.cells, Value.oneCell']) ?_
              refine hkK.out _ _ hS (fun hHeld => ?_)
              clear hkK kK
              try simp only [Act.put]
              refine wpAnyH_take (i := 20) (oi := { dst := some 10, op := Go.Op.assign (Go.Operand.tmp 60), type := 3, pos := "more.go:34", after := #[{ on := 17, ground := Go.Ground.data }, { on := 19, ground := Go.Ground.chain }, { on := 0, ground := Go.Ground.phase }, { on := 1, ground := Go.Ground.phase }, { on := 2, ground := Go.Ground.phase }, { on := 3, ground := Go.Ground.phase }, { on := 4, ground := Go.Ground.phase }, { on := 5, ground := Go.Ground.phase }, { on := 6, ground := Go.Ground.phase }, { on := 7, ground := Go.Ground.phase }, { on := 8, ground := Go.Ground.phase }, { on := 9, ground := Go.Ground.phase }, { on := 10, ground := Go.Ground.phase }, { on := 11, ground := Go.Ground.phase }, { on := 12, ground := Go.Ground.phase }, { on := 13, ground := Go.Ground.phase }, { on := 14, ground := Go.Ground.phase }, { on := 15, ground := Go.Ground.phase }, { on := 16, ground := Go.Ground.phase }, { on := 17, ground := Go.Ground.phase }, { on := 18, ground := Go.Ground.phase }, { on := 19, ground := Go.Ground.phase }], guard := none }) (v := ?_) rfl (by kernel_rfl) (by kernel_rfl) (by kernel_rfl) (fun _ _ _ h => nomatch h.1) (Or.inl ⟨by rfl, ?_⟩) hHeld ?_
              rotate_left
              · intro W hSw
                go_simp
                try with_reducible rfl
              try simp only [Act.put, List.setIfInBounds_toArray, List.set_cons_zero, List.set_cons_succ]
              refine wpAnyH_done (by kernel_rfl) ?_ _
              refine ⟨rfl, _, _, hX, ?_, hvn⟩
              rfl
            exact AllReadyH.nil
          exact AllReadyH.nil
        refine AllReadyH.cons (o := { dst := some 9, op := Go.Op.alloc 29, type := 0, pos := "more.go:34", after := #[], guard := none }) rfl (fun kK hkK => ?_) ?_
        · go_simp
          obtain ⟨v3, hvv3⟩ : ∃ x, ((wr.alloc (.cells #[.string ⟨#[]⟩, .bool false, .bool false, .bool false, .bool false, .bool false, .bool false, .slice none 0 0, .slice none 0 0, .bool false, .slice none 0 0, .int .i64 0, .int .i64 0, .bool false, .int .i64 0, .slice none 0 0, .string ⟨#[]⟩, .int .i64 0] 29)).drew) = x := ⟨_, rfl⟩
          have kz0 := Blk.new wr 29 zeroC
          have kz : Blk v3 wr.heap.size 29 zeroC := hvv3 ▸ (show Blk ((wr.alloc (.cells #[.string ⟨#[]⟩, .bool false, .bool false, .bool false, .bool false, .bool false, .bool false, .slice none 0 0, .slice none 0 0, .bool false, .slice none 0 0, .int .i64 0, .int .i64 0, .bool false, .int .i64 0, .slice none 0 0, .string ⟨#[]⟩, .int .i64 0] 29)).drew) _ _ _ from kz0)
          have zge : wr.heap.size ≤ wr.heap.size := hHeld.bl.size
          have hS : Sg w [(gl, rowT s1 s2 s3), (w.heap.size + 1, O.th), (w.heap.size, K.th)] wr v3 := hvv3 ▸ (show Sg w [(gl, rowT s1 s2 s3), (w.heap.size + 1, O.th), (w.heap.size, K.th)] wr ((wr.alloc (.cells #[.string ⟨#[]⟩, .bool false, .bool false, .bool false, .bool false, .bool false, .bool false, .slice none 0 0, .slice none 0 0, .bool false, .slice none 0 0, .int .i64 0, .int .i64 0, .bool false, .int .i64 0, .slice none 0 0, .string ⟨#[]⟩, .int .i64 0] 29)).drew) from hHeld.alloc (.cells zeroC 29))
          rw [hvv3]
          clear hvv3 hHeld kz0
          refine hkK.out _ _ hS (fun hHeld => ?_)
          clear hkK kK
          try simp only [Act.put, List.setIfInBounds_toArray, List.set_cons_zero, List.set_cons_succ]
          refine wpAnyH_ready (rs := [14]) (by kernel_rfl) (by simp) ?_
          refine AllReadyH.cons (o := { dst := some 58, op := Go.Op.call { callee := Go.Callee.value (Go.Operand.func 11), args := #[Go.Operand.tmp 44, Go.Operand.tmp 57], argTypes := #[29, 9] }, type := 31, pos := "more.go:34", after := #[{ on := 0, ground := Go.Ground.data }, { on := 13, ground := Go.Ground.data }], guard := none }) rfl (fun kK hkK => ?_) ?_
          · go_simp
            refine (HA1.out _ hHeld.vs).mono ?_
            rintro e v4 ⟨G, hX, rfl, hO, hq⟩
            have hS := hHeld.next hq
            have og := hO.ofs kz.lt
            have kz := kz.next hq
            have oq : ∀ q ∈ ([(gl, rowT s1 s2 s3), (w.heap.size + 1, O.th), (w.heap.size, K.th)] : List (Nat × Th)), G.Ofs q.1 := fun q hq => hO.ofs (hHeld.vs.lt hq)
            have hG := hO.at (Nat.le_refl _)
            clear hO hq hHeld
            dsimp only
            refine hkK.out _ _ hS (fun hHeld => ?_)
            clear hkK kK
            try simp only [Act.put, List.setIfInBounds_toArray, List.set_cons_zero, List.set_cons_succ]
            refine wpAnyH_take (i := 15) (oi := { dst := some 43, op := Go.Op.move (Go.Operand.tmp 58), type := 31, pos := "more.go:34", after := #[{ on := 14, ground := Go.Ground.data }], guard := none }) (v := ?_) rfl (by kernel_rfl) (by kernel_rfl) (by kernel_rfl) (fun _ _ _ h => nomatch h.1) (Or.inl ⟨by rfl, ?_⟩) hHeld ?_
            rotate_left
            · intro W hSw
              go_simp
              try with_reducible rfl
            try simp only [Act.put, List.setIfInBounds_toArray, List.set_cons_zero, List.set_cons_succ]
            refine wpAnyH_take (i := 16) (oi := { dst := some 59, op := Go.Op.extract (Go.Operand.tmp 43) 0, type := 29, pos := "more.go:34", after := #[{ on := 15, ground := Go.Ground.data }], guard := none }) (v := ?_) rfl (by kernel_rfl) (by kernel_rfl) (by kernel_rfl) (fun _ _ _ h => nomatch h.1) (Or.inl ⟨by rfl, ?_⟩) hHeld ?_
            rotate_left
            · intro W hSw
              go_simp
              try with_reducible rfl
            try simp only [Act.put, List.setIfInBounds_toArray, List.set_cons_zero, List.set_cons_succ]
            refine wpAnyH_take (i := 17) (oi := { dst := some 60, op := Go.Op.extract (Go.Operand.tmp 43) 1, type := 3, pos := "more.go:34", after := #[{ on := 15, ground := Go.Ground.data }, { on := 19, ground := Go.Ground.gcOnly Go.Departure.lateStores }], guard := none }) (v := ?_) rfl (by kernel_rfl) (by kernel_rfl) (by kernel_rfl) (fun _ _ _ h => nomatch h.1) (Or.inl ⟨by rfl, ?_⟩) hHeld ?_
            rotate_left
            · intro W hSw
              go_simp
              try with_reducible rfl
            try simp only [Act.put, List.setIfInBounds_toArray, List.set_cons_zero, List.set_cons_succ]
            refine wpAnyH_ready (rs := [19]) (by kernel_rfl) (by simp) ?_
            refine AllReadyH.cons (o := { dst := none, op := Go.Op.store 29 (Go.Operand.tmp 9) (Go.Operand.tmp 59), type := 0, pos := "more.go:34", after := #[{ on := 18, ground := Go.Ground.data }, { on := 16, ground := Go.Ground.data }, { on := 14, ground := Go.Ground.chain }, { on := 0, ground := Go.Ground.phase }, { on := 1, ground := Go.Ground.phase }, { on := 2, ground := Go.Ground.phase }, { on := 3, ground := Go.Ground.phase }, { on := 4, ground := Go.Ground.phase }, { on := 5, ground := Go.Ground.phase }, { on := 6, ground := Go.Ground.phase }, { on := 7, ground := Go.Ground.phase }, { on := 8, ground := Go.Ground.phase }, { on := 9, ground := Go.Ground.phase }, { on := 10, ground := Go.Ground.phase }, { on := 11, ground := Go.Ground.phase }, { on := 12, ground := Go.Ground.phase }, { on := 13, ground := Go.Ground.phase }, { on := 14, ground := Go.Ground.phase }, { on := 15, ground := Go.Ground.phase }, { on := 16, ground := Go.Ground.phase }, { on := 17, ground := Go.Ground.textOnly Go.Departure.lateStores }, { on := 18, ground := Go.Ground.phase }], guard := none }) rfl (fun kK hkK => ?_) ?_
            · have hvn := hHeld.vs.var (W := wr) hv zge kz rfl hG og oq
              have hS : Sg w [(gl, rowT s1 s2 s3), (w.heap.size + 1, O.th), (w.heap.size, K.th)] wr (v4.setCells (wr.heap.size) 0 G.cells.toList) := ⟨hvn.less (fun _ hp => List.mem_cons_of_mem _ hp), below_puts hHeld.bl hHeld.bl.size zge 0 _⟩
              rw [if_pos (by rfl)]
              refine wp_store_mid 29 (.tmp 9) (.tmp 59) rfl (wr.heap.size) 0 G.cells rfl rfl (there_of_blk kz 0 _ (Nat.le_refl 18)) Try.size29 (by simp [Cg.cells, Value.oneCell']) ?_
              refine hkK.out _ _ hS (fun hHeld => ?_)
              clear hkK kK
              try simp only [Act.put]
              refine wpAnyH_take (i := 20) (oi := { dst := some 10, op := Go.Op.assign (Go.Operand.tmp 60), type := 3, pos := "more.go:34", after := #[{ on := 17, ground := Go.Ground.data }, { on := 19, ground := Go.Ground.chain }, { on := 0, ground := Go.Ground.phase }, { on := 1, ground := Go.Ground.phase }, { on := 2, ground := Go.Ground.phase }, { on := 3, ground := Go.Ground.phase }, { on := 4, ground := Go.Ground.phase }, { on := 5, ground := Go.Ground.phase }, { on := 6, ground := Go.Ground.phase }, { on := 7, ground := Go.Ground.phase }, { on := 8, ground := Go.Ground.phase }, { on := 9, ground := Go.Ground.phase }, { on := 10, ground := Go.Ground.phase }, { on := 11, ground := Go.Ground.phase }, { on := 12, ground := Go.Ground.phase }, { on := 13, ground := Go.Ground.phase }, { on := 14, ground := Go.Ground.phase }, { on := 15, ground := Go.Ground.phase }, { on := 16, ground := Go.Ground.phase }, { on := 17, ground := Go.Ground.phase }, { on := 18, ground := Go.Ground.phase }, { on := 19, ground := Go.Ground.phase }], guard := none }) (v := ?_) rfl (by kernel_rfl) (by kernel_rfl) (by kernel_rfl) (fun _ _ _ h => nomatch h.1) (Or.inl ⟨by rfl, ?_⟩) hHeld ?_
              rotate_left
              · intro W hSw
                go_simp
                try with_reducible rfl
              try simp only [Act.put, List.setIfInBounds_toArray, List.set_cons_zero, List.set_cons_succ]
              refine wpAnyH_done (by kernel_rfl) ?_ _
              refine ⟨rfl, _, _, hX, ?_, hvn⟩
              rfl
            exact AllReadyH.nil
          exact AllReadyH.nil
        exact AllReadyH.nil
      rintro a' wq1 ⟨g1, G1, hX1, rfl, hvn⟩
      clear hv HA1 hX1
      have hv := hvn
      clear hvn
      simp only [Act.put, List.setIfInBounds_toArray, List.set_cons_zero, List.set_cons_succ]
      have HA3 := Lib.hid (HA2.out [(g1, Cg.th G1), (gl, rowT s1 s2 s3), (w.heap.size + 1, O.th), (w.heap.size, K.th)] (show (w.heap.size, K.th) ∈ ([(g1, Cg.th G1), (gl, rowT s1 s2 s3), (w.heap.size + 1, O.th), (w.heap.size, K.th)] : List (Nat × Th)) from (List.mem_cons_of_mem _ (List.mem_cons_of_mem _ (List.mem_cons_of_mem _ List.mem_cons_self)))))
      clear HA2
      go_wp2_with fail
      refine region_cut (fun a a' w' => ∃ (g : Nat) (G : Cg), Cg.Same (X (s ++ ⟨#[0]⟩)) G ∧ a' = ((((((((((((a.put (some 62) (.agg (Cg.cells K))).put (some 63) (.slice (some ⟨gl, 0, none⟩) 3 3)).put (some 64) (.int .i64 (k : Nat))).put (some 65) (.pointer (some ⟨gl, k, none⟩))).put (some 66) (.string s)).put (some 67) (.string (s ++ ⟨#[0]⟩))).put (some 68) (.tuple #[.agg G.cells, .int .i64 (1)])).put (some 61) (.tuple #[.agg G.cells, .int .i64 (1)])).put (some 69) (.agg G.cells)).put (some 70) (.int .i64 (1))).put (some 11) (.pointer (some ⟨g, 0, none⟩))).put (some 12) (.int .i64 (1))) ∧ Vs w ((g, G.th) :: [(g1, Cg.th G1), (gl, rowT s1 s2 s3), (w.heap.size + 1, O.th), (w.heap.size, K.th)]) w') ?_ ?_
      · refine wp_region_held_drew (S := Sg w [(g1, Cg.th G1), (gl, rowT s1 s2 s3), (w.heap.size + 1, O.th), (w.heap.size, K.th)] wq1) (by kernel_rfl) (Sg.start hv) (fun hHeld => ?_)
        refine wpAnyH_take (i := 0) (oi := { dst := some 62, op := Go.Op.load 29 (Go.Operand.tmp 3), type := 29, pos := "more.go:35", after := #[], guard := none }) (v := .agg (Cg.cells K)) rfl (by kernel_rfl) (by kernel_rfl) (by kernel_rfl) (fun _ _ _ h => nomatch h.1) (yieldsIf_load_mid (by rfl) 29 (.tmp 3) rfl _ 0 rfl (Cg.cells K).toList _ (row_cfg (show (w.heap.size, K.th) ∈ ([(g1, Cg.th G1), (gl, rowT s1 s2 s3), (w.heap.size + 1, O.th), (w.heap.size, K.th)] : List (Nat × Th)) from (List.mem_cons_of_mem _ (List.mem_cons_of_mem _ (List.mem_cons_of_mem _ List.mem_cons_self))))) Try.underlying29 rfl Try.size29) hHeld ?_
        try simp only [Act.put, List.setIfInBounds_toArray, List.set_cons_zero, List.set_cons_succ]
        refine wpAnyH_take (i := 1) (oi := { dst := some 63, op := Go.Op.move (Go.Operand.tmp 7), type := 22, pos := "more.go:35", after := #[], guard := none }) (v := ?_) rfl (by kernel_rfl) (by kernel_rfl) (by kernel_rfl) (fun _ _ _ h => nomatch h.1) (Or.inl ⟨by rfl, ?_⟩) hHeld ?_
        rotate_left
        · intro W hSw
          go_simp
          try with_reducible rfl
        try simp only [Act.put, List.setIfInBounds_toArray, List.set_cons_zero, List.set_cons_succ]
        refine wpAnyH_take (i := 2) (oi := { dst := some 64, op := Go.Op.move (Go.Operand.tmp 8), type := 3, pos := "more.go:35", after := #[], guard := none }) (v := ?_) rfl (by kernel_rfl) (by kernel_rfl) (by kernel_rfl) (fun _ _ _ h => nomatch h.1) (Or.inl ⟨by rfl, ?_⟩) hHeld ?_
        rotate_left
        · intro W hSw
          go_simp
          try with_reducible rfl
        try simp only [Act.put, List.setIfInBounds_toArray, List.set_cons_zero, List.set_cons_succ]
        refine wpAnyH_take (i := 3) (oi := { dst := some 65, op := Go.Op.indexAddr 22 (Go.Operand.tmp 63) (Go.Operand.tmp 64), type := 0, pos := "more.go:35", after := #[{ on := 1, ground := Go.Ground.data }, { on := 2, ground := Go.Ground.data }], guard := none }) (v := ?_) rfl (by kernel_rfl) (by kernel_rfl) (by kernel_rfl) (fun _ _ _ h => nomatch h.1) (Or.inl ⟨by rfl, ?_⟩) hHeld ?_
        rotate_left
        · intro W hSw
          go_simp
          try with_reducible rfl
        try simp only [Act.put, List.setIfInBounds_toArray, List.set_cons_zero, List.set_cons_succ]
        refine wpAnyH_take (i := 4) (oi := { dst := some 66, op := Go.Op.load 9 (Go.Operand.tmp 65), type := 9, pos := "more.go:35", after := #[{ on := 3, ground := Go.Ground.data }], guard := none }) (v := ?_) rfl (by kernel_rfl) (by kernel_rfl) (by kernel_rfl) (fun _ _ _ h => nomatch h.1) (Or.inl ⟨by rfl, ?_⟩) hHeld ?_
        rotate_left
        · intro W hSw
          have kq : Blk W gl 9 #[.string s1, .string s2, .string s3] := hSw.vs.get (show (gl, rowT s1 s2 s3) ∈ ([(g1, Cg.th G1), (gl, rowT s1 s2 s3), (w.heap.size + 1, O.th), (w.heap.size, K.th)] : List (Nat × Th)) from (List.mem_cons_of_mem _ List.mem_cons_self))
          have ck2 := kq.cell k
          rw [HSK.out] at ck2
          go_simp
          try with_reducible rfl
        try simp only [Act.put, List.setIfInBounds_toArray, List.set_cons_zero, List.set_cons_succ]
        refine wpAnyH_take (i := 5) (oi := { dst := some 67, op := Go.Op.binOp Go.BinOp.add 9 (Go.Operand.tmp 66) (Go.Operand.const (Go.Value.string { data := #[0] })) 9, type := 9, pos := "more.go:35", after := #[{ on := 4, ground := Go.Ground.data }], guard := none }) (v := ?_) rfl (by kernel_rfl) (by kernel_rfl) (by kernel_rfl) (fun _ _ _ h => nomatch h.1) (Or.inl ⟨by rfl, ?_⟩) hHeld ?_
        rotate_left
        · intro W hSw
          go_simp
          try with_reducible rfl
        try simp only [Act.put, List.setIfInBounds_toArray, List.set_cons_zero, List.set_cons_succ]
        refine wpAnyH_ready (rs := [6, 10]) (by kernel_rfl) (by simp) ?_
        refine AllReadyH.cons (o := { dst := some 68, op := Go.Op.call { callee := Go.Callee.value (Go.Operand.func 11), args := #[Go.Operand.tmp 62, Go.Operand.tmp 67], argTypes := #[29, 9] }, type := 31, pos := "more.go:35", after := #[{ on := 0, ground := Go.Ground.data }, { on := 5, ground := Go.Ground.data }], guard := none }) rfl (fun kK hkK => ?_) ?_
        · go_simp
          refine (HA3.out _ hHeld.vs).mono ?_
          rintro e v1 ⟨G, hX, rfl, hO, hq⟩
          have hS := hHeld.next hq
          have oq : ∀ q ∈ ([(g1, Cg.th G1), (gl, rowT s1 s2 s3), (w.heap.size + 1, O.th), (w.heap.size, K.th)] : List (Nat × Th)), G.Ofs q.1 := fun q hq => hO.ofs (hHeld.vs.lt hq)
          have hG := hO.at (Nat.le_refl _)
          clear hO hq hHeld
          dsimp only
          refine hkK.out _ _ hS (fun hHeld => ?_)
          clear hkK kK
          try simp only [Act.put, List.setIfInBounds_toArray, List.set_cons_zero, List.set_cons_succ]
          refine wpAnyH_take (i := 7) (oi := { dst := some 61, op := Go.Op.move (Go.Operand.tmp 68), type := 31, pos := "more.go:35", after := #[{ on := 6, ground := Go.Ground.data }], guard := none }) (v := ?_) rfl (by kernel_rfl) (by kernel_rfl) (by kernel_rfl) (fun _ _ _ h => nomatch h.1) (Or.inl ⟨by rfl, ?_⟩) hHeld ?_
          rotate_left
          · intro W hSw
            go_simp
            try with_reducible rfl
          try simp only [Act.put, List.setIfInBounds_toArray, List.set_cons_zero, List.set_cons_succ]
          refine wpAnyH_take (i := 8) (oi := { dst := some 69, op := Go.Op.extract (Go.Operand.tmp 61) 0, type := 29, pos := "more.go:35", after := #[{ on := 7, ground := Go.Ground.data }], guard := none }) (v := ?_) rfl (by kernel_rfl) (by kernel_rfl) (by kernel_rfl) (fun _ _ _ h => nomatch h.1) (Or.inl ⟨by rfl, ?_⟩) hHeld ?_
          rotate_left
          · intro W hSw
            go_simp
            try with_reducible rfl
          try simp only [Act.put, List.setIfInBounds_toArray, List.set_cons_zero, List.set_cons_succ]
          refine wpAnyH_take (i := 9) (oi := { dst := some 70, op := Go.Op.extract (Go.Operand.tmp 61) 1, type := 3, pos := "more.go:35", after := #[{ on := 7, ground := Go.Ground.data }, { on := 11, ground := Go.Ground.gcOnly Go.Departure.lateStores }], guard := none }) (v := ?_) rfl (by kernel_rfl) (by kernel_rfl) (by kernel_rfl) (fun _ _ _ h => nomatch h.1) (Or.inl ⟨by rfl, ?_⟩) hHeld ?_
          rotate_left
          · intro W hSw
            go_simp
            try with_reducible rfl
          try simp only [Act.put, List.setIfInBounds_toArray, List.set_cons_zero, List.set_cons_succ]
          refine wpAnyH_ready (rs := [10]) (by kernel_rfl) (by simp) ?_
          refine AllReadyH.cons (o := { dst := some 11, op := Go.Op.alloc 29, type := 0, pos := "more.go:35", after := #[], guard := none }) rfl (fun kK hkK => ?_) ?_
          · go_simp
            obtain ⟨v2, hvv2⟩ : ∃ x, (v1.alloc (.cells #[.string ⟨#[]⟩, .bool false, .bool false, .bool false, .bool false, .bool false, .bool false, .slice none 0 0, .slice none 0 0, .bool false, .slice none 0 0, .int .i64 0, .int .i64 0, .bool false, .int .i64 0, .slice none 0 0, .string ⟨#[]⟩, .int .i64 0] 29)) = x := ⟨_, rfl⟩
            have kz0 := Blk.new v1 29 zeroC
            have kz : Blk v2 v1.heap.size 29 zeroC := hvv2 ▸ (show Blk (v1.alloc (.cells #[.string ⟨#[]⟩, .bool false, .bool false, .bool false, .bool false, .bool false, .bool false, .slice none 0 0, .slice none 0 0, .bool false, .slice none 0 0, .int .i64 0, .int .i64 0, .bool false, .int .i64 0, .slice none 0 0, .string ⟨#[]⟩, .int .i64 0] 29)) _ _ _ from kz0)
            have zge : wq1.heap.size ≤ v1.heap.size := hHeld.bl.size
            have hS : Sg w [(g1, Cg.th G1), (gl, rowT s1 s2 s3), (w.heap.size + 1, O.th), (w.heap.size, K.th)] wq1 v2 := hvv2 ▸ (show Sg w [(g1, Cg.th G1), (gl, rowT s1 s2 s3), (w.heap.size + 1, O.th), (w.heap.size, K.th)] wq1 (v1.alloc (.cells #[.string ⟨#[]⟩, .bool false, .bool false, .bool false, .bool false, .bool false, .bool false, .slice none 0 0, .slice none 0 0, .bool false, .slice none 0 0, .int .i64 0, .int .i64 0, .bool false, .int .i64 0, .slice none 0 0, .string ⟨#[]⟩, .int .i64 0] 29)) from hHeld.alloc (.cells zeroC 29))
            have og := hG.ofs (Nat.le_refl _)
            have hG : G.At v2.heap.size v2 := hvv2 ▸ (show G.At (World.heap (v1.alloc (.cells #[.string ⟨#[]⟩, .bool false, .bool false, .bool false, .bool false, .bool false, .bool false, .slice none 0 0, .slice none 0 0, .bool false, .slice none 0 0, .int .i64 0, .int .i64 0, .bool false, .int .i64 0, .slice none 0 0, .string ⟨#[]⟩, .int .i64 0] 29))).size (v1.alloc (.cells #[.string ⟨#[]⟩, .bool false, .bool false, .bool false, .bool false, .bool false, .bool false, .slice none 0 0, .slice none 0 0, .bool false, .slice none 0 0, .int .i64 0, .int .i64 0, .bool false, .int .i64 0, .slice none 0 0, .string ⟨#[]⟩, .int .i64 0] 29)) from hG.alloc (.cells zeroC 29))
            rw [hvv2]
            clear hvv2 hHeld kz0
            refine hkK.out _ _ hS (fun hHeld => ?_)
            clear hkK kK
            try simp only [Act.put, List.setIfInBounds_toArray, List.set_cons_zero, List.set_cons_succ]
            refine wpAnyH_ready (rs := [11]) (by kernel_rfl) (by simp) ?_
            refine AllReadyH.cons (o := { dst := none, op := Go.Op.store 29 (Go.Operand.tmp 11) (Go.Operand.tmp 69), type := 0, pos := "more.go:35", after := #[{ on := 10, ground := Go.Ground.data }, { on := 8, ground := Go.Ground.data }, { on := 6, ground := Go.Ground.chain }, { on := 0, ground := Go.Ground.phase }, { on := 1, ground := Go.Ground.phase }, { on := 2, ground := Go.Ground.phase }, { on := 3, ground := Go.Ground.phase }, { on := 4, ground := Go.Ground.phase }, { on := 5, ground := Go.Ground.phase }, { on := 6, ground := Go.Ground.phase }, { on := 7, ground := Go.Ground.phase }, { on := 8, ground := Go.Ground.phase }, { on := 9, ground := Go.Ground.textOnly Go.Departure.lateStores }, { on := 10, ground := Go.Ground.phase }], guard := none }) rfl (fun kK hkK => ?_) ?_
            · have hvn := hHeld.vs.var (W := wq1) hv zge kz rfl hG og oq
              have hS : Sg w [(g1, Cg.th G1), (gl, rowT s1 s2 s3), (w.heap.size + 1, O.th), (w.heap.size, K.th)] wq1 (v2.setCells (v1.heap.size) 0 G.cells.toList) := ⟨hvn.less (fun _ hp => List.mem_cons_of_mem _ hp), below_puts hHeld.bl hHeld.bl.size zge 0 _⟩
              rw [if_pos (by rfl)]
              refine wp_store_mid 29 (.tmp 11) (.tmp 69) rfl (v1.heap.size) 0 G.cells rfl rfl (there_of_blk kz 0 _ (Nat.le_refl 18)) Try.size29 (by simp [Cg.cells, Value.oneCell']) ?_
              refine hkK.out _ _ hS (fun hHeld => ?_)
              clear hkK kK
              try simp only [Act.put]
              refine wpAnyH_take (i := 12) (oi := { dst := some 12, op := Go.Op.assign (Go.Operand.tmp 70), type := 3, pos := "more.go:35", after := #[{ on := 9, ground := Go.Ground.data }, { on := 11, ground := Go.Ground.chain }, { on := 0, ground := Go.Ground.phase }, { on := 1, ground := Go.Ground.phase }, { on := 2, ground := Go.Ground.phase }, { on := 3, ground := Go.Ground.phase }, { on := 4, ground := Go.Ground.phase }, { on := 5, ground := Go.Ground.phase }, { on := 6, ground := Go.Ground.phase }, { on := 7, ground := Go.Ground.phase }, { on := 8, ground := Go.Ground.phase }, { on := 9, ground := Go.Ground.phase }, { on := 10, ground := Go.Ground.phase }, { on := 11, ground := Go.Ground.phase }], guard := none }) (v := ?_) rfl (by kernel_rfl) (by kernel_rfl) (by kernel_rfl) (fun _ _ _ h => nomatch h.1) (Or.inl ⟨by rfl, ?_⟩) hHeld ?_
              rotate_left
              · intro W hSw
                go_simp
                try with_reducible rfl
              try simp only [Act.put, List.setIfInBounds_toArray, List.set_cons_zero, List.set_cons_succ]
              refine wpAnyH_done (by kernel_rfl) ?_ _
              refine ⟨rfl, _, _, hX, ?_, hvn⟩
              rfl
            exact AllReadyH.nil
          exact AllReadyH.nil
        refine AllReadyH.cons (o := { dst := some 11, op := Go.Op.alloc 29, type := 0, pos := "more.go:35", after := #[], guard := none }) rfl (fun kK hkK => ?_) ?_
        · go_simp
          obtain ⟨v3, hvv3⟩ : ∃ x, ((wq1.alloc (.cells #[.string ⟨#[]⟩, .bool false, .bool false, .bool false, .bool false, .bool false, .bool false, .slice none 0 0, .slice none 0 0, .bool false, .slice none 0 0, .int .i64 0, .int .i64 0, .bool false, .int .i64 0, .slice none 0 0, .string ⟨#[]⟩, .int .i64 0] 29)).drew) = x := ⟨_, rfl⟩
          have kz0 := Blk.new wq1 29 zeroC
          have kz : Blk v3 wq1.heap.size 29 zeroC := hvv3 ▸ (show Blk ((wq1.alloc (.cells #[.string ⟨#[]⟩, .bool false, .bool false, .bool false, .bool false, .bool false, .bool false, .slice none 0 0, .slice none 0 0, .bool false, .slice none 0 0, .int .i64 0, .int .i64 0, .bool false, .int .i64 0, .slice none 0 0, .string ⟨#[]⟩, .int .i64 0] 29)).drew) _ _ _ from kz0)
          have zge : wq1.heap.size ≤ wq1.heap.size := hHeld.bl.size
          have hS : Sg w [(g1, Cg.th G1), (gl, rowT s1 s2 s3), (w.heap.size + 1, O.th), (w.heap.size, K.th)] wq1 v3 := hvv3 ▸ (show Sg w [(g1, Cg.th G1), (gl, rowT s1 s2 s3), (w.heap.size + 1, O.th), (w.heap.size, K.th)] wq1 ((wq1.alloc (.cells #[.string ⟨#[]⟩, .bool false, .bool false, .bool false, .bool false, .bool false, .bool false, .slice none 0 0, .slice none 0 0, .bool false, .slice none 0 0, .int .i64 0, .int .i64 0, .bool false, .int .i64 0, .slice none 0 0, .string ⟨#[]⟩, .int .i64 0] 29)).drew) from hHeld.alloc (.cells zeroC 29))
          rw [hvv3]
          clear hvv3 hHeld kz0
          refine hkK.out _ _ hS (fun hHeld => ?_)
          clear hkK kK
          try simp only [Act.put, List.setIfInBounds_toArray, List.set_cons_zero, List.set_cons_succ]
          refine wpAnyH_ready (rs := [6]) (by kernel_rfl) (by simp) ?_
          refine AllReadyH.cons (o := { dst := some 68, op := Go.Op.call { callee := Go.Callee.value (Go.Operand.func 11), args := #[Go.Operand.tmp 62, Go.Operand.tmp 67], argTypes := #[29, 9] }, type := 31, pos := "more.go:35", after := #[{ on := 0, ground := Go.Ground.data }, { on := 5, ground := Go.Ground.data }], guard := none }) rfl (fun kK hkK => ?_) ?_
          · go_simp
            refine (HA3.out _ hHeld.vs).mono ?_
            rintro e v4 ⟨G, hX, rfl, hO, hq⟩
            have hS := hHeld.next hq
            have og := hO.ofs kz.lt
            have kz := kz.next hq
            have oq : ∀ q ∈ ([(g1, Cg.th G1), (gl, rowT s1 s2 s3), (w.heap.size + 1, O.th), (w.heap.size, K.th)] : List (Nat × Th)), G.Ofs q.1 := fun q hq => hO.ofs (hHeld.vs.lt hq)
            have hG := hO.at (Nat.le_refl _)
            clear hO hq hHeld
            dsimp only
            refine hkK.out _ _ hS (fun hHeld => ?_)
            clear hkK kK
            try simp only [Act.put, List.setIfInBounds_toArray, List.set_cons_zero, List.set_cons_succ]
            refine wpAnyH_take (i := 7) (oi := { dst := some 61, op := Go.Op.move (Go.Operand.tmp 68), type := 31, pos := "more.go:35", after := #[{ on := 6, ground := Go.Ground.data }], guard := none }) (v := ?_) rfl (by kernel_rfl) (by kernel_rfl) (by kernel_rfl) (fun _ _ _ h => nomatch h.1) (Or.inl ⟨by rfl, ?_⟩) hHeld ?_
            rotate_left
            · intro W hSw
              go_simp
              try with_reducible rfl
            try simp only [Act.put, List.setIfInBounds_toArray, List.set_cons_zero, List.set_cons_succ]
            refine wpAnyH_take (i := 8) (oi := { dst := some 69, op := Go.Op.extract (Go.Operand.tmp 61) 0, type := 29, pos := "more.go:35", after := #[{ on := 7, ground := Go.Ground.data }], guard := none }) (v := ?_) rfl (by kernel_rfl) (by kernel_rfl) (by kernel_rfl) (fun _ _ _ h => nomatch h.1) (Or.inl ⟨by rfl, ?_⟩) hHeld ?_
            rotate_left
            · intro W hSw
              go_simp
              try with_reducible rfl
            try simp only [Act.put, List.setIfInBounds_toArray, List.set_cons_zero, List.set_cons_succ]
            refine wpAnyH_take (i := 9) (oi := { dst := some 70, op := Go.Op.extract (Go.Operand.tmp 61) 1, type := 3, pos := "more.go:35", after := #[{ on := 7, ground := Go.Ground.data }, { on := 11, ground := Go.Ground.gcOnly Go.Departure.lateStores }], guard := none }) (v := ?_) rfl (by kernel_rfl) (by kernel_rfl) (by kernel_rfl) (fun _ _ _ h => nomatch h.1) (Or.inl ⟨by rfl, ?_⟩) hHeld ?_
            rotate_left
            · intro W hSw
              go_simp
              try with_reducible rfl
            try simp only [Act.put, List.setIfInBounds_toArray, List.set_cons_zero, List.set_cons_succ]
            refine wpAnyH_ready (rs := [11]) (by kernel_rfl) (by simp) ?_
            refine AllReadyH.cons (o := { dst := none, op := Go.Op.store 29 (Go.Operand.tmp 11) (Go.Operand.tmp 69), type := 0, pos := "more.go:35", after := #[{ on := 10, ground := Go.Ground.data }, { on := 8, ground := Go.Ground.data }, { on := 6, ground := Go.Ground.chain }, { on := 0, ground := Go.Ground.phase }, { on := 1, ground := Go.Ground.phase }, { on := 2, ground := Go.Ground.phase }, { on := 3, ground := Go.Ground.phase }, { on := 4, ground := Go.Ground.phase }, { on := 5, ground := Go.Ground.phase }, { on := 6, ground := Go.Ground.phase }, { on := 7, ground := Go.Ground.phase }, { on := 8, ground := Go.Ground.phase }, { on := 9, ground := Go.Ground.textOnly Go.Departure.lateStores }, { on := 10, ground := Go.Ground.phase }], guard := none }) rfl (fun kK hkK => ?_) ?_
            · have hvn := hHeld.vs.var (W := wq1) hv zge kz rfl hG og oq
              have hS : Sg w [(g1, Cg.th G1), (gl, rowT s1 s2 s3), (w.heap.size + 1, O.th), (w.heap.size, K.th)] wq1 (v4.setCells (wq1.heap.size) 0 G.cells.toList) := ⟨hvn.less (fun _ hp => List.mem_cons_of_mem _ hp), below_puts hHeld.bl hHeld.bl.size zge 0 _⟩
              rw [if_pos (by rfl)]
              refine wp_store_mid 29 (.tmp 11) (.tmp 69) rfl (wq1.heap.size) 0 G.cells rfl rfl (there_of_blk kz 0 _ (Nat.le_refl 18)) Try.size29 (by simp [Cg.cells, Value.oneCell']) ?_
              refine hkK.out _ _ hS (fun hHeld => ?_)
              clear hkK kK
              try simp only [Act.put]
              refine wpAnyH_take (i := 12) (oi := { dst := some 12, op := Go.Op.assign (Go.Operand.tmp 70), type := 3, pos := "more.go:35", after := #[{ on := 9, ground := Go.Ground.data }, { on := 11, ground := Go.Ground.chain }, { on := 0, ground := Go.Ground.phase }, { on := 1, ground := Go.Ground.phase }, { on := 2, ground := Go.Ground.phase }, { on := 3, ground := Go.Ground.phase }, { on := 4, ground := Go.Ground.phase }, { on := 5, ground := Go.Ground.phase }, { on := 6, ground := Go.Ground.phase }, { on := 7, ground := Go.Ground.phase }, { on := 8, ground := Go.Ground.phase }, { on := 9, ground := Go.Ground.phase }, { on := 10, ground := Go.Ground.phase }, { on := 11, ground := Go.Ground.phase }], guard := none }) (v := ?_) rfl (by kernel_rfl) (by kernel_rfl) (by kernel_rfl) (fun _ _ _ h => nomatch h.1) (Or.inl ⟨by rfl, ?_⟩) hHeld ?_
              rotate_left
              · intro W hSw
                go_simp
                try with_reducible rfl
              try simp only [Act.put, List.setIfInBounds_toArray, List.set_cons_zero, List.set_cons_succ]
              refine wpAnyH_done (by kernel_rfl) ?_ _
              refine ⟨rfl, _, _, hX, ?_, hvn⟩
              rfl
            exact AllReadyH.nil
          exact AllReadyH.nil
        exact AllReadyH.nil
      rintro a' wq2 ⟨g2, G2, hX2, rfl, hvn⟩
      have HVN := Lib.hid (hvn.less (L' := [(gl, rowT s1 s2 s3), (w.heap.size + 1, O.th), (w.heap.size, K.th)]) (fun _ hp => List.mem_cons_of_mem _ (List.mem_cons_of_mem _ hp)))
      clear hv HA3 hX2 hvn
      simp only [Act.put, List.setIfInBounds_toArray, List.set_cons_zero, List.set_cons_succ]
      go_wp2_with fail
      go_roundw
      case rel => exact ⟨k + 1, by omega, by go_num, HVN.out⟩
      case measure => simp [intOf]; omega
    · obtain rfl : k = 3 := by omega
      have HV2 := Lib.hid hv
      clear hv
      go_wp2_with fail
      refine (fixed_any _).mono ?_
      rintro e w9 ⟨rfl, hq⟩
      have HQ := Lib.hid (HV2.out.next hq).below
      clear hq HV2
      go_wp2
      go_ret
      exact ⟨rfl, HQ.out⟩
theorem bits16 (n : Int) : ∃ C : Nat, bits .and .i64 n 65535 = (C : Int) ∧ C ≤ 65535 := by
  have hX : bits .and .i64 n 65535 = n % 65536 := by
    have e : (BitVec.ofInt 64 65535).toNat = 2 ^ 16 - 1 := by decide
    have k : (BitVec.ofInt 64 n &&& BitVec.ofInt 64 65535).toNat = (n % ((2 ^ 64 : Nat) : Int)).toNat % 2 ^ 16 := by
      rw [BitVec.toNat_and, BitVec.toNat_ofInt, e, Nat.and_two_pow_sub_one_eq_mod]
    show IntKind.i64.wrap ((BitVec.ofInt 64 n &&& BitVec.ofInt 64 65535).toNat : Nat) = _
    rw [k, IntKind.wrap_i64]
    omega
  rw [hX]
  exact ⟨(n % 65536).toNat, by omega, by omega⟩
theorem rigid1 (n o : Int) : Rigid (cmdS 0 n [lowS o 1]) 3 :=
  ⟨by rw [cmd_bs, bs_size]; simp only [catL, List.length_append, lowL_length, List.map_cons, List.map_nil, List.flatten_cons, List.flatten_nil, List.append_nil]; have : (lowS o 1).data.toList.length = 1 := lowL_length _ _; omega,
   by omega, .inl ⟨by rw [cmd_c]; rfl, rfl⟩⟩
theorem rigid2 (n o : Int) : Rigid (cmdS 2 n [lowS o 2]) 4 :=
  ⟨by rw [cmd_bs, bs_size]; simp only [catL, List.length_append, lowL_length, List.map_cons, List.map_nil, List.flatten_cons, List.flatten_nil, List.append_nil]; have : (lowS o 2).data.toList.length = 2 := lowL_length _ _; omega,
   by omega, .inr (.inl ⟨by rw [cmd_c]; rfl, rfl⟩)⟩
theorem rigid3 (o : Int) : Rigid (cmdS 4 0 [lowS o 2]) 4 :=
  ⟨by rw [cmd_bs, bs_size]; simp only [catL, List.length_append, lowL_length, List.map_cons, List.map_nil, List.flatten_cons, List.flatten_nil, List.append_nil]; have : (lowS o 2).data.toList.length = 2 := lowL_length _ _; omega,
   by omega, .inr (.inr ⟨by rw [cmd_c]; rfl, by rw [cmd_n]; rfl, rfl⟩)⟩
theorem controlCuts_any (K0 : Cg) (O : Cm) (cut : Int) (w : World) (hK : K0.At w.heap.size w) (hF : K0.Fit) (hO : O.At w.heap.size w) :
    Calls Try.prog 8 #[.agg K0.cells, .agg O.cells, .int .i64 cut] w fun e w' => e = .returned (.bool true) ∧ Below w.heap.size w w' := by
  obtain ⟨N7, hN⟩ : ∃ x, bits .and .i64 O.n 7 = x := ⟨_, rfl⟩
  obtain ⟨V12, hV⟩ : ∃ x, bits .and .i64 O.vl 4095 = x := ⟨_, rfl⟩
  obtain ⟨P4, hP⟩ : ∃ x, bits .and .i64 O.pr 15 = x := ⟨_, rfl⟩
  obtain ⟨C, hC, hC2⟩ := bits16 cut
  have R1 := rigid1 N7 (onV O.on)
  have R2 := rigid2 (1 - onV O.on) V12
  have R3 := rigid3 P4
  have hR : ∀ s, s = cmdS 0 N7 [lowS (onV O.on) 1] ∨ s = cmdS 2 (1 - onV O.on) [lowS V12 2] ∨ s = cmdS 4 0 [lowS P4 2] → ∃ m, Rigid s m ∧ m ≤ 4 := by
    rintro s (rfl | rfl | rfl)
    · exact ⟨3, R1, by omega⟩
    · exact ⟨4, R2, by omega⟩
    · exact ⟨4, R3, by omega⟩
  refine cuts_walk K0 (bndC K0) O cut w (bndC_at hK) hO N7 V12 P4 hN hV hP C hC hC2 _ _ _ (resC (bndC K0)) (fun W => bound_any K0 W hF) (fun W => rx_any N7 O.on W) (fun W => vlan_any V12 O.on W) (fun W => pairs_any P4 W) ?_ ?_ ?_
  · intro s h
    obtain ⟨m, ⟨h1, h2, _⟩, h4⟩ := hR s h
    omega
  · intro s h c hc W hW
    obtain ⟨m, hm, h4⟩ := hR s h
    have hz : (s.extract 0 c).size ≤ maxLen := by
      have := hm.1
      rw [ByteArray.size_extract]; unfold maxLen; omega
    have e := rigid_cut (bndC K0) hm c hc
    have q := capply_any (bndC K0) _ W hz hW (bndC_room K0)
    rw [e] at q
    exact q
  · intro s h W hW
    obtain ⟨m, hm, h4⟩ := hR s h
    have hz : (s ++ ⟨#[0]⟩ : ByteArray).size ≤ maxLen := by
      have := hm.1
      rw [ByteArray.size_append, this]; show m + 1 ≤ maxLen; unfold maxLen; omega
    have e : ackC (bndC K0) (s ++ ⟨#[0]⟩) = 1 := rigid_more (bndC K0) hm
    have q := capply_any (bndC K0) _ W hz hW (bndC_room K0)
    rw [e] at q
    exact q

set_option maxRecDepth 100000 in
theorem controlCuts_lifted (os : Os) (started : os.Started) (H : Type) (enc : TypeId × Value → H) :
    ReturnsInHanded {} Try.checked os 8 .any (Rows.controlCutsSpec.pre6 enc Try.prog Try.f8 Rows.controlCutsRow.domain false) (Rows.controlCutsSpec.post enc Try.prog Try.f8 false true false false) := by
  have e : Try.f8.params.toList = [29, 37, 3] := by rw [Try.params8]
  refine law_of_walk (C := Try.checked) (tb := 4) H enc Try.own started (by kernel_rfl) Try.func8 Try.laidOut rfl rfl Try.underlying4 ?_ ?_
    (ChangeSpec.witness6 (enc := enc) (C := Try.checked) false ⟨#[], #[.agg #[.string ByteArray.empty, .bool false, .bool false, .bool false, .bool false, .bool false, .bool false, .slice none 0 0, .slice none 0 0, .bool false, .slice none 0 0, .int .i64 0, .int .i64 0, .bool false, .int .i64 0, .slice none 0 0, .string ByteArray.empty, .int .i64 0], .agg #[.int .i64 0, .int .i64 0, .int .i64 0, .bool false, .slice none 0 0, .slice none 0 0, .string ByteArray.empty, .int .i64 0, .slice none 0 0, .string ByteArray.empty, .int .i64 0], .int .i64 0], []⟩ 8 (by kernel_rfl) (by kernel_rfl) (by kernel_rfl) (by kernel_rfl)) ?_
  · rw [e]
    intro t ht
    simp only [List.mem_cons, List.not_mem_nil, or_false] at ht
    rcases ht with rfl | rfl | rfl <;> exact ⟨by kernel_rfl, of_decide_eq_true (by kernel_rfl)⟩
  · intro ds hds
    rw [e] at hds
    match ds, hds with
    | [d0, d1, d2], _ => rfl
  · intro W base args ds p hval0 hA0 hsz0
    have hval : ∀ (j : Nat) t v, Try.f8.params[j]? = some t → args[j]? = some v → Value.okWide Try.prog W .any base t v := hval0
    have hA : DataW.TrodAll enc Try.prog W 0 (fun _ => true) true Try.f8.params.toList args.toList ds p := hA0
    have hsz : (DataW.weightsEach Try.prog Try.f8.params.toList ds).all (· ≤ reachBytes) = true := hsz0
    rw [Try.params8] at hA hval hsz
    obtain ⟨v0, v1, v2, d0, d1, d2, p0, p1, p2, rfl, rfl, rfl, h0, h1, h2⟩ := trodAll_three hA
    obtain ⟨K0, rfl, hK0, fK0, mK0, kK0⟩ := open_config (hval 0 29 v0 rfl rfl) h0
    obtain ⟨O1, rfl, hO1, fO1, kO1, qO1⟩ := open_cmd (hval 1 37 v1 rfl rfl) h1
    obtain ⟨x2, rfl, rfl, rfl, k2⟩ := open_int Try.underlying3 (hval 2 3 v2 rfl rfl) h2
    have i2 := bounds_i64 k2
    exact controlCuts_any K0 O1 x2 W hK0 fK0 hO1

theorem controlCuts_holds : Rows.ControlCutsSaid :=
  OpenClaim.holds_of_wide 8 Try.f8 rfl rfl rfl rfl rfl rfl rfl ⟨rfl, rfl, rfl, rfl, rfl⟩ rfl rfl rfl rfl rfl (by kernel_rfl) Try.func8 (by kernel_rfl)
    (of_decide_eq_true (by kernel_rfl)) (by unfold Func.isWrapper; first | (rw [if_pos (by decide +kernel)]; kernel_rfl) | (rw [if_neg (by decide +kernel)]; exact ⟨rfl, rfl⟩))
    (fun os started H enc _ => controlCuts_lifted os started H enc)
end Go.Proofs.Ytongkfimgohhbaa
