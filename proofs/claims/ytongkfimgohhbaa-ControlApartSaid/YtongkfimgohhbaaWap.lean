/-
  ControlApart: commands of what is received leave addresses and networks alone, and the other way round: for all settings and commands.
-/
import Derived.Test.YtongkfimgohhbaaLw
namespace Go.Proofs.Ytongkfimgohhbaa
open Go.Joins Go.ChangeShapes Go.WideShapes Go.ChangeAt Go.RowKit Go.Deep
open Go.ChangeMaps (open_string)

@[reducible] def xOf (G K : Cg) : Cg := { G with f := { G.f with pr := K.f.pr, am := K.f.am, au := K.f.au, nm := K.f.nm, nu := K.f.nu, na := K.f.na } }
@[reducible] def yOf (G K : Cg) : Cg := { G with f := { G.f with V := K.f.V, vs := K.f.vs, vc := K.f.vc } }
theorem x_same {X G K : Cg} (h : X.Same G) (hx : xOf X K = K) : K.Same (xOf G K) := by
  have e : ∀ {α : Type} (p : Cg → α), p (xOf X K) = p K := fun p => by rw [hx]
  exact ⟨⟨h.f.mac.trans (e (·.f.mac)), rfl, rfl, rfl, rfl, rfl, rfl, h.f.us.trans (e (·.f.us)), h.f.ms.trans (e (·.f.ms)), h.f.vo.trans (e (·.f.vo)), h.f.vs.trans (e (·.f.vs))⟩,
    h.pairs.trans (e (·.pairs)), h.mx.trans (e (·.mx)), h.on.trans (e (·.on)), h.kinds.trans (e (·.kinds)), h.tb.trans (e (·.tb)), h.key.trans (e (·.key)), h.df.trans (e (·.df))⟩
theorem y_same {X G K : Cg} (h : X.Same G) (hx : ({ X with f := { X.f with vs := K.f.vs } } : Cg) = K) : K.Same (yOf G K) := by
  have e : ∀ {α : Type} (p : Cg → α), p ({ X with f := { X.f with vs := K.f.vs } } : Cg) = p K := fun p => by rw [hx]
  exact ⟨⟨h.f.mac.trans (e (·.f.mac)), h.f.pr.trans (e (·.f.pr)), h.f.au.trans (e (·.f.au)), h.f.am.trans (e (·.f.am)), h.f.nu.trans (e (·.f.nu)), h.f.nm.trans (e (·.f.nm)), h.f.na.trans (e (·.f.na)), h.f.us.trans (e (·.f.us)), h.f.ms.trans (e (·.f.ms)), h.f.vo.trans (e (·.f.vo)), rfl⟩,
    h.pairs.trans (e (·.pairs)), h.mx.trans (e (·.mx)), h.on.trans (e (·.on)), h.kinds.trans (e (·.kinds)), h.tb.trans (e (·.tb)), h.key.trans (e (·.key)), h.df.trans (e (·.df))⟩
set_option maxRecDepth 100000 in
set_option maxHeartbeats 8000000 in
theorem apart_walk (K0 K : Cg) (O : Cm) (w : World) (hK : K.At w.heap.size w) (hl : K.Room) (hO : O.At w.heap.size w) (N7 V16 : Int) (hN : bits .and .i64 O.n 7 = N7) (hV : bits .and .i64 O.vl 65535 = V16)
    (s1 s2 : ByteArray) (X1 X2 : Cg) (n1 n2 : Int)
    (AB : ∀ W, Calls Try.prog 9 #[.agg K0.cells] W fun e w' => e = .returned (.agg K.cells) ∧ Below W.heap.size W w')
    (E1 : ∀ W, Calls Try.prog 14 #[.int .i64 N7, .bool O.on] W fun e w' => e = .returned (.string s1) ∧ Below W.heap.size W w')
    (E2 : ∀ W, Calls Try.prog 19 #[.int .i64 V16, .bool O.on] W fun e w' => e = .returned (.string s2) ∧ Below W.heap.size W w')
    (P1 : ∀ W, K.At W.heap.size W → Calls Try.prog 11 #[.agg K.cells, .string s1] W (AppP X1 n1 W))
    (P2 : ∀ W, K.At W.heap.size W → Calls Try.prog 11 #[.agg K.cells, .string s2] W (AppP X2 n2 W))
    (h1 : n1 = 0 ∨ (n1 = 1 ∧ X1 = K)) (h2 : n2 = 0 ∨ (n2 = 1 ∧ X2 = K)) (hx1 : xOf X1 K = K) (hx2 : ({ X2 with f := { X2.f with vs := K.f.vs } } : Cg) = K) :
    Calls Try.prog 7 #[.agg K0.cells, .agg O.cells] w fun e w' => e = .returned (.bool true) ∧ Below w.heap.size w w' := by
  have HB := Lib.hid AB
  have HE1 := Lib.hid E1
  have HE2 := Lib.hid E2
  have HP1 := Lib.hid P1
  have HP2 := Lib.hid P2
  have HH1 := Lib.hid h1
  have HH2 := Lib.hid h2
  have HX1 := Lib.hid hx1
  have HX2 := Lib.hid hx2
  clear AB E1 E2 P1 P2 h1 h2 hx1 hx2
  have k0 : Blk ((w.alloc (.cells K0.cells 29)).alloc (.cells O.cells 37)) w.heap.size 29 K0.cells := (Blk.new w _ _).alloc _
  have HK0 := Lib.hid k0
  clear k0
  go_enter Try.func7, Try.ntmps7
  go_wp2_with ((with_reducible refine lw_cfg HK0.out ?_ (.tmp 2) ?_ ?_ ?_); (· rfl); (· rfl); (· rfl); simp only [Act.put, List.setIfInBounds_toArray, List.set_cons_succ, List.set_cons_zero])
  refine (HB.out _).mono ?_
  rintro e w1 ⟨rfl, hq⟩
  have kz := HK0.out.next hq
  have hv := vs_law hK hO hq
  obtain ⟨wr, hwr⟩ : ∃ x, (w1.setCells w.heap.size 0 K.cells.toList) = x := ⟨_, rfl⟩
  rw [hwr] at hv
  have HW := Lib.hid hwr
  have HZ := Lib.hid kz
  have HFew := Lib.hid hl
  clear hwr kz hq HB HK0 hl hK hO
  dsimp only
  go_wp2_with ((with_reducible refine sw_cfg (G := K) HZ.out ?_ ?_ (.tmp 2) (.tmp 12) ?_ ?_ ?_ ?_); (· rfl); (· rfl); (· rfl); (· rfl); (· rfl); simp only [Act.put]; rw [HW.out])
  clear HW HZ
  have HA := Lib.hid (fun W (h : Vs w [(w.heap.size + 1, O.th), (w.heap.size, K.th)] W) => HP1.out W (h.at (show (w.heap.size, K.th) ∈ ([(w.heap.size + 1, O.th), (w.heap.size, K.th)] : List (Nat × Th)) from (List.mem_cons_of_mem _ List.mem_cons_self))))
  refine region_cut (fun a a' w' => ∃ (g : Nat) (G : Cg), Cg.Same X1 G ∧ a' = (((((((((((((a.put (some 14) (.agg (Cg.cells K))).put (some 15) (.pointer (some ⟨w.heap.size + 1, 0, none⟩))).put (some 16) (.int .i64 O.n)).put (some 17) (.int .i64 N7)).put (some 18) (.pointer (some ⟨w.heap.size + 1, 3, none⟩))).put (some 19) (.bool O.on)).put (some 20) (.string s1)).put (some 21) (.tuple #[.agg G.cells, .int .i64 (n1)])).put (some 13) (.tuple #[.agg G.cells, .int .i64 (n1)])).put (some 22) (.agg G.cells)).put (some 23) (.int .i64 (n1))).put (some 5) (.pointer (some ⟨g, 0, none⟩))).put (some 6) (.int .i64 (n1))) ∧ Vs w ((g, G.th) :: [(w.heap.size + 1, O.th), (w.heap.size, K.th)]) w') ?_ ?_
  · refine wp_region_held_drew (S := Sg w [(w.heap.size + 1, O.th), (w.heap.size, K.th)] wr) (by kernel_rfl) (Sg.start hv) (fun hHeld => ?_)
    refine wpAnyH_take (i := 0) (oi := { dst := some 14, op := Go.Op.load 29 (Go.Operand.tmp 2), type := 29, pos := "more.go:13", after := #[], guard := none }) (v := .agg (Cg.cells K)) rfl (by kernel_rfl) (by kernel_rfl) (by kernel_rfl) (fun _ _ _ h => nomatch h.1) (yieldsIf_load_mid (by rfl) 29 (.tmp 2) rfl _ 0 rfl (Cg.cells K).toList _ (row_cfg (show (w.heap.size, K.th) ∈ ([(w.heap.size + 1, O.th), (w.heap.size, K.th)] : List (Nat × Th)) from (List.mem_cons_of_mem _ List.mem_cons_self))) Try.underlying29 rfl Try.size29) hHeld ?_
    try simp only [Act.put, List.setIfInBounds_toArray, List.set_cons_zero, List.set_cons_succ]
    refine wpAnyH_take (i := 1) (oi := { dst := some 15, op := Go.Op.fieldAddr 37 (Go.Operand.tmp 3) 0, type := 0, pos := "more.go:13", after := #[], guard := none }) (v := ?_) rfl (by kernel_rfl) (by kernel_rfl) (by kernel_rfl) (fun _ _ _ h => nomatch h.1) (Or.inl ⟨by rfl, ?_⟩) hHeld ?_
    rotate_left
    · intro W hSw
      go_simp
      try with_reducible rfl
    try simp only [Act.put, List.setIfInBounds_toArray, List.set_cons_zero, List.set_cons_succ]
    refine wpAnyH_take (i := 2) (oi := { dst := some 16, op := Go.Op.load 3 (Go.Operand.tmp 15), type := 3, pos := "more.go:13", after := #[{ on := 1, ground := Go.Ground.data }], guard := none }) (v := ?_) rfl (by kernel_rfl) (by kernel_rfl) (by kernel_rfl) (fun _ _ _ h => nomatch h.1) (Or.inl ⟨by rfl, ?_⟩) hHeld ?_
    rotate_left
    · intro W hSw
      have kq : Blk W (w.heap.size + 1) 37 O.cells := hSw.vs.get (show (w.heap.size + 1, O.th) ∈ ([(w.heap.size + 1, O.th), (w.heap.size, K.th)] : List (Nat × Th)) from List.mem_cons_self)
      have q0 := kq.cell 0
      simp only [List.getElem?_toArray, List.getElem?_cons_zero] at q0
      go_simp
      try with_reducible rfl
    try simp only [Act.put, List.setIfInBounds_toArray, List.set_cons_zero, List.set_cons_succ]
    refine wpAnyH_take (i := 3) (oi := { dst := some 17, op := Go.Op.binOp Go.BinOp.and 3 (Go.Operand.tmp 16) (Go.Operand.const (Go.Value.int Go.IntKind.i64 7)) 3, type := 3, pos := "more.go:13", after := #[{ on := 2, ground := Go.Ground.data }], guard := none }) (v := ?_) rfl (by kernel_rfl) (by kernel_rfl) (by kernel_rfl) (fun _ _ _ h => nomatch h.1) (Or.inl ⟨by rfl, ?_⟩) hHeld ?_
    rotate_left
    · intro W hSw
      go_simp
      try with_reducible rfl
    try simp only [Act.put, List.setIfInBounds_toArray, List.set_cons_zero, List.set_cons_succ]
    refine wpAnyH_take (i := 4) (oi := { dst := some 18, op := Go.Op.fieldAddr 37 (Go.Operand.tmp 3) 3, type := 0, pos := "more.go:13", after := #[], guard := none }) (v := ?_) rfl (by kernel_rfl) (by kernel_rfl) (by kernel_rfl) (fun _ _ _ h => nomatch h.1) (Or.inl ⟨by rfl, ?_⟩) hHeld ?_
    rotate_left
    · intro W hSw
      go_simp
      try with_reducible rfl
    try simp only [Act.put, List.setIfInBounds_toArray, List.set_cons_zero, List.set_cons_succ]
    refine wpAnyH_take (i := 5) (oi := { dst := some 19, op := Go.Op.load 4 (Go.Operand.tmp 18), type := 4, pos := "more.go:13", after := #[{ on := 4, ground := Go.Ground.data }], guard := none }) (v := ?_) rfl (by kernel_rfl) (by kernel_rfl) (by kernel_rfl) (fun _ _ _ h => nomatch h.1) (Or.inl ⟨by rfl, ?_⟩) hHeld ?_
    rotate_left
    · intro W hSw
      have kq : Blk W (w.heap.size + 1) 37 O.cells := hSw.vs.get (show (w.heap.size + 1, O.th) ∈ ([(w.heap.size + 1, O.th), (w.heap.size, K.th)] : List (Nat × Th)) from List.mem_cons_self)
      have q3 := kq.cell 3
      simp only [List.getElem?_toArray, List.getElem?_cons_zero, List.getElem?_cons_succ] at q3
      go_simp
      try with_reducible rfl
    try simp only [Act.put, List.setIfInBounds_toArray, List.set_cons_zero, List.set_cons_succ]
    refine wpAnyH_ready (rs := [6, 11]) (by kernel_rfl) (by simp) ?_
    refine AllReadyH.cons (o := { dst := some 20, op := Go.Op.call { callee := Go.Callee.value (Go.Operand.func 14), args := #[Go.Operand.tmp 17, Go.Operand.tmp 19], argTypes := #[3, 4] }, type := 9, pos := "more.go:13", after := #[{ on := 3, ground := Go.Ground.data }, { on := 5, ground := Go.Ground.data }], guard := none }) rfl (fun kK hkK => ?_) ?_
    · go_simp
      refine (HE1.out _).mono ?_
      rintro e v1 ⟨rfl, hq⟩
      have hS := hHeld.next hq
      clear hq hHeld
      dsimp only
      refine hkK.out _ _ hS (fun hHeld => ?_)
      clear hkK kK
      try simp only [Act.put, List.setIfInBounds_toArray, List.set_cons_zero, List.set_cons_succ]
      refine wpAnyH_ready (rs := [7, 11]) (by kernel_rfl) (by simp) ?_
      refine AllReadyH.cons (o := { dst := some 21, op := Go.Op.call { callee := Go.Callee.value (Go.Operand.func 11), args := #[Go.Operand.tmp 14, Go.Operand.tmp 20], argTypes := #[29, 9] }, type := 31, pos := "more.go:13", after := #[{ on := 0, ground := Go.Ground.data }, { on := 6, ground := Go.Ground.data }, { on := 6, ground := Go.Ground.chain }], guard := none }) rfl (fun kK hkK => ?_) ?_
      · go_simp
        refine (HA.out _ hHeld.vs).mono ?_
        rintro e v2 ⟨G, hX, rfl, hO, hq⟩
        have hS := hHeld.next hq
        have oq : ∀ q ∈ ([(w.heap.size + 1, O.th), (w.heap.size, K.th)] : List (Nat × Th)), G.Ofs q.1 := fun q hq => hO.ofs (hHeld.vs.lt hq)
        have hG := hO.at (Nat.le_refl _)
        clear hO hq hHeld
        dsimp only
        refine hkK.out _ _ hS (fun hHeld => ?_)
        clear hkK kK
        try simp only [Act.put, List.setIfInBounds_toArray, List.set_cons_zero, List.set_cons_succ]
        refine wpAnyH_take (i := 8) (oi := { dst := some 13, op := Go.Op.move (Go.Operand.tmp 21), type := 31, pos := "more.go:13", after := #[{ on := 7, ground := Go.Ground.data }], guard := none }) (v := ?_) rfl (by kernel_rfl) (by kernel_rfl) (by kernel_rfl) (fun _ _ _ h => nomatch h.1) (Or.inl ⟨by rfl, ?_⟩) hHeld ?_
        rotate_left
        · intro W hSw
          go_simp
          try with_reducible rfl
        try simp only [Act.put, List.setIfInBounds_toArray, List.set_cons_zero, List.set_cons_succ]
        refine wpAnyH_take (i := 9) (oi := { dst := some 22, op := Go.Op.extract (Go.Operand.tmp 13) 0, type := 29, pos := "more.go:13", after := #[{ on := 8, ground := Go.Ground.data }], guard := none }) (v := ?_) rfl (by kernel_rfl) (by kernel_rfl) (by kernel_rfl) (fun _ _ _ h => nomatch h.1) (Or.inl ⟨by rfl, ?_⟩) hHeld ?_
        rotate_left
        · intro W hSw
          go_simp
          try with_reducible rfl
        try simp only [Act.put, List.setIfInBounds_toArray, List.set_cons_zero, List.set_cons_succ]
        refine wpAnyH_take (i := 10) (oi := { dst := some 23, op := Go.Op.extract (Go.Operand.tmp 13) 1, type := 3, pos := "more.go:13", after := #[{ on := 8, ground := Go.Ground.data }, { on := 12, ground := Go.Ground.gcOnly Go.Departure.lateStores }], guard := none }) (v := ?_) rfl (by kernel_rfl) (by kernel_rfl) (by kernel_rfl) (fun _ _ _ h => nomatch h.1) (Or.inl ⟨by rfl, ?_⟩) hHeld ?_
        rotate_left
        · intro W hSw
          go_simp
          try with_reducible rfl
        try simp only [Act.put, List.setIfInBounds_toArray, List.set_cons_zero, List.set_cons_succ]
        refine wpAnyH_ready (rs := [11]) (by kernel_rfl) (by simp) ?_
        refine AllReadyH.cons (o := { dst := some 5, op := Go.Op.alloc 29, type := 0, pos := "more.go:13", after := #[], guard := none }) rfl (fun kK hkK => ?_) ?_
        · go_simp
          obtain ⟨v3, hvv3⟩ : ∃ x, (v2.alloc (.cells #[.string ⟨#[]⟩, .bool false, .bool false, .bool false, .bool false, .bool false, .bool false, .slice none 0 0, .slice none 0 0, .bool false, .slice none 0 0, .int .i64 0, .int .i64 0, .bool false, .int .i64 0, .slice none 0 0, .string ⟨#[]⟩, .int .i64 0] 29)) = x := ⟨_, rfl⟩
          have kz0 := Blk.new v2 29 zeroC
          have kz : Blk v3 v2.heap.size 29 zeroC := hvv3 ▸ (show Blk (v2.alloc (.cells #[.string ⟨#[]⟩, .bool false, .bool false, .bool false, .bool false, .bool false, .bool false, .slice none 0 0, .slice none 0 0, .bool false, .slice none 0 0, .int .i64 0, .int .i64 0, .bool false, .int .i64 0, .slice none 0 0, .string ⟨#[]⟩, .int .i64 0] 29)) _ _ _ from kz0)
          have zge : wr.heap.size ≤ v2.heap.size := hHeld.bl.size
          have hS : Sg w [(w.heap.size + 1, O.th), (w.heap.size, K.th)] wr v3 := hvv3 ▸ (show Sg w [(w.heap.size + 1, O.th), (w.heap.size, K.th)] wr (v2.alloc (.cells #[.string ⟨#[]⟩, .bool false, .bool false, .bool false, .bool false, .bool false, .bool false, .slice none 0 0, .slice none 0 0, .bool false, .slice none 0 0, .int .i64 0, .int .i64 0, .bool false, .int .i64 0, .slice none 0 0, .string ⟨#[]⟩, .int .i64 0] 29)) from hHeld.alloc (.cells zeroC 29))
          have og := hG.ofs (Nat.le_refl _)
          have hG : G.At v3.heap.size v3 := hvv3 ▸ (show G.At (World.heap (v2.alloc (.cells #[.string ⟨#[]⟩, .bool false, .bool false, .bool false, .bool false, .bool false, .bool false, .slice none 0 0, .slice none 0 0, .bool false, .slice none 0 0, .int .i64 0, .int .i64 0, .bool false, .int .i64 0, .slice none 0 0, .string ⟨#[]⟩, .int .i64 0] 29))).size (v2.alloc (.cells #[.string ⟨#[]⟩, .bool false, .bool false, .bool false, .bool false, .bool false, .bool false, .slice none 0 0, .slice none 0 0, .bool false, .slice none 0 0, .int .i64 0, .int .i64 0, .bool false, .int .i64 0, .slice none 0 0, .string ⟨#[]⟩, .int .i64 0] 29)) from hG.alloc (.cells zeroC 29))
          rw [hvv3]
          clear hvv3 hHeld kz0
          refine hkK.out _ _ hS (fun hHeld => ?_)
          clear hkK kK
          try simp only [Act.put, List.setIfInBounds_toArray, List.set_cons_zero, List.set_cons_succ]
          refine wpAnyH_ready (rs := [12]) (by kernel_rfl) (by simp) ?_
          refine AllReadyH.cons (o := { dst := none, op := Go.Op.store 29 (Go.Operand.tmp 5) (Go.Operand.tmp 22), type := 0, pos := "more.go:13", after := #[{ on := 11, ground := Go.Ground.data }, { on := 9, ground := Go.Ground.data }, { on := 7, ground := Go.Ground.chain }, { on := 0, ground := Go.Ground.phase }, { on := 1, ground := Go.Ground.phase }, { on := 2, ground := Go.Ground.phase }, { on := 3, ground := Go.Ground.phase }, { on := 4, ground := Go.Ground.phase }, { on := 5, ground := Go.Ground.phase }, { on := 6, ground := Go.Ground.phase }, { on := 7, ground := Go.Ground.phase }, { on := 8, ground := Go.Ground.phase }, { on := 9, ground := Go.Ground.phase }, { on := 10, ground := Go.Ground.textOnly Go.Departure.lateStores }, { on := 11, ground := Go.Ground.phase }], guard := none }) rfl (fun kK hkK => ?_) ?_
          · have hvn := hHeld.vs.var (W := wr) hv zge kz rfl hG og oq
            have hS : Sg w [(w.heap.size + 1, O.th), (w.heap.size, K.th)] wr (v3.setCells (v2.heap.size) 0 G.cells.toList) := ⟨hvn.less (fun _ hp => List.mem_cons_of_mem _ hp), below_puts hHeld.bl hHeld.bl.size zge 0 _⟩
            rw [if_pos (by rfl)]
            refine wp_store_mid 29 (.tmp 5) (.tmp 22) rfl (v2.heap.size) 0 G.cells rfl rfl (there_of_blk kz 0 _ (Nat.le_refl 18)) Try.size29 (by simp [Cg.cells, Value.oneCell']) ?_
            refine hkK.out _ _ hS (fun hHeld => ?_)
            clear hkK kK
            try simp only [Act.put]
            refine wpAnyH_take (i := 13) (oi := { dst := some 6, op := Go.Op.assign (Go.Operand.tmp 23), type := 3, pos := "more.go:13", after := #[{ on := 10, ground := Go.Ground.data }, { on := 12, ground := Go.Ground.chain }, { on := 0, ground := Go.Ground.phase }, { on := 1, ground := Go.Ground.phase }, { on := 2, ground := Go.Ground.phase }, { on := 3, ground := Go.Ground.phase }, { on := 4, ground := Go.Ground.phase }, { on := 5, ground := Go.Ground.phase }, { on := 6, ground := Go.Ground.phase }, { on := 7, ground := Go.Ground.phase }, { on := 8, ground := Go.Ground.phase }, { on := 9, ground := Go.Ground.phase }, { on := 10, ground := Go.Ground.phase }, { on := 11, ground := Go.Ground.phase }, { on := 12, ground := Go.Ground.phase }], guard := none }) (v := ?_) rfl (by kernel_rfl) (by kernel_rfl) (by kernel_rfl) (fun _ _ _ h => nomatch h.1) (Or.inl ⟨by rfl, ?_⟩) hHeld ?_
            rotate_left
            · intro W hSw
              go_simp
              try with_reducible rfl
            try simp only [Act.put, List.setIfInBounds_toArray, List.set_cons_zero, List.set_cons_succ]
            refine wpAnyH_done (by kernel_rfl) ?_ _
            refine ⟨rfl, _, _, hX, ?_, hvn⟩
            rfl
          exact AllReadyH.nil
        exact AllReadyH.nil
      refine AllReadyH.cons (o := { dst := some 5, op := Go.Op.alloc 29, type := 0, pos := "more.go:13", after := #[], guard := none }) rfl (fun kK hkK => ?_) ?_
      · go_simp
        obtain ⟨v4, hvv4⟩ : ∃ x, (v1.alloc (.cells #[.string ⟨#[]⟩, .bool false, .bool false, .bool false, .bool false, .bool false, .bool false, .slice none 0 0, .slice none 0 0, .bool false, .slice none 0 0, .int .i64 0, .int .i64 0, .bool false, .int .i64 0, .slice none 0 0, .string ⟨#[]⟩, .int .i64 0] 29)) = x := ⟨_, rfl⟩
        have kz0 := Blk.new v1 29 zeroC
        have kz : Blk v4 v1.heap.size 29 zeroC := hvv4 ▸ (show Blk (v1.alloc (.cells #[.string ⟨#[]⟩, .bool false, .bool false, .bool false, .bool false, .bool false, .bool false, .slice none 0 0, .slice none 0 0, .bool false, .slice none 0 0, .int .i64 0, .int .i64 0, .bool false, .int .i64 0, .slice none 0 0, .string ⟨#[]⟩, .int .i64 0] 29)) _ _ _ from kz0)
        have zge : wr.heap.size ≤ v1.heap.size := hHeld.bl.size
        have hS : Sg w [(w.heap.size + 1, O.th), (w.heap.size, K.th)] wr v4 := hvv4 ▸ (show Sg w [(w.heap.size + 1, O.th), (w.heap.size, K.th)] wr (v1.alloc (.cells #[.string ⟨#[]⟩, .bool false, .bool false, .bool false, .bool false, .bool false, .bool false, .slice none 0 0, .slice none 0 0, .bool false, .slice none 0 0, .int .i64 0, .int .i64 0, .bool false, .int .i64 0, .slice none 0 0, .string ⟨#[]⟩, .int .i64 0] 29)) from hHeld.alloc (.cells zeroC 29))
        rw [hvv4]
        clear hvv4 hHeld kz0
        refine hkK.out _ _ hS (fun hHeld => ?_)
        clear hkK kK
        try simp only [Act.put, List.setIfInBounds_toArray, List.set_cons_zero, List.set_cons_succ]
        refine wpAnyH_ready (rs := [7]) (by kernel_rfl) (by simp) ?_
        refine AllReadyH.cons (o := { dst := some 21, op := Go.Op.call { callee := Go.Callee.value (Go.Operand.func 11), args := #[Go.Operand.tmp 14, Go.Operand.tmp 20], argTypes := #[29, 9] }, type := 31, pos := "more.go:13", after := #[{ on := 0, ground := Go.Ground.data }, { on := 6, ground := Go.Ground.data }, { on := 6, ground := Go.Ground.chain }], guard := none }) rfl (fun kK hkK => ?_) ?_
        · go_simp
          refine (HA.out _ hHeld.vs).mono ?_
          rintro e v5 ⟨G, hX, rfl, hO, hq⟩
          have hS := hHeld.next hq
          have og := hO.ofs kz.lt
          have kz := kz.next hq
          have oq : ∀ q ∈ ([(w.heap.size + 1, O.th), (w.heap.size, K.th)] : List (Nat × Th)), G.Ofs q.1 := fun q hq => hO.ofs (hHeld.vs.lt hq)
          have hG := hO.at (Nat.le_refl _)
          clear hO hq hHeld
          dsimp only
          refine hkK.out _ _ hS (fun hHeld => ?_)
          clear hkK kK
          try simp only [Act.put, List.setIfInBounds_toArray, List.set_cons_zero, List.set_cons_succ]
          refine wpAnyH_take (i := 8) (oi := { dst := some 13, op := Go.Op.move (Go.Operand.tmp 21), type := 31, pos := "more.go:13", after := #[{ on := 7, ground := Go.Ground.data }], guard := none }) (v := ?_) rfl (by kernel_rfl) (by kernel_rfl) (by kernel_rfl) (fun _ _ _ h => nomatch h.1) (Or.inl ⟨by rfl, ?_⟩) hHeld ?_
          rotate_left
          · intro W hSw
            go_simp
            try with_reducible rfl
          try simp only [Act.put, List.setIfInBounds_toArray, List.set_cons_zero, List.set_cons_succ]
          refine wpAnyH_take (i := 9) (oi := { dst := some 22, op := Go.Op.extract (Go.Operand.tmp 13) 0, type := 29, pos := "more.go:13", after := #[{ on := 8, ground := Go.Ground.data }], guard := none }) (v := ?_) rfl (by kernel_rfl) (by kernel_rfl) (by kernel_rfl) (fun _ _ _ h => nomatch h.1) (Or.inl ⟨by rfl, ?_⟩) hHeld ?_
          rotate_left
          · intro W hSw
            go_simp
            try with_reducible rfl
          try simp only [Act.put, List.setIfInBounds_toArray, List.set_cons_zero, List.set_cons_succ]
          refine wpAnyH_take (i := 10) (oi := { dst := some 23, op := Go.Op.extract (Go.Operand.tmp 13) 1, type := 3, pos := "more.go:13", after := #[{ on := 8, ground := Go.Ground.data }, { on := 12, ground := Go.Ground.gcOnly Go.Departure.lateStores }], guard := none }) (v := ?_) rfl (by kernel_rfl) (by kernel_rfl) (by kernel_rfl) (fun _ _ _ h => nomatch h.1) (Or.inl ⟨by rfl, ?_⟩) hHeld ?_
          rotate_left
          · intro W hSw
            go_simp
            try with_reducible rfl
          try simp only [Act.put, List.setIfInBounds_toArray, List.set_cons_zero, List.set_cons_succ]
          refine wpAnyH_ready (rs := [12]) (by kernel_rfl) (by simp) ?_
          refine AllReadyH.cons (o := { dst := none, op := Go.Op.store 29 (Go.Operand.tmp 5) (Go.Operand.tmp 22), type := 0, pos := "more.go:13", after := #[{ on := 11, ground := Go.Ground.data }, { on := 9, ground := Go.Ground.data }, { on := 7, ground := Go.Ground.chain }, { on := 0, ground := Go.Ground.phase }, { on := 1, ground := Go.Ground.phase }, { on := 2, ground := Go.Ground.phase }, { on := 3, ground := Go.Ground.phase }, { on := 4, ground := Go.Ground.phase }, { on := 5, ground := Go.Ground.phase }, { on := 6, ground := Go.Ground.phase }, { on := 7, ground := Go.Ground.phase }, { on := 8, ground := Go.Ground.phase }, { on := 9, ground := Go.Ground.phase }, { on := 10, ground := Go.Ground.textOnly Go.Departure.lateStores }, { on := 11, ground := Go.Ground.phase }], guard := none }) rfl (fun kK hkK => ?_) ?_
          · have hvn := hHeld.vs.var (W := wr) hv zge kz rfl hG og oq
            have hS : Sg w [(w.heap.size + 1, O.th), (w.heap.size, K.th)] wr (v5.setCells (v1.heap.size) 0 G.cells.toList) := ⟨hvn.less (fun _ hp => List.mem_cons_of_mem _ hp), below_puts hHeld.bl hHeld.bl.size zge 0 _⟩
            rw [if_pos (by rfl)]
            refine wp_store_mid 29 (.tmp 5) (.tmp 22) rfl (v1.heap.size) 0 G.cells rfl rfl (there_of_blk kz 0 _ (Nat.le_refl 18)) Try.size29 (by simp [Cg.cells, Value.oneCell']) ?_
            refine hkK.out _ _ hS (fun hHeld => ?_)
            clear hkK kK
            try simp only [Act.put]
            refine wpAnyH_take (i := 13) (oi := { dst := some 6, op := Go.Op.assign (Go.Operand.tmp 23), type := 3, pos := "more.go:13", after := #[{ on := 10, ground := Go.Ground.data }, { on := 12, ground := Go.Ground.chain }, { on := 0, ground := Go.Ground.phase }, { on := 1, ground := Go.Ground.phase }, { on := 2, ground := Go.Ground.phase }, { on := 3, ground := Go.Ground.phase }, { on := 4, ground := Go.Ground.phase }, { on := 5, ground := Go.Ground.phase }, { on := 6, ground := Go.Ground.phase }, { on := 7, ground := Go.Ground.phase }, { on := 8, ground := Go.Ground.phase }, { on := 9, ground := Go.Ground.phase }, { on := 10, ground := Go.Ground.phase }, { on := 11, ground := Go.Ground.phase }, { on := 12, ground := Go.Ground.phase }], guard := none }) (v := ?_) rfl (by kernel_rfl) (by kernel_rfl) (by kernel_rfl) (fun _ _ _ h => nomatch h.1) (Or.inl ⟨by rfl, ?_⟩) hHeld ?_
            rotate_left
            · intro W hSw
              go_simp
              try with_reducible rfl
            try simp only [Act.put, List.setIfInBounds_toArray, List.set_cons_zero, List.set_cons_succ]
            refine wpAnyH_done (by kernel_rfl) ?_ _
            refine ⟨rfl, _, _, hX, ?_, hvn⟩
            rfl
          exact AllReadyH.nil
        exact AllReadyH.nil
      exact AllReadyH.nil
    refine AllReadyH.cons (o := { dst := some 5, op := Go.Op.alloc 29, type := 0, pos := "more.go:13", after := #[], guard := none }) rfl (fun kK hkK => ?_) ?_
    · go_simp
      obtain ⟨v6, hvv6⟩ : ∃ x, ((wr.alloc (.cells #[.string ⟨#[]⟩, .bool false, .bool false, .bool false, .bool false, .bool false, .bool false, .slice none 0 0, .slice none 0 0, .bool false, .slice none 0 0, .int .i64 0, .int .i64 0, .bool false, .int .i64 0, .slice none 0 0, .string ⟨#[]⟩, .int .i64 0] 29)).drew) = x := ⟨_, rfl⟩
      have kz0 := Blk.new wr 29 zeroC
      have kz : Blk v6 wr.heap.size 29 zeroC := hvv6 ▸ (show Blk ((wr.alloc (.cells #[.string ⟨#[]⟩, .bool false, .bool false, .bool false, .bool false, .bool false, .bool false, .slice none 0 0, .slice none 0 0, .bool false, .slice none 0 0, .int .i64 0, .int .i64 0, .bool false, .int .i64 0, .slice none 0 0, .string ⟨#[]⟩, .int .i64 0] 29)).drew) _ _ _ from kz0)
      have zge : wr.heap.size ≤ wr.heap.size := hHeld.bl.size
      have hS : Sg w [(w.heap.size + 1, O.th), (w.heap.size, K.th)] wr v6 := hvv6 ▸ (show Sg w [(w.heap.size + 1, O.th), (w.heap.size, K.th)] wr ((wr.alloc (.cells #[.string ⟨#[]⟩, .bool false, .bool false, .bool false, .bool false, .bool false, .bool false, .slice none 0 0, .slice none 0 0, .bool false, .slice none 0 0, .int .i64 0, .int .i64 0, .bool false, .int .i64 0, .slice none 0 0, .string ⟨#[]⟩, .int .i64 0] 29)).drew) from hHeld.alloc (.cells zeroC 29))
      rw [hvv6]
      clear hvv6 hHeld kz0
      refine hkK.out _ _ hS (fun hHeld => ?_)
      clear hkK kK
      try simp only [Act.put, List.setIfInBounds_toArray, List.set_cons_zero, List.set_cons_succ]
      refine wpAnyH_ready (rs := [6]) (by kernel_rfl) (by simp) ?_
      refine AllReadyH.cons (o := { dst := some 20, op := Go.Op.call { callee := Go.Callee.value (Go.Operand.func 14), args := #[Go.Operand.tmp 17, Go.Operand.tmp 19], argTypes := #[3, 4] }, type := 9, pos := "more.go:13", after := #[{ on := 3, ground := Go.Ground.data }, { on := 5, ground := Go.Ground.data }], guard := none }) rfl (fun kK hkK => ?_) ?_
      · go_simp
        refine (HE1.out _).mono ?_
        rintro e v7 ⟨rfl, hq⟩
        have hS := hHeld.next hq
        have kz := kz.next hq
        clear hq hHeld
        dsimp only
        refine hkK.out _ _ hS (fun hHeld => ?_)
        clear hkK kK
        try simp only [Act.put, List.setIfInBounds_toArray, List.set_cons_zero, List.set_cons_succ]
        refine wpAnyH_ready (rs := [7]) (by kernel_rfl) (by simp) ?_
        refine AllReadyH.cons (o := { dst := some 21, op := Go.Op.call { callee := Go.Callee.value (Go.Operand.func 11), args := #[Go.Operand.tmp 14, Go.Operand.tmp 20], argTypes := #[29, 9] }, type := 31, pos := "more.go:13", after := #[{ on := 0, ground := Go.Ground.data }, { on := 6, ground := Go.Ground.data }, { on := 6, ground := Go.Ground.chain }], guard := none }) rfl (fun kK hkK => ?_) ?_
        · go_simp
          refine (HA.out _ hHeld.vs).mono ?_
          rintro e v8 ⟨G, hX, rfl, hO, hq⟩
          have hS := hHeld.next hq
          have og := hO.ofs kz.lt
          have kz := kz.next hq
          have oq : ∀ q ∈ ([(w.heap.size + 1, O.th), (w.heap.size, K.th)] : List (Nat × Th)), G.Ofs q.1 := fun q hq => hO.ofs (hHeld.vs.lt hq)
          have hG := hO.at (Nat.le_refl _)
          clear hO hq hHeld
          dsimp only
          refine hkK.out _ _ hS (fun hHeld => ?_)
          clear hkK kK
          try simp only [Act.put, List.setIfInBounds_toArray, List.set_cons_zero, List.set_cons_succ]
          refine wpAnyH_take (i := 8) (oi := { dst := some 13, op := Go.Op.move (Go.Operand.tmp 21), type := 31, pos := "more.go:13", after := #[{ on := 7, ground := Go.Ground.data }], guard := none }) (v := ?_) rfl (by kernel_rfl) (by kernel_rfl) (by kernel_rfl) (fun _ _ _ h => nomatch h.1) (Or.inl ⟨by rfl, ?_⟩) hHeld ?_
          rotate_left
          · intro W hSw
            go_simp
            try with_reducible rfl
          try simp only [Act.put, List.setIfInBounds_toArray, List.set_cons_zero, List.set_cons_succ]
          refine wpAnyH_take (i := 9) (oi := { dst := some 22, op := Go.Op.extract (Go.Operand.tmp 13) 0, type := 29, pos := "more.go:13", after := #[{ on := 8, ground := Go.Ground.data }], guard := none }) (v := ?_) rfl (by kernel_rfl) (by kernel_rfl) (by kernel_rfl) (fun _ _ _ h => nomatch h.1) (Or.inl ⟨by rfl, ?_⟩) hHeld ?_
          rotate_left
          · intro W hSw
            go_simp
            try with_reducible rfl
          try simp only [Act.put, List.setIfInBounds_toArray, List.set_cons_zero, List.set_cons_succ]
          refine wpAnyH_take (i := 10) (oi := { dst := some 23, op := Go.Op.extract (Go.Operand.tmp 13) 1, type := 3, pos := "more.go:13", after := #[{ on := 8, ground := Go.Ground.data }, { on := 12, ground := Go.Ground.gcOnly Go.Departure.lateStores }], guard := none }) (v := ?_) rfl (by kernel_rfl) (by kernel_rfl) (by kernel_rfl) (fun _ _ _ h => nomatch h.1) (Or.inl ⟨by rfl, ?_⟩) hHeld ?_
          rotate_left
          · intro W hSw
            go_simp
            try with_reducible rfl
          try simp only [Act.put, List.setIfInBounds_toArray, List.set_cons_zero, List.set_cons_succ]
          refine wpAnyH_ready (rs := [12]) (by kernel_rfl) (by simp) ?_
          refine AllReadyH.cons (o := { dst := none, op := Go.Op.store 29 (Go.Operand.tmp 5) (Go.Operand.tmp 22), type := 0, pos := "more.go:13", after := #[{ on := 11, ground := Go.Ground.data }, { on := 9, ground := Go.Ground.data }, { on := 7, ground := Go.Ground.chain }, { on := 0, ground := Go.Ground.phase }, { on := 1, ground := Go.Ground.phase }, { on := 2, ground := Go.Ground.phase }, { on := 3, ground := Go.Ground.phase }, { on := 4, ground := Go.Ground.phase }, { on := 5, ground := Go.Ground.phase }, { on := 6, ground := Go.Ground.phase }, { on := 7, ground := Go.Ground.phase }, { on := 8, ground := Go.Ground.phase }, { on := 9, ground := Go.Ground.phase }, { on := 10, ground := Go.Ground.textOnly Go.Departure.lateStores }, { on := 11, ground := Go.Ground.phase }], guard := none }) rfl (fun kK hkK => ?_) ?_
          · have hvn := hHeld.vs.var (W := wr) hv zge kz rfl hG og oq
            have hS : Sg w [(w.heap.size + 1, O.th), (w.heap.size, K.th)] wr (v8.setCells (wr.heap.size) 0 G.cells.toList) := ⟨hvn.less (fun _ hp => List.mem_cons_of_mem _ hp), below_puts hHeld.bl hHeld.bl.size zge 0 _⟩
            rw [if_pos (by rfl)]
            refine wp_store_mid 29 (.tmp 5) (.tmp 22) rfl (wr.heap.size) 0 G.cells rfl rfl (there_of_blk kz 0 _ (Nat.le_refl 18)) Try.size29 (by simp [Cg.cells, Value.oneCell']) ?_
            refine hkK.out _ _ hS (fun hHeld => ?_)
            clear hkK kK
            try simp only [Act.put]
            refine wpAnyH_take (i := 13) (oi := { dst := some 6, op := Go.Op.assign (Go.Operand.tmp 23), type := 3, pos := "more.go:13", after := #[{ on := 10, ground := Go.Ground.data }, { on := 12, ground := Go.Ground.chain }, { on := 0, ground := Go.Ground.phase }, { on := 1, ground := Go.Ground.phase }, { on := 2, ground := Go.Ground.phase }, { on := 3, ground := Go.Ground.phase }, { on := 4, ground := Go.Ground.phase }, { on := 5, ground := Go.Ground.phase }, { on := 6, ground := Go.Ground.phase }, { on := 7, ground := Go.Ground.phase }, { on := 8, ground := Go.Ground.phase }, { on := 9, ground := Go.Ground.phase }, { on := 10, ground := Go.Ground.phase }, { on := 11, ground := Go.Ground.phase }, { on := 12, ground := Go.Ground.phase }], guard := none }) (v := ?_) rfl (by kernel_rfl) (by kernel_rfl) (by kernel_rfl) (fun _ _ _ h => nomatch h.1) (Or.inl ⟨by rfl, ?_⟩) hHeld ?_
            rotate_left
            · intro W hSw
              go_simp
              try with_reducible rfl
            try simp only [Act.put, List.setIfInBounds_toArray, List.set_cons_zero, List.set_cons_succ]
            refine wpAnyH_done (by kernel_rfl) ?_ _
            refine ⟨rfl, _, _, hX, ?_, hvn⟩
            rfl
          exact AllReadyH.nil
        exact AllReadyH.nil
      exact AllReadyH.nil
    exact AllReadyH.nil
  rintro a' wr1 ⟨g1, G1, hX1, rfl, hvn⟩
  have hS1 := Lib.hid hX1
  clear hv HA HP1 HE1 hX1
  have hv := hvn
  clear hvn
  simp only [Act.put, List.setIfInBounds_toArray, List.set_cons_zero, List.set_cons_succ]
  go_wp2_with fail
  have HA := Lib.hid (fun W (h : Vs w [(g1, Cg.th G1), (w.heap.size + 1, O.th), (w.heap.size, K.th)] W) => HP2.out W (h.at (show (w.heap.size, K.th) ∈ ([(g1, Cg.th G1), (w.heap.size + 1, O.th), (w.heap.size, K.th)] : List (Nat × Th)) from (List.mem_cons_of_mem _ (List.mem_cons_of_mem _ List.mem_cons_self)))))
  refine region_cut (fun a a' w' => ∃ (g : Nat) (G : Cg), Cg.Same X2 G ∧ a' = (((((((((((((a.put (some 25) (.agg (Cg.cells K))).put (some 26) (.pointer (some ⟨w.heap.size + 1, 1, none⟩))).put (some 27) (.int .i64 O.vl)).put (some 28) (.int .i64 V16)).put (some 29) (.pointer (some ⟨w.heap.size + 1, 3, none⟩))).put (some 30) (.bool O.on)).put (some 31) (.string s2)).put (some 32) (.tuple #[.agg G.cells, .int .i64 (n2)])).put (some 24) (.tuple #[.agg G.cells, .int .i64 (n2)])).put (some 33) (.agg G.cells)).put (some 34) (.int .i64 (n2))).put (some 7) (.pointer (some ⟨g, 0, none⟩))).put (some 8) (.int .i64 (n2))) ∧ Vs w ((g, G.th) :: [(g1, Cg.th G1), (w.heap.size + 1, O.th), (w.heap.size, K.th)]) w') ?_ ?_
  · refine wp_region_held_drew (S := Sg w [(g1, Cg.th G1), (w.heap.size + 1, O.th), (w.heap.size, K.th)] wr1) (by kernel_rfl) (Sg.start hv) (fun hHeld => ?_)
    refine wpAnyH_take (i := 0) (oi := { dst := some 25, op := Go.Op.load 29 (Go.Operand.tmp 2), type := 29, pos := "more.go:14", after := #[], guard := none }) (v := .agg (Cg.cells K)) rfl (by kernel_rfl) (by kernel_rfl) (by kernel_rfl) (fun _ _ _ h => nomatch h.1) (yieldsIf_load_mid (by rfl) 29 (.tmp 2) rfl _ 0 rfl (Cg.cells K).toList _ (row_cfg (show (w.heap.size, K.th) ∈ ([(g1, Cg.th G1), (w.heap.size + 1, O.th), (w.heap.size, K.th)] : List (Nat × Th)) from (List.mem_cons_of_mem _ (List.mem_cons_of_mem _ List.mem_cons_self)))) Try.underlying29 rfl Try.size29) hHeld ?_
    try simp only [Act.put, List.setIfInBounds_toArray, List.set_cons_zero, List.set_cons_succ]
    refine wpAnyH_take (i := 1) (oi := { dst := some 26, op := Go.Op.fieldAddr 37 (Go.Operand.tmp 3) 1, type := 0, pos := "more.go:14", after := #[], guard := none }) (v := ?_) rfl (by kernel_rfl) (by kernel_rfl) (by kernel_rfl) (fun _ _ _ h => nomatch h.1) (Or.inl ⟨by rfl, ?_⟩) hHeld ?_
    rotate_left
    · intro W hSw
      go_simp
      try with_reducible rfl
    try simp only [Act.put, List.setIfInBounds_toArray, List.set_cons_zero, List.set_cons_succ]
    refine wpAnyH_take (i := 2) (oi := { dst := some 27, op := Go.Op.load 3 (Go.Operand.tmp 26), type := 3, pos := "more.go:14", after := #[{ on := 1, ground := Go.Ground.data }], guard := none }) (v := ?_) rfl (by kernel_rfl) (by kernel_rfl) (by kernel_rfl) (fun _ _ _ h => nomatch h.1) (Or.inl ⟨by rfl, ?_⟩) hHeld ?_
    rotate_left
    · intro W hSw
      have kq : Blk W (w.heap.size + 1) 37 O.cells := hSw.vs.get (show (w.heap.size + 1, O.th) ∈ ([(g1, Cg.th G1), (w.heap.size + 1, O.th), (w.heap.size, K.th)] : List (Nat × Th)) from (List.mem_cons_of_mem _ List.mem_cons_self))
      have q1 := kq.cell 1
      simp only [List.getElem?_toArray, List.getElem?_cons_zero, List.getElem?_cons_succ] at q1
      go_simp
      try with_reducible rfl
    try simp only [Act.put, List.setIfInBounds_toArray, List.set_cons_zero, List.set_cons_succ]
    refine wpAnyH_take (i := 3) (oi := { dst := some 28, op := Go.Op.binOp Go.BinOp.and 3 (Go.Operand.tmp 27) (Go.Operand.const (Go.Value.int Go.IntKind.i64 65535)) 3, type := 3, pos := "more.go:14", after := #[{ on := 2, ground := Go.Ground.data }], guard := none }) (v := ?_) rfl (by kernel_rfl) (by kernel_rfl) (by kernel_rfl) (fun _ _ _ h => nomatch h.1) (Or.inl ⟨by rfl, ?_⟩) hHeld ?_
    rotate_left
    · intro W hSw
      go_simp
      try with_reducible rfl
    try simp only [Act.put, List.setIfInBounds_toArray, List.set_cons_zero, List.set_cons_succ]
    refine wpAnyH_take (i := 4) (oi := { dst := some 29, op := Go.Op.fieldAddr 37 (Go.Operand.tmp 3) 3, type := 0, pos := "more.go:14", after := #[], guard := none }) (v := ?_) rfl (by kernel_rfl) (by kernel_rfl) (by kernel_rfl) (fun _ _ _ h => nomatch h.1) (Or.inl ⟨by rfl, ?_⟩) hHeld ?_
    rotate_left
    · intro W hSw
      go_simp
      try with_reducible rfl
    try simp only [Act.put, List.setIfInBounds_toArray, List.set_cons_zero, List.set_cons_succ]
    refine wpAnyH_take (i := 5) (oi := { dst := some 30, op := Go.Op.load 4 (Go.Operand.tmp 29), type := 4, pos := "more.go:14", after := #[{ on := 4, ground := Go.Ground.data }], guard := none }) (v := ?_) rfl (by kernel_rfl) (by kernel_rfl) (by kernel_rfl) (fun _ _ _ h => nomatch h.1) (Or.inl ⟨by rfl, ?_⟩) hHeld ?_
    rotate_left
    · intro W hSw
      have kq : Blk W (w.heap.size + 1) 37 O.cells := hSw.vs.get (show (w.heap.size + 1, O.th) ∈ ([(g1, Cg.th G1), (w.heap.size + 1, O.th), (w.heap.size, K.th)] : List (Nat × Th)) from (List.mem_cons_of_mem _ List.mem_cons_self))
      have q3 := kq.cell 3
      simp only [List.getElem?_toArray, List.getElem?_cons_zero, List.getElem?_cons_succ] at q3
      go_simp
      try with_reducible rfl
    try simp only [Act.put, List.setIfInBounds_toArray, List.set_cons_zero, List.set_cons_succ]
    refine wpAnyH_ready (rs := [6, 11]) (by kernel_rfl) (by simp) ?_
    refine AllReadyH.cons (o := { dst := some 31, op := Go.Op.call { callee := Go.Callee.value (Go.Operand.func 19), args := #[Go.Operand.tmp 28, Go.Operand.tmp 30], argTypes := #[3, 4] }, type := 9, pos := "more.go:14", after := #[{ on := 3, ground := Go.Ground.data }, { on := 5, ground := Go.Ground.data }], guard := none }) rfl (fun kK hkK => ?_) ?_
    · go_simp
      refine (HE2.out _).mono ?_
      rintro e v1 ⟨rfl, hq⟩
      have hS := hHeld.next hq
      clear hq hHeld
      dsimp only
      refine hkK.out _ _ hS (fun hHeld => ?_)
      clear hkK kK
      try simp only [Act.put, List.setIfInBounds_toArray, List.set_cons_zero, List.set_cons_succ]
      refine wpAnyH_ready (rs := [7, 11]) (by kernel_rfl) (by simp) ?_
      refine AllReadyH.cons (o := { dst := some 32, op := Go.Op.call { callee := Go.Callee.value (Go.Operand.func 11), args := #[Go.Operand.tmp 25, Go.Operand.tmp 31], argTypes := #[29, 9] }, type := 31, pos := "more.go:14", after := #[{ on := 0, ground := Go.Ground.data }, { on := 6, ground := Go.Ground.data }, { on := 6, ground := Go.Ground.chain }], guard := none }) rfl (fun kK hkK => ?_) ?_
      · go_simp
        refine (HA.out _ hHeld.vs).mono ?_
        rintro e v2 ⟨G, hX, rfl, hO, hq⟩
        have hS := hHeld.next hq
        have oq : ∀ q ∈ ([(g1, Cg.th G1), (w.heap.size + 1, O.th), (w.heap.size, K.th)] : List (Nat × Th)), G.Ofs q.1 := fun q hq => hO.ofs (hHeld.vs.lt hq)
        have hG := hO.at (Nat.le_refl _)
        clear hO hq hHeld
        dsimp only
        refine hkK.out _ _ hS (fun hHeld => ?_)
        clear hkK kK
        try simp only [Act.put, List.setIfInBounds_toArray, List.set_cons_zero, List.set_cons_succ]
        refine wpAnyH_take (i := 8) (oi := { dst := some 24, op := Go.Op.move (Go.Operand.tmp 32), type := 31, pos := "more.go:14", after := #[{ on := 7, ground := Go.Ground.data }], guard := none }) (v := ?_) rfl (by kernel_rfl) (by kernel_rfl) (by kernel_rfl) (fun _ _ _ h => nomatch h.1) (Or.inl ⟨by rfl, ?_⟩) hHeld ?_
        rotate_left
        · intro W hSw
          go_simp
          try with_reducible rfl
        try simp only [Act.put, List.setIfInBounds_toArray, List.set_cons_zero, List.set_cons_succ]
        refine wpAnyH_take (i := 9) (oi := { dst := some 33, op := Go.Op.extract (Go.Operand.tmp 24) 0, type := 29, pos := "more.go:14", after := #[{ on := 8, ground := Go.Ground.data }], guard := none }) (v := ?_) rfl (by kernel_rfl) (by kernel_rfl) (by kernel_rfl) (fun _ _ _ h => nomatch h.1) (Or.inl ⟨by rfl, ?_⟩) hHeld ?_
        rotate_left
        · intro W hSw
          go_simp
          try with_reducible rfl
        try simp only [Act.put, List.setIfInBounds_toArray, List.set_cons_zero, List.set_cons_succ]
        refine wpAnyH_take (i := 10) (oi := { dst := some 34, op := Go.Op.extract (Go.Operand.tmp 24) 1, type := 3, pos := "more.go:14", after := #[{ on := 8, ground := Go.Ground.data }, { on := 12, ground := Go.Ground.gcOnly Go.Departure.lateStores }], guard := none }) (v := ?_) rfl (by kernel_rfl) (by kernel_rfl) (by kernel_rfl) (fun _ _ _ h => nomatch h.1) (Or.inl ⟨by rfl, ?_⟩) hHeld ?_
        rotate_left
        · intro W hSw
          go_simp
          try with_reducible rfl
        try simp only [Act.put, List.setIfInBounds_toArray, List.set_cons_zero, List.set_cons_succ]
        refine wpAnyH_ready (rs := [11]) (by kernel_rfl) (by simp) ?_
        refine AllReadyH.cons (o := { dst := some 7, op := Go.Op.alloc 29, type := 0, pos := "more.go:14", after := #[], guard := none }) rfl (fun kK hkK => ?_) ?_
        · go_simp
          obtain ⟨v3, hvv3⟩ : ∃ x, (v2.alloc (.cells #[.string ⟨#[]⟩, .bool false, .bool false, .bool false, .bool false, .bool false, .bool false, .slice none 0 0, .slice none 0 0, .bool false, .slice none 0 0, .int .i64 0, .int .i64 0, .bool false, .int .i64 0, .slice none 0 0, .string ⟨#[]⟩, .int .i64 0] 29)) = x := ⟨_, rfl⟩
          have kz0 := Blk.new v2 29 zeroC
          have kz : Blk v3 v2.heap.size 29 zeroC := hvv3 ▸ (show Blk (v2.alloc (.cells #[.string ⟨#[]⟩, .bool false, .bool false, .bool false, .bool false, .bool false, .bool false, .slice none 0 0, .slice none 0 0, .bool false, .slice none 0 0, .int .i64 0, .int .i64 0, .bool false, .int .i64 0, .slice none 0 0, .string ⟨#[]⟩, .int .i64 0] 29)) _ _ _ from kz0)
          have zge : wr1.heap.size ≤ v2.heap.size := hHeld.bl.size
          have hS : Sg w [(g1, Cg.th G1), (w.heap.size + 1, O.th), (w.heap.size, K.th)] wr1 v3 := hvv3 ▸ (show Sg w [(g1, Cg.th G1), (w.heap.size + 1, O.th), (w.heap.size, K.th)] wr1 (v2.alloc (.cells #[.string ⟨#[]⟩, .bool false, .bool false, .bool false, .bool false, .bool false, .bool false, .slice none 0 0, .slice none 0 0, .bool false, .slice none 0 0, .int .i64 0, .int .i64 0, .bool false, .int .i64 0, .slice none 0 0, .string ⟨#[]⟩, .int .i64 0] 29)) from hHeld.alloc (.cells zeroC 29))
          have og := hG.ofs (Nat.le_refl _)
          have hG : G.At v3.heap.size v3 := hvv3 ▸ (show G.At (World.heap (v2.alloc (.cells #[.string ⟨#[]⟩, .bool false, .bool false, .bool false, .bool false, .bool false, .bool false, .slice none 0 0, .slice none 0 0, .bool false, .slice none 0 0, .int .i64 0, .int .i64 0, .bool false, .int .i64 0, .slice none 0 0, .string ⟨#[]⟩, .int .i64 0] 29))).size (v2.alloc (.cells #[.string ⟨#[]⟩, .bool false, .bool false, .bool false, .bool false, .bool false, .bool false, .slice none 0 0, .slice none 0 0, .bool false, .slice none 0 0, .int .i64 0, .int .i64 0, .bool false, .int .i64 0, .slice none 0 0, .string ⟨#[]⟩, .int .i64 0] 29)) from hG.alloc (.cells zeroC 29))
          rw [hvv3]
          clear hvv3 hHeld kz0
          refine hkK.out _ _ hS (fun hHeld => ?_)
          clear hkK kK
          try simp only [Act.put, List.setIfInBounds_toArray, List.set_cons_zero, List.set_cons_succ]
          refine wpAnyH_ready (rs := [12]) (by kernel_rfl) (by simp) ?_
          refine AllReadyH.cons (o := { dst := none, op := Go.Op.store 29 (Go.Operand.tmp 7) (Go.Operand.tmp 33), type := 0, pos := "more.go:14", after := #[{ on := 11, ground := Go.Ground.data }, { on := 9, ground := Go.Ground.data }, { on := 7, ground := Go.Ground.chain }, { on := 0, ground := Go.Ground.phase }, { on := 1, ground := Go.Ground.phase }, { on := 2, ground := Go.Ground.phase }, { on := 3, ground := Go.Ground.phase }, { on := 4, ground := Go.Ground.phase }, { on := 5, ground := Go.Ground.phase }, { on := 6, ground := Go.Ground.phase }, { on := 7, ground := Go.Ground.phase }, { on := 8, ground := Go.Ground.phase }, { on := 9, ground := Go.Ground.phase }, { on := 10, ground := Go.Ground.textOnly Go.Departure.lateStores }, { on := 11, ground := Go.Ground.phase }], guard := none }) rfl (fun kK hkK => ?_) ?_
          · have hvn := hHeld.vs.var (W := wr1) hv zge kz rfl hG og oq
            have hS : Sg w [(g1, Cg.th G1), (w.heap.size + 1, O.th), (w.heap.size, K.th)] wr1 (v3.setCells (v2.heap.size) 0 G.cells.toList) := ⟨hvn.less (fun _ hp => List.mem_cons_of_mem _ hp), below_puts hHeld.bl hHeld.bl.size zge 0 _⟩
            rw [if_pos (by rfl)]
            refine wp_store_mid 29 (.tmp 7) (.tmp 33) rfl (v2.heap.size) 0 G.cells rfl rfl (there_of_blk kz 0 _ (Nat.le_refl 18)) Try.size29 (by simp [Cg.cells, Value.oneCell']) ?_
            refine hkK.out _ _ hS (fun hHeld => ?_)
            clear hkK kK
            try simp only [Act.put]
            refine wpAnyH_take (i := 13) (oi := { dst := some 8, op := Go.Op.assign (Go.Operand.tmp 34), type := 3, pos := "more.go:14", after := #[{ on := 10, ground := Go.Ground.data }, { on := 12, ground := Go.Ground.chain }, { on := 0, ground := Go.Ground.phase }, { on := 1, ground := Go.Ground.phase }, { on := 2, ground := Go.Ground.phase }, { on := 3, ground := Go.Ground.phase }, { on := 4, ground := Go.Ground.phase }, { on := 5, ground := Go.Ground.phase }, { on := 6, ground := Go.Ground.phase }, { on := 7, ground := Go.Ground.phase }, { on := 8, ground := Go.Ground.phase }, { on := 9, ground := Go.Ground.phase }, { on := 10, ground := Go.Ground.phase }, { on := 11, ground := Go.Ground.phase }, { on := 12, ground := Go.Ground.phase }], guard := none }) (v := ?_) rfl (by kernel_rfl) (by kernel_rfl) (by kernel_rfl) (fun _ _ _ h => nomatch h.1) (Or.inl ⟨by rfl, ?_⟩) hHeld ?_
            rotate_left
            · intro W hSw
              go_simp
              try with_reducible rfl
            try simp only [Act.put, List.setIfInBounds_toArray, List.set_cons_zero, List.set_cons_succ]
            refine wpAnyH_done (by kernel_rfl) ?_ _
            refine ⟨rfl, _, _, hX, ?_, hvn⟩
            rfl
          exact AllReadyH.nil
        exact AllReadyH.nil
      refine AllReadyH.cons (o := { dst := some 7, op := Go.Op.alloc 29, type := 0, pos := "more.go:14", after := #[], guard := none }) rfl (fun kK hkK => ?_) ?_
      · go_simp
        obtain ⟨v4, hvv4⟩ : ∃ x, (v1.alloc (.cells #[.string ⟨#[]⟩, .bool false, .bool false, .bool false, .bool false, .bool false, .bool false, .slice none 0 0, .slice none 0 0, .bool false, .slice none 0 0, .int .i64 0, .int .i64 0, .bool false, .int .i64 0, .slice none 0 0, .string ⟨#[]⟩, .int .i64 0] 29)) = x := ⟨_, rfl⟩
        have kz0 := Blk.new v1 29 zeroC
        have kz : Blk v4 v1.heap.size 29 zeroC := hvv4 ▸ (show Blk (v1.alloc (.cells #[.string ⟨#[]⟩, .bool false, .bool false, .bool false, .bool false, .bool false, .bool false, .slice none 0 0, .slice none 0 0, .bool false, .slice none 0 0, .int .i64 0, .int .i64 0, .bool false, .int .i64 0, .slice none 0 0, .string ⟨#[]⟩, .int .i64 0] 29)) _ _ _ from kz0)
        have zge : wr1.heap.size ≤ v1.heap.size := hHeld.bl.size
        have hS : Sg w [(g1, Cg.th G1), (w.heap.size + 1, O.th), (w.heap.size, K.th)] wr1 v4 := hvv4 ▸ (show Sg w [(g1, Cg.th G1), (w.heap.size + 1, O.th), (w.heap.size, K.th)] wr1 (v1.alloc (.cells #[.string ⟨#[]⟩, .bool false, .bool false, .bool false, .bool false, .bool false, .bool false, .slice none 0 0, .slice none 0 0, .bool false, .slice none 0 0, .int .i64 0, .int .i64 0, .bool false, .int .i64 0, .slice none 0 0, .string ⟨#[]⟩, .int .i64 0] 29)) from hHeld.alloc (.cells zeroC 29))
        rw [hvv4]
        clear hvv4 hHeld kz0
        refine hkK.out _ _ hS (fun hHeld => ?_)
        clear hkK kK
        try simp only [Act.put, List.setIfInBounds_toArray, List.set_cons_zero, List.set_cons_succ]
        refine wpAnyH_ready (rs := [7]) (by kernel_rfl) (by simp) ?_
        refine AllReadyH.cons (o := { dst := some 32, op := Go.Op.call { callee := Go.Callee.value (Go.Operand.func 11), args := #[Go.Operand.tmp 25, Go.Operand.tmp 31], argTypes := #[29, 9] }, type := 31, pos := "more.go:14", after := #[{ on := 0, ground := Go.Ground.data }, { on := 6, ground := Go.Ground.data }, { on := 6, ground := Go.Ground.chain }], guard := none }) rfl (fun kK hkK => ?_) ?_
        · go_simp
          refine (HA.out _ hHeld.vs).mono ?_
          rintro e v5 ⟨G, hX, rfl, hO, hq⟩
          have hS := hHeld.next hq
          have og := hO.ofs kz.lt
          have kz := kz.next hq
          have oq : ∀ q ∈ ([(g1, Cg.th G1), (w.heap.size + 1, O.th), (w.heap.size, K.th)] : List (Nat × Th)), G.Ofs q.1 := fun q hq => hO.ofs (hHeld.vs.lt hq)
          have hG := hO.at (Nat.le_refl _)
          clear hO hq hHeld
          dsimp only
          refine hkK.out _ _ hS (fun hHeld => ?_)
          clear hkK kK
          try simp only [Act.put, List.setIfInBounds_toArray, List.set_cons_zero, List.set_cons_succ]
          refine wpAnyH_take (i := 8) (oi := { dst := some 24, op := Go.Op.move (Go.Operand.tmp 32), type := 31, pos := "more.go:14", after := #[{ on := 7, ground := Go.Ground.data }], guard := none }) (v := ?_) rfl (by kernel_rfl) (by kernel_rfl) (by kernel_rfl) (fun _ _ _ h => nomatch h.1) (Or.inl ⟨by rfl, ?_⟩) hHeld ?_
          rotate_left
          · intro W hSw
            go_simp
            try with_reducible rfl
          try simp only [Act.put, List.setIfInBounds_toArray, List.set_cons_zero, List.set_cons_succ]
          refine wpAnyH_take (i := 9) (oi := { dst := some 33, op := Go.Op.extract (Go.Operand.tmp 24) 0, type := 29, pos := "more.go:14", after := #[{ on := 8, ground := Go.Ground.data }], guard := none }) (v := ?_) rfl (by kernel_rfl) (by kernel_rfl) (by kernel_rfl) (fun _ _ _ h => nomatch h.1) (Or.inl ⟨by rfl, ?_⟩) hHeld ?_
          rotate_left
          · intro W hSw
            go_simp
            try with_reducible rfl
          try simp only [Act.put, List.setIfInBounds_toArray, List.set_cons_zero, List.set_cons_succ]
          refine wpAnyH_take (i := 10) (oi := { dst := some 34, op := Go.Op.extract (Go.Operand.tmp 24) 1, type := 3, pos := "more.go:14", after := #[{ on := 8, ground := Go.Ground.data }, { on := 12, ground := Go.Ground.gcOnly Go.Departure.lateStores }], guard := none }) (v := ?_) rfl (by kernel_rfl) (by kernel_rfl) (by kernel_rfl) (fun _ _ _ h => nomatch h.1) (Or.inl ⟨by rfl, ?_⟩) hHeld ?_
          rotate_left
          · intro W hSw
            go_simp
            try with_reducible rfl
          try simp only [Act.put, List.setIfInBounds_toArray, List.set_cons_zero, List.set_cons_succ]
          refine wpAnyH_ready (rs := [12]) (by kernel_rfl) (by simp) ?_
          refine AllReadyH.cons (o := { dst := none, op := Go.Op.store 29 (Go.Operand.tmp 7) (Go.Operand.tmp 33), type := 0, pos := "more.go:14", after := #[{ on := 11, ground := Go.Ground.data }, { on := 9, ground := Go.Ground.data }, { on := 7, ground := Go.Ground.chain }, { on := 0, ground := Go.Ground.phase }, { on := 1, ground := Go.Ground.phase }, { on := 2, ground := Go.Ground.phase }, { on := 3, ground := Go.Ground.phase }, { on := 4, ground := Go.Ground.phase }, { on := 5, ground := Go.Ground.phase }, { on := 6, ground := Go.Ground.phase }, { on := 7, ground := Go.Ground.phase }, { on := 8, ground := Go.Ground.phase }, { on := 9, ground := Go.Ground.phase }, { on := 10, ground := Go.Ground.textOnly Go.Departure.lateStores }, { on := 11, ground := Go.Ground.phase }], guard := none }) rfl (fun kK hkK => ?_) ?_
          · have hvn := hHeld.vs.var (W := wr1) hv zge kz rfl hG og oq
            have hS : Sg w [(g1, Cg.th G1), (w.heap.size + 1, O.th), (w.heap.size, K.th)] wr1 (v5.setCells (v1.heap.size) 0 G.cells.toList) := ⟨hvn.less (fun _ hp => List.mem_cons_of_mem _ hp), below_puts hHeld.bl hHeld.bl.size zge 0 _⟩
            rw [if_pos (by rfl)]
            refine wp_store_mid 29 (.tmp 7) (.tmp 33) rfl (v1.heap.size) 0 G.cells rfl rfl (there_of_blk kz 0 _ (Nat.le_refl 18)) Try.size29 (by simp [Cg.cells, Value.oneCell']) ?_
            refine hkK.out _ _ hS (fun hHeld => ?_)
            clear hkK kK
            try simp only [Act.put]
            refine wpAnyH_take (i := 13) (oi := { dst := some 8, op := Go.Op.assign (Go.Operand.tmp 34), type := 3, pos := "more.go:14", after := #[{ on := 10, ground := Go.Ground.data }, { on := 12, ground := Go.Ground.chain }, { on := 0, ground := Go.Ground.phase }, { on := 1, ground := Go.Ground.phase }, { on := 2, ground := Go.Ground.phase }, { on := 3, ground := Go.Ground.phase }, { on := 4, ground := Go.Ground.phase }, { on := 5, ground := Go.Ground.phase }, { on := 6, ground := Go.Ground.phase }, { on := 7, ground := Go.Ground.phase }, { on := 8, ground := Go.Ground.phase }, { on := 9, ground := Go.Ground.phase }, { on := 10, ground := Go.Ground.phase }, { on := 11, ground := Go.Ground.phase }, { on := 12, ground := Go.Ground.phase }], guard := none }) (v := ?_) rfl (by kernel_rfl) (by kernel_rfl) (by kernel_rfl) (fun _ _ _ h => nomatch h.1) (Or.inl ⟨by rfl, ?_⟩) hHeld ?_
            rotate_left
            · intro W hSw
              go_simp
              try with_reducible rfl
            try simp only [Act.put, List.setIfInBounds_toArray, List.set_cons_zero, List.set_cons_succ]
            refine wpAnyH_done (by kernel_rfl) ?_ _
            refine ⟨rfl, _, _, hX, ?_, hvn⟩
            rfl
          exact AllReadyH.nil
        exact AllReadyH.nil
      exact AllReadyH.nil
    refine AllReadyH.cons (o := { dst := some 7, op := Go.Op.alloc 29, type := 0, pos := "more.go:14", after := #[], guard := none }) rfl (fun kK hkK => ?_) ?_
    · go_simp
      obtain ⟨v6, hvv6⟩ : ∃ x, ((wr1.alloc (.cells #[.string ⟨#[]⟩, .bool false, .bool false, .bool false, .bool false, .bool false, .bool false, .slice none 0 0, .slice none 0 0, .bool false, .slice none 0 0, .int .i64 0, .int .i64 0, .bool false, .int .i64 0, .slice none 0 0, .string ⟨#[]⟩, .int .i64 0] 29)).drew) = x := ⟨_, rfl⟩
      have kz0 := Blk.new wr1 29 zeroC
      have kz : Blk v6 wr1.heap.size 29 zeroC := hvv6 ▸ (show Blk ((wr1.alloc (.cells #[.string ⟨#[]⟩, .bool false, .bool false, .bool false, .bool false, .bool false, .bool false, .slice none 0 0, .slice none 0 0, .bool false, .slice none 0 0, .int .i64 0, .int .i64 0, .bool false, .int .i64 0, .slice none 0 0, .string ⟨#[]⟩, .int .i64 0] 29)).drew) _ _ _ from kz0)
      have zge : wr1.heap.size ≤ wr1.heap.size := hHeld.bl.size
      have hS : Sg w [(g1, Cg.th G1), (w.heap.size + 1, O.th), (w.heap.size, K.th)] wr1 v6 := hvv6 ▸ (show Sg w [(g1, Cg.th G1), (w.heap.size + 1, O.th), (w.heap.size, K.th)] wr1 ((wr1.alloc (.cells #[.string ⟨#[]⟩, .bool false, .bool false, .bool false, .bool false, .bool false, .bool false, .slice none 0 0, .slice none 0 0, .bool false, .slice none 0 0, .int .i64 0, .int .i64 0, .bool false, .int .i64 0, .slice none 0 0, .string ⟨#[]⟩, .int .i64 0] 29)).drew) from hHeld.alloc (.cells zeroC 29))
      rw [hvv6]
      clear hvv6 hHeld kz0
      refine hkK.out _ _ hS (fun hHeld => ?_)
      clear hkK kK
      try simp only [Act.put, List.setIfInBounds_toArray, List.set_cons_zero, List.set_cons_succ]
      refine wpAnyH_ready (rs := [6]) (by kernel_rfl) (by simp) ?_
      refine AllReadyH.cons (o := { dst := some 31, op := Go.Op.call { callee := Go.Callee.value (Go.Operand.func 19), args := #[Go.Operand.tmp 28, Go.Operand.tmp 30], argTypes := #[3, 4] }, type := 9, pos := "more.go:14", after := #[{ on := 3, ground := Go.Ground.data }, { on := 5, ground := Go.Ground.data }], guard := none }) rfl (fun kK hkK => ?_) ?_
      · go_simp
        refine (HE2.out _).mono ?_
        rintro e v7 ⟨rfl, hq⟩
        have hS := hHeld.next hq
        have kz := kz.next hq
        clear hq hHeld
        dsimp only
        refine hkK.out _ _ hS (fun hHeld => ?_)
        clear hkK kK
        try simp only [Act.put, List.setIfInBounds_toArray, List.set_cons_zero, List.set_cons_succ]
        refine wpAnyH_ready (rs := [7]) (by kernel_rfl) (by simp) ?_
        refine AllReadyH.cons (o := { dst := some 32, op := Go.Op.call { callee := Go.Callee.value (Go.Operand.func 11), args := #[Go.Operand.tmp 25, Go.Operand.tmp 31], argTypes := #[29, 9] }, type := 31, pos := "more.go:14", after := #[{ on := 0, ground := Go.Ground.data }, { on := 6, ground := Go.Ground.data }, { on := 6, ground := Go.Ground.chain }], guard := none }) rfl (fun kK hkK => ?_) ?_
        · go_simp
          refine (HA.out _ hHeld.vs).mono ?_
          rintro e v8 ⟨G, hX, rfl, hO, hq⟩
          have hS := hHeld.next hq
          have og := hO.ofs kz.lt
          have kz := kz.next hq
          have oq : ∀ q ∈ ([(g1, Cg.th G1), (w.heap.size + 1, O.th), (w.heap.size, K.th)] : List (Nat × Th)), G.Ofs q.1 := fun q hq => hO.ofs (hHeld.vs.lt hq)
          have hG := hO.at (Nat.le_refl _)
          clear hO hq hHeld
          dsimp only
          refine hkK.out _ _ hS (fun hHeld => ?_)
          clear hkK kK
          try simp only [Act.put, List.setIfInBounds_toArray, List.set_cons_zero, List.set_cons_succ]
          refine wpAnyH_take (i := 8) (oi := { dst := some 24, op := Go.Op.move (Go.Operand.tmp 32), type := 31, pos := "more.go:14", after := #[{ on := 7, ground := Go.Ground.data }], guard := none }) (v := ?_) rfl (by kernel_rfl) (by kernel_rfl) (by kernel_rfl) (fun _ _ _ h => nomatch h.1) (Or.inl ⟨by rfl, ?_⟩) hHeld ?_
          rotate_left
          · intro W hSw
            go_simp
            try with_reducible rfl
          try simp only [Act.put, List.setIfInBounds_toArray, List.set_cons_zero, List.set_cons_succ]
          refine wpAnyH_take (i := 9) (oi := { dst := some 33, op := Go.Op.extract (Go.Operand.tmp 24) 0, type := 29, pos := "more.go:14", after := #[{ on := 8, ground := Go.Ground.data }], guard := none }) (v := ?_) rfl (by kernel_rfl) (by kernel_rfl) (by kernel_rfl) (fun _ _ _ h => nomatch h.1) (Or.inl ⟨by rfl, ?_⟩) hHeld ?_
          rotate_left
          · intro W hSw
            go_simp
            try with_reducible rfl
          try simp only [Act.put, List.setIfInBounds_toArray, List.set_cons_zero, List.set_cons_succ]
          refine wpAnyH_take (i := 10) (oi := { dst := some 34, op := Go.Op.extract (Go.Operand.tmp 24) 1, type := 3, pos := "more.go:14", after := #[{ on := 8, ground := Go.Ground.data }, { on := 12, ground := Go.Ground.gcOnly Go.Departure.lateStores }], guard := none }) (v := ?_) rfl (by kernel_rfl) (by kernel_rfl) (by kernel_rfl) (fun _ _ _ h => nomatch h.1) (Or.inl ⟨by rfl, ?_⟩) hHeld ?_
          rotate_left
          · intro W hSw
            go_simp
            try with_reducible rfl
          try simp only [Act.put, List.setIfInBounds_toArray, List.set_cons_zero, List.set_cons_succ]
          refine wpAnyH_ready (rs := [12]) (by kernel_rfl) (by simp) ?_
          refine AllReadyH.cons (o := { dst := none, op := Go.Op.store 29 (Go.Operand.tmp 7) (Go.Operand.tmp 33), type := 0, pos := "more.go:14", after := #[{ on := 11, ground := Go.Ground.data }, { on := 9, ground := Go.Ground.data }, { on := 7, ground := Go.Ground.chain }, { on := 0, ground := Go.Ground.phase }, { on := 1, ground := Go.Ground.phase }, { on := 2, ground := Go.Ground.phase }, { on := 3, ground := Go.Ground.phase }, { on := 4, ground := Go.Ground.phase }, { on := 5, ground := Go.Ground.phase }, { on := 6, ground := Go.Ground.phase }, { on := 7, ground := Go.Ground.phase }, { on := 8, ground := Go.Ground.phase }, { on := 9, ground := Go.Ground.phase }, { on := 10, ground := Go.Ground.textOnly Go.Departure.lateStores }, { on := 11, ground := Go.Ground.phase }], guard := none }) rfl (fun kK hkK => ?_) ?_
          · have hvn := hHeld.vs.var (W := wr1) hv zge kz rfl hG og oq
            have hS : Sg w [(g1, Cg.th G1), (w.heap.size + 1, O.th), (w.heap.size, K.th)] wr1 (v8.setCells (wr1.heap.size) 0 G.cells.toList) := ⟨hvn.less (fun _ hp => List.mem_cons_of_mem _ hp), below_puts hHeld.bl hHeld.bl.size zge 0 _⟩
            rw [if_pos (by rfl)]
            refine wp_store_mid 29 (.tmp 7) (.tmp 33) rfl (wr1.heap.size) 0 G.cells rfl rfl (there_of_blk kz 0 _ (Nat.le_refl 18)) Try.size29 (by simp [Cg.cells, Value.oneCell']) ?_
            refine hkK.out _ _ hS (fun hHeld => ?_)
            clear hkK kK
            try simp only [Act.put]
            refine wpAnyH_take (i := 13) (oi := { dst := some 8, op := Go.Op.assign (Go.Operand.tmp 34), type := 3, pos := "more.go:14", after := #[{ on := 10, ground := Go.Ground.data }, { on := 12, ground := Go.Ground.chain }, { on := 0, ground := Go.Ground.phase }, { on := 1, ground := Go.Ground.phase }, { on := 2, ground := Go.Ground.phase }, { on := 3, ground := Go.Ground.phase }, { on := 4, ground := Go.Ground.phase }, { on := 5, ground := Go.Ground.phase }, { on := 6, ground := Go.Ground.phase }, { on := 7, ground := Go.Ground.phase }, { on := 8, ground := Go.Ground.phase }, { on := 9, ground := Go.Ground.phase }, { on := 10, ground := Go.Ground.phase }, { on := 11, ground := Go.Ground.phase }, { on := 12, ground := Go.Ground.phase }], guard := none }) (v := ?_) rfl (by kernel_rfl) (by kernel_rfl) (by kernel_rfl) (fun _ _ _ h => nomatch h.1) (Or.inl ⟨by rfl, ?_⟩) hHeld ?_
            rotate_left
            · intro W hSw
              go_simp
              try with_reducible rfl
            try simp only [Act.put, List.setIfInBounds_toArray, List.set_cons_zero, List.set_cons_succ]
            refine wpAnyH_done (by kernel_rfl) ?_ _
            refine ⟨rfl, _, _, hX, ?_, hvn⟩
            rfl
          exact AllReadyH.nil
        exact AllReadyH.nil
      exact AllReadyH.nil
    exact AllReadyH.nil
  rintro a' wr2 ⟨g2, G2, hX2, rfl, hvn⟩
  have hS2 := Lib.hid hX2
  clear hv HA HP2 HE2 hX2
  have hv := hvn
  clear hvn
  simp only [Act.put, List.setIfInBounds_toArray, List.set_cons_zero, List.set_cons_succ]
  go_wp2_with fail
  refine region_cut (fun a a' w' => ∃ (gx gy : Nat), a' = ((((a.put (some 35) (.agg (Cg.cells G1))).put (some 36) (.agg (Cg.cells G2))).put (some 9) (.pointer (some ⟨gx, 0, none⟩))).put (some 10) (.pointer (some ⟨gy, 0, none⟩))) ∧ (wr2.heap.size ≤ gx ∧ wr2.heap.size ≤ gy ∧ gx ≠ gy) ∧ Vs w ((gy, Cg.th G2) :: (gx, Cg.th G1) :: [(g2, Cg.th G2), (g1, Cg.th G1), (w.heap.size + 1, O.th), (w.heap.size, K.th)]) w') ?_ ?_
  · refine wp_region_held_drew (S := Sg w [(g2, Cg.th G2), (g1, Cg.th G1), (w.heap.size + 1, O.th), (w.heap.size, K.th)] wr2) (by kernel_rfl) (Sg.start hv) (fun hHeld => ?_)
    refine wpAnyH_take (i := 0) (oi := { dst := some 35, op := Go.Op.load 29 (Go.Operand.tmp 5), type := 29, pos := "more.go:15", after := #[], guard := none }) (v := .agg (Cg.cells G1)) rfl (by kernel_rfl) (by kernel_rfl) (by kernel_rfl) (fun _ _ _ h => nomatch h.1) (yieldsIf_load_mid (by rfl) 29 (.tmp 5) rfl _ 0 rfl (Cg.cells G1).toList _ (row_cfg (show (g1, Cg.th G1) ∈ ([(g2, Cg.th G2), (g1, Cg.th G1), (w.heap.size + 1, O.th), (w.heap.size, K.th)] : List (Nat × Th)) from (List.mem_cons_of_mem _ List.mem_cons_self))) Try.underlying29 rfl Try.size29) hHeld ?_
    try simp only [Act.put, List.setIfInBounds_toArray, List.set_cons_zero, List.set_cons_succ]
    refine wpAnyH_take (i := 1) (oi := { dst := some 36, op := Go.Op.load 29 (Go.Operand.tmp 7), type := 29, pos := "more.go:15", after := #[{ on := 4, ground := Go.Ground.gcOnly Go.Departure.lateStores }], guard := none }) (v := .agg (Cg.cells G2)) rfl (by kernel_rfl) (by kernel_rfl) (by kernel_rfl) (fun _ _ _ h => nomatch h.1) (yieldsIf_load_mid (by rfl) 29 (.tmp 7) rfl _ 0 rfl (Cg.cells G2).toList _ (row_cfg (show (g2, Cg.th G2) ∈ ([(g2, Cg.th G2), (g1, Cg.th G1), (w.heap.size + 1, O.th), (w.heap.size, K.th)] : List (Nat × Th)) from List.mem_cons_self)) Try.underlying29 rfl Try.size29) hHeld ?_
    try simp only [Act.put, List.setIfInBounds_toArray, List.set_cons_zero, List.set_cons_succ]
    refine wpAnyH_ready (rs := [2, 3]) (by kernel_rfl) (by simp) ?_
    refine AllReadyH.cons (o := { dst := some 9, op := Go.Op.alloc 29, type := 0, pos := "more.go:15", after := #[], guard := none }) rfl (fun kK hkK => ?_) ?_
    · go_simp
      obtain ⟨v1, hvv1⟩ : ∃ x, ((wr2.alloc (.cells #[.string ⟨#[]⟩, .bool false, .bool false, .bool false, .bool false, .bool false, .bool false, .slice none 0 0, .slice none 0 0, .bool false, .slice none 0 0, .int .i64 0, .int .i64 0, .bool false, .int .i64 0, .slice none 0 0, .string ⟨#[]⟩, .int .i64 0] 29)).drew) = x := ⟨_, rfl⟩
      have kz0 := Blk.new wr2 29 zeroC
      have kx : Blk v1 wr2.heap.size 29 zeroC := hvv1 ▸ (show Blk ((wr2.alloc (.cells #[.string ⟨#[]⟩, .bool false, .bool false, .bool false, .bool false, .bool false, .bool false, .slice none 0 0, .slice none 0 0, .bool false, .slice none 0 0, .int .i64 0, .int .i64 0, .bool false, .int .i64 0, .slice none 0 0, .string ⟨#[]⟩, .int .i64 0] 29)).drew) _ _ _ from kz0)
      have gex : wr2.heap.size ≤ wr2.heap.size := hHeld.bl.size
      have hS : Sg w [(g2, Cg.th G2), (g1, Cg.th G1), (w.heap.size + 1, O.th), (w.heap.size, K.th)] wr2 v1 := hvv1 ▸ (show Sg w [(g2, Cg.th G2), (g1, Cg.th G1), (w.heap.size + 1, O.th), (w.heap.size, K.th)] wr2 ((wr2.alloc (.cells #[.string ⟨#[]⟩, .bool false, .bool false, .bool false, .bool false, .bool false, .bool false, .slice none 0 0, .slice none 0 0, .bool false, .slice none 0 0, .int .i64 0, .int .i64 0, .bool false, .int .i64 0, .slice none 0 0, .string ⟨#[]⟩, .int .i64 0] 29)).drew) from hHeld.alloc (.cells zeroC 29))
      rw [hvv1]
      clear hvv1 hHeld kz0
      refine hkK.out _ _ hS (fun hHeld => ?_)
      clear hkK kK
      try simp only [Act.put, List.setIfInBounds_toArray, List.set_cons_zero, List.set_cons_succ]
      refine wpAnyH_ready (rs := [3]) (by kernel_rfl) (by simp) ?_
      refine AllReadyH.cons (o := { dst := some 10, op := Go.Op.alloc 29, type := 0, pos := "more.go:15", after := #[], guard := none }) rfl (fun kK hkK => ?_) ?_
      · go_simp
        obtain ⟨v2, hvv2⟩ : ∃ x, (v1.alloc (.cells #[.string ⟨#[]⟩, .bool false, .bool false, .bool false, .bool false, .bool false, .bool false, .slice none 0 0, .slice none 0 0, .bool false, .slice none 0 0, .int .i64 0, .int .i64 0, .bool false, .int .i64 0, .slice none 0 0, .string ⟨#[]⟩, .int .i64 0] 29)) = x := ⟨_, rfl⟩
        have kz0 := Blk.new v1 29 zeroC
        have ky : Blk v2 v1.heap.size 29 zeroC := hvv2 ▸ (show Blk (v1.alloc (.cells #[.string ⟨#[]⟩, .bool false, .bool false, .bool false, .bool false, .bool false, .bool false, .slice none 0 0, .slice none 0 0, .bool false, .slice none 0 0, .int .i64 0, .int .i64 0, .bool false, .int .i64 0, .slice none 0 0, .string ⟨#[]⟩, .int .i64 0] 29)) _ _ _ from kz0)
        have gey : wr2.heap.size ≤ v1.heap.size := hHeld.bl.size
        have hS : Sg w [(g2, Cg.th G2), (g1, Cg.th G1), (w.heap.size + 1, O.th), (w.heap.size, K.th)] wr2 v2 := hvv2 ▸ (show Sg w [(g2, Cg.th G2), (g1, Cg.th G1), (w.heap.size + 1, O.th), (w.heap.size, K.th)] wr2 (v1.alloc (.cells #[.string ⟨#[]⟩, .bool false, .bool false, .bool false, .bool false, .bool false, .bool false, .slice none 0 0, .slice none 0 0, .bool false, .slice none 0 0, .int .i64 0, .int .i64 0, .bool false, .int .i64 0, .slice none 0 0, .string ⟨#[]⟩, .int .i64 0] 29)) from hHeld.alloc (.cells zeroC 29))
        have hlt := kx.lt
        replace kx := hvv2 ▸ (show Blk (v1.alloc (.cells #[.string ⟨#[]⟩, .bool false, .bool false, .bool false, .bool false, .bool false, .bool false, .slice none 0 0, .slice none 0 0, .bool false, .slice none 0 0, .int .i64 0, .int .i64 0, .bool false, .int .i64 0, .slice none 0 0, .string ⟨#[]⟩, .int .i64 0] 29)) _ _ _ from kx.alloc _)
        rw [hvv2]
        clear hvv2 hHeld kz0
        refine hkK.out _ _ hS (fun hHeld => ?_)
        clear hkK kK
        try simp only [Act.put, List.setIfInBounds_toArray, List.set_cons_zero, List.set_cons_succ]
        refine wpAnyH_ready (rs := [4]) (by kernel_rfl) (by simp) ?_
        refine AllReadyH.cons (o := { dst := none, op := Go.Op.store 29 (Go.Operand.tmp 9) (Go.Operand.tmp 35), type := 0, pos := "more.go:15", after := #[{ on := 2, ground := Go.Ground.data }, { on := 0, ground := Go.Ground.data }, { on := 0, ground := Go.Ground.phase }, { on := 1, ground := Go.Ground.textOnly Go.Departure.lateStores }, { on := 2, ground := Go.Ground.phase }, { on := 3, ground := Go.Ground.phase }], guard := none }) rfl (fun kK hkK => ?_) ?_
        · have nexy : wr2.heap.size ≠ v1.heap.size := by omega
          have h2 := hv.var2 hHeld.vs (show (g1, Cg.th G1) ∈ ([(g2, Cg.th G2), (g1, Cg.th G1), (w.heap.size + 1, O.th), (w.heap.size, K.th)] : List (Nat × Th)) from (List.mem_cons_of_mem _ List.mem_cons_self)) (show (g2, Cg.th G2) ∈ ([(g2, Cg.th G2), (g1, Cg.th G1), (w.heap.size + 1, O.th), (w.heap.size, K.th)] : List (Nat × Th)) from List.mem_cons_self) gex gey nexy kx ky rfl rfl
          have hS : Sg w [(g2, Cg.th G2), (g1, Cg.th G1), (w.heap.size + 1, O.th), (w.heap.size, K.th)] wr2 (v2.setCells (wr2.heap.size) 0 (Cg.cells G1).toList) := ⟨h2.1.less (fun _ hp => List.mem_cons_of_mem _ hp), below_puts hHeld.bl hHeld.bl.size gex 0 _⟩
          have ky2 := ky.far (g := wr2.heap.size) (by omega) 0 (Cg.cells G1).toList
          rw [if_pos (by rfl)]
          refine wp_store_mid 29 (.tmp 9) (.tmp 35) rfl (wr2.heap.size) 0 (Cg.cells G1) rfl rfl (there_of_blk kx 0 _ (Nat.le_refl 18)) Try.size29 (by simp [Cg.cells, Value.oneCell']) ?_
          obtain ⟨v3, hvs⟩ : ∃ x, v2.setCells (wr2.heap.size) 0 (Cg.cells G1).toList = x := ⟨_, rfl⟩
          have hS : Sg w [(g2, Cg.th G2), (g1, Cg.th G1), (w.heap.size + 1, O.th), (w.heap.size, K.th)] wr2 v3 := hvs ▸ hS
          have h3 : Vs w ((v1.heap.size, Cg.th G2) :: (wr2.heap.size, Cg.th G1) :: [(g2, Cg.th G2), (g1, Cg.th G1), (w.heap.size + 1, O.th), (w.heap.size, K.th)]) (v3.setCells (v1.heap.size) 0 (Cg.cells G2).toList) := hvs ▸ h2.2
          have ky3 : Blk v3 (v1.heap.size) 29 zeroC := hvs ▸ ky2
          rw [hvs]
          clear hvs h2 ky2 hHeld kx
          refine hkK.out _ _ hS (fun hHeld => ?_)
          clear hkK kK
          try simp only [Act.put]
          refine wpAnyH_ready (rs := [5]) (by kernel_rfl) (by simp) ?_
          refine AllReadyH.cons (o := { dst := none, op := Go.Op.store 29 (Go.Operand.tmp 10) (Go.Operand.tmp 36), type := 0, pos := "more.go:15", after := #[{ on := 3, ground := Go.Ground.data }, { on := 1, ground := Go.Ground.data }, { on := 4, ground := Go.Ground.chain }, { on := 0, ground := Go.Ground.phase }, { on := 1, ground := Go.Ground.phase }, { on := 2, ground := Go.Ground.phase }, { on := 3, ground := Go.Ground.phase }, { on := 4, ground := Go.Ground.phase }], guard := none }) rfl (fun kK hkK => ?_) ?_
          · have hS : Sg w [(g2, Cg.th G2), (g1, Cg.th G1), (w.heap.size + 1, O.th), (w.heap.size, K.th)] wr2 (v3.setCells (v1.heap.size) 0 (Cg.cells G2).toList) := ⟨h3.less (fun _ hp => List.mem_cons_of_mem _ (List.mem_cons_of_mem _ hp)), below_puts hHeld.bl hHeld.bl.size gey 0 _⟩
            rw [if_pos (by rfl)]
            refine wp_store_mid 29 (.tmp 10) (.tmp 36) rfl (v1.heap.size) 0 (Cg.cells G2) rfl rfl (there_of_blk ky3 0 _ (Nat.le_refl 18)) Try.size29 (by simp [Cg.cells, Value.oneCell']) ?_
            refine hkK.out _ _ hS (fun hHeld => ?_)
            clear hkK kK
            try simp only [Act.put]
            refine wpAnyH_done (by kernel_rfl) ?_ _
            refine ⟨rfl, _, _, ?_, ⟨gex, gey, nexy⟩, h3⟩
            rfl
          exact AllReadyH.nil
        exact AllReadyH.nil
      exact AllReadyH.nil
    refine AllReadyH.cons (o := { dst := some 10, op := Go.Op.alloc 29, type := 0, pos := "more.go:15", after := #[], guard := none }) rfl (fun kK hkK => ?_) ?_
    · go_simp
      obtain ⟨v4, hvv4⟩ : ∃ x, ((wr2.alloc (.cells #[.string ⟨#[]⟩, .bool false, .bool false, .bool false, .bool false, .bool false, .bool false, .slice none 0 0, .slice none 0 0, .bool false, .slice none 0 0, .int .i64 0, .int .i64 0, .bool false, .int .i64 0, .slice none 0 0, .string ⟨#[]⟩, .int .i64 0] 29)).drew) = x := ⟨_, rfl⟩
      have kz0 := Blk.new wr2 29 zeroC
      have ky : Blk v4 wr2.heap.size 29 zeroC := hvv4 ▸ (show Blk ((wr2.alloc (.cells #[.string ⟨#[]⟩, .bool false, .bool false, .bool false, .bool false, .bool false, .bool false, .slice none 0 0, .slice none 0 0, .bool false, .slice none 0 0, .int .i64 0, .int .i64 0, .bool false, .int .i64 0, .slice none 0 0, .string ⟨#[]⟩, .int .i64 0] 29)).drew) _ _ _ from kz0)
      have gey : wr2.heap.size ≤ wr2.heap.size := hHeld.bl.size
      have hS : Sg w [(g2, Cg.th G2), (g1, Cg.th G1), (w.heap.size + 1, O.th), (w.heap.size, K.th)] wr2 v4 := hvv4 ▸ (show Sg w [(g2, Cg.th G2), (g1, Cg.th G1), (w.heap.size + 1, O.th), (w.heap.size, K.th)] wr2 ((wr2.alloc (.cells #[.string ⟨#[]⟩, .bool false, .bool false, .bool false, .bool false, .bool false, .bool false, .slice none 0 0, .slice none 0 0, .bool false, .slice none 0 0, .int .i64 0, .int .i64 0, .bool false, .int .i64 0, .slice none 0 0, .string ⟨#[]⟩, .int .i64 0] 29)).drew) from hHeld.alloc (.cells zeroC 29))
      rw [hvv4]
      clear hvv4 hHeld kz0
      refine hkK.out _ _ hS (fun hHeld => ?_)
      clear hkK kK
      try simp only [Act.put, List.setIfInBounds_toArray, List.set_cons_zero, List.set_cons_succ]
      refine wpAnyH_ready (rs := [2]) (by kernel_rfl) (by simp) ?_
      refine AllReadyH.cons (o := { dst := some 9, op := Go.Op.alloc 29, type := 0, pos := "more.go:15", after := #[], guard := none }) rfl (fun kK hkK => ?_) ?_
      · go_simp
        obtain ⟨v5, hvv5⟩ : ∃ x, (v4.alloc (.cells #[.string ⟨#[]⟩, .bool false, .bool false, .bool false, .bool false, .bool false, .bool false, .slice none 0 0, .slice none 0 0, .bool false, .slice none 0 0, .int .i64 0, .int .i64 0, .bool false, .int .i64 0, .slice none 0 0, .string ⟨#[]⟩, .int .i64 0] 29)) = x := ⟨_, rfl⟩
        have kz0 := Blk.new v4 29 zeroC
        have kx : Blk v5 v4.heap.size 29 zeroC := hvv5 ▸ (show Blk (v4.alloc (.cells #[.string ⟨#[]⟩, .bool false, .bool false, .bool false, .bool false, .bool false, .bool false, .slice none 0 0, .slice none 0 0, .bool false, .slice none 0 0, .int .i64 0, .int .i64 0, .bool false, .int .i64 0, .slice none 0 0, .string ⟨#[]⟩, .int .i64 0] 29)) _ _ _ from kz0)
        have gex : wr2.heap.size ≤ v4.heap.size := hHeld.bl.size
        have hS : Sg w [(g2, Cg.th G2), (g1, Cg.th G1), (w.heap.size + 1, O.th), (w.heap.size, K.th)] wr2 v5 := hvv5 ▸ (show Sg w [(g2, Cg.th G2), (g1, Cg.th G1), (w.heap.size + 1, O.th), (w.heap.size, K.th)] wr2 (v4.alloc (.cells #[.string ⟨#[]⟩, .bool false, .bool false, .bool false, .bool false, .bool false, .bool false, .slice none 0 0, .slice none 0 0, .bool false, .slice none 0 0, .int .i64 0, .int .i64 0, .bool false, .int .i64 0, .slice none 0 0, .string ⟨#[]⟩, .int .i64 0] 29)) from hHeld.alloc (.cells zeroC 29))
        have hlt := ky.lt
        replace ky := hvv5 ▸ (show Blk (v4.alloc (.cells #[.string ⟨#[]⟩, .bool false, .bool false, .bool false, .bool false, .bool false, .bool false, .slice none 0 0, .slice none 0 0, .bool false, .slice none 0 0, .int .i64 0, .int .i64 0, .bool false, .int .i64 0, .slice none 0 0, .string ⟨#[]⟩, .int .i64 0] 29)) _ _ _ from ky.alloc _)
        rw [hvv5]
        clear hvv5 hHeld kz0
        refine hkK.out _ _ hS (fun hHeld => ?_)
        clear hkK kK
        try simp only [Act.put, List.setIfInBounds_toArray, List.set_cons_zero, List.set_cons_succ]
        refine wpAnyH_ready (rs := [4]) (by kernel_rfl) (by simp) ?_
        refine AllReadyH.cons (o := { dst := none, op := Go.Op.store 29 (Go.Operand.tmp 9) (Go.Operand.tmp 35), type := 0, pos := "more.go:15", after := #[{ on := 2, ground := Go.Ground.data }, { on := 0, ground := Go.Ground.data }, { on := 0, ground := Go.Ground.phase }, { on := 1, ground := Go.Ground.textOnly Go.Departure.lateStores }, { on := 2, ground := Go.Ground.phase }, { on := 3, ground := Go.Ground.phase }], guard := none }) rfl (fun kK hkK => ?_) ?_
        · have nexy : v4.heap.size ≠ wr2.heap.size := by omega
          have h2 := hv.var2 hHeld.vs (show (g1, Cg.th G1) ∈ ([(g2, Cg.th G2), (g1, Cg.th G1), (w.heap.size + 1, O.th), (w.heap.size, K.th)] : List (Nat × Th)) from (List.mem_cons_of_mem _ List.mem_cons_self)) (show (g2, Cg.th G2) ∈ ([(g2, Cg.th G2), (g1, Cg.th G1), (w.heap.size + 1, O.th), (w.heap.size, K.th)] : List (Nat × Th)) from List.mem_cons_self) gex gey nexy kx ky rfl rfl
          have hS : Sg w [(g2, Cg.th G2), (g1, Cg.th G1), (w.heap.size + 1, O.th), (w.heap.size, K.th)] wr2 (v5.setCells (v4.heap.size) 0 (Cg.cells G1).toList) := ⟨h2.1.less (fun _ hp => List.mem_cons_of_mem _ hp), below_puts hHeld.bl hHeld.bl.size gex 0 _⟩
          have ky2 := ky.far (g := v4.heap.size) (by omega) 0 (Cg.cells G1).toList
          rw [if_pos (by rfl)]
          refine wp_store_mid 29 (.tmp 9) (.tmp 35) rfl (v4.heap.size) 0 (Cg.cells G1) rfl rfl (there_of_blk kx 0 _ (Nat.le_refl 18)) Try.size29 (by simp [Cg.cells, Value.oneCell']) ?_
          obtain ⟨v6, hvs⟩ : ∃ x, v5.setCells (v4.heap.size) 0 (Cg.cells G1).toList = x := ⟨_, rfl⟩
          have hS : Sg w [(g2, Cg.th G2), (g1, Cg.th G1), (w.heap.size + 1, O.th), (w.heap.size, K.th)] wr2 v6 := hvs ▸ hS
          have h3 : Vs w ((wr2.heap.size, Cg.th G2) :: (v4.heap.size, Cg.th G1) :: [(g2, Cg.th G2), (g1, Cg.th G1), (w.heap.size + 1, O.th), (w.heap.size, K.th)]) (v6.setCells (wr2.heap.size) 0 (Cg.cells G2).toList) := hvs ▸ h2.2
          have ky3 : Blk v6 (wr2.heap.size) 29 zeroC := hvs ▸ ky2
          rw [hvs]
          clear hvs h2 ky2 hHeld kx
          refine hkK.out _ _ hS (fun hHeld => ?_)
          clear hkK kK
          try simp only [Act.put]
          refine wpAnyH_ready (rs := [5]) (by kernel_rfl) (by simp) ?_
          refine AllReadyH.cons (o := { dst := none, op := Go.Op.store 29 (Go.Operand.tmp 10) (Go.Operand.tmp 36), type := 0, pos := "more.go:15", after := #[{ on := 3, ground := Go.Ground.data }, { on := 1, ground := Go.Ground.data }, { on := 4, ground := Go.Ground.chain }, { on := 0, ground := Go.Ground.phase }, { on := 1, ground := Go.Ground.phase }, { on := 2, ground := Go.Ground.phase }, { on := 3, ground := Go.Ground.phase }, { on := 4, ground := Go.Ground.phase }], guard := none }) rfl (fun kK hkK => ?_) ?_
          · have hS : Sg w [(g2, Cg.th G2), (g1, Cg.th G1), (w.heap.size + 1, O.th), (w.heap.size, K.th)] wr2 (v6.setCells (wr2.heap.size) 0 (Cg.cells G2).toList) := ⟨h3.less (fun _ hp => List.mem_cons_of_mem _ (List.mem_cons_of_mem _ hp)), below_puts hHeld.bl hHeld.bl.size gey 0 _⟩
            rw [if_pos (by rfl)]
            refine wp_store_mid 29 (.tmp 10) (.tmp 36) rfl (wr2.heap.size) 0 (Cg.cells G2) rfl rfl (there_of_blk ky3 0 _ (Nat.le_refl 18)) Try.size29 (by simp [Cg.cells, Value.oneCell']) ?_
            refine hkK.out _ _ hS (fun hHeld => ?_)
            clear hkK kK
            try simp only [Act.put]
            refine wpAnyH_done (by kernel_rfl) ?_ _
            refine ⟨rfl, _, _, ?_, ⟨gex, gey, nexy⟩, h3⟩
            rfl
          exact AllReadyH.nil
        exact AllReadyH.nil
      exact AllReadyH.nil
    exact AllReadyH.nil
  rintro a' w4 ⟨gx, gy, rfl, ⟨gex, gey, gxy⟩, hvn⟩
  have ltK := hv.lt (show (w.heap.size, K.th) ∈ ([(g2, Cg.th G2), (g1, Cg.th G1), (w.heap.size + 1, O.th), (w.heap.size, K.th)] : List (Nat × Th)) from (List.mem_cons_of_mem _ (List.mem_cons_of_mem _ (List.mem_cons_of_mem _ List.mem_cons_self))))
  have ltO := hv.lt (show (w.heap.size + 1, O.th) ∈ ([(g2, Cg.th G2), (g1, Cg.th G1), (w.heap.size + 1, O.th), (w.heap.size, K.th)] : List (Nat × Th)) from (List.mem_cons_of_mem _ (List.mem_cons_of_mem _ List.mem_cons_self)))
  have lt1 := hv.lt (show (g1, Cg.th G1) ∈ ([(g2, Cg.th G2), (g1, Cg.th G1), (w.heap.size + 1, O.th), (w.heap.size, K.th)] : List (Nat × Th)) from (List.mem_cons_of_mem _ List.mem_cons_self))
  have lt2 := hv.lt (show (g2, Cg.th G2) ∈ ([(g2, Cg.th G2), (g1, Cg.th G1), (w.heap.size + 1, O.th), (w.heap.size, K.th)] : List (Nat × Th)) from List.mem_cons_self)
  simp only at ltK ltO lt1 lt2
  clear hv
  have hv := hvn
  clear hvn
  simp only [Act.put, List.setIfInBounds_toArray, List.set_cons_zero, List.set_cons_succ]
  have kc : Blk w4 w.heap.size 29 K.cells := hv.get (show (w.heap.size, K.th) ∈ ([(gy, Cg.th G2), (gx, Cg.th G1), (g2, Cg.th G2), (g1, Cg.th G1), (w.heap.size + 1, O.th), (w.heap.size, K.th)] : List (Nat × Th)) from (List.mem_cons_of_mem _ (List.mem_cons_of_mem _ (List.mem_cons_of_mem _ (List.mem_cons_of_mem _ (List.mem_cons_of_mem _ List.mem_cons_self))))))
  have kx : Blk w4 gx 29 G1.cells := hv.get (show (gx, Cg.th G1) ∈ ([(gy, Cg.th G2), (gx, Cg.th G1), (g2, Cg.th G2), (g1, Cg.th G1), (w.heap.size + 1, O.th), (w.heap.size, K.th)] : List (Nat × Th)) from (List.mem_cons_of_mem _ List.mem_cons_self))
  have ky : Blk w4 gy 29 G2.cells := hv.get (show (gy, Cg.th G2) ∈ ([(gy, Cg.th G2), (gx, Cg.th G1), (g2, Cg.th G2), (g1, Cg.th G1), (w.heap.size + 1, O.th), (w.heap.size, K.th)] : List (Nat × Th)) from List.mem_cons_self)
  have c1 := kc.cell 1
  have c2 := kc.cell 2
  have c3 := kc.cell 3
  have c4 := kc.cell 4
  have c5 := kc.cell 5
  have c6 := kc.cell 6
  have c10 := kc.cell 10
  simp only [List.getElem?_toArray, List.getElem?_cons_zero, List.getElem?_cons_succ] at c1 c2 c3 c4 c5 c6 c10
  have x1 := kx.cell 1
  have x2 := kx.cell 2
  have x3 := kx.cell 3
  have x4 := kx.cell 4
  have x5 := kx.cell 5
  have x6 := kx.cell 6
  simp only [List.getElem?_toArray, List.getElem?_cons_zero, List.getElem?_cons_succ] at x1 x2 x3 x4 x5 x6
  have u1 := kx.frozen 1
  have u2 := kx.frozen 2
  have u3 := kx.frozen 3
  have u4 := kx.frozen 4
  have u5 := kx.frozen 5
  have u6 := kx.frozen 6
  have y10 := ky.cell 10
  simp only [List.getElem?_toArray, List.getElem?_cons_zero, List.getElem?_cons_succ] at y10
  have z10 := ky.frozen 10
  have n1x : w.heap.size ≠ gx := by omega
  have n2x : gx ≠ w.heap.size := by omega
  have n1y : w.heap.size ≠ gy := by omega
  have n2y : gy ≠ w.heap.size := by omega
  have n3 : gy ≠ gx := by omega
  have hv5 : Vs w ((gx, Cg.th G1) :: [(gy, Cg.th G2), (g2, Cg.th G2), (g1, Cg.th G1), (w.heap.size + 1, O.th), (w.heap.size, K.th)]) w4 := hv.less (by
    intro p hp
    simp only [List.mem_cons, List.not_mem_nil, or_false] at hp
    rcases hp with rfl | rfl | rfl | rfl | rfl | rfl
    · exact (show (gx, Cg.th G1) ∈ ([(gy, Cg.th G2), (gx, Cg.th G1), (g2, Cg.th G2), (g1, Cg.th G1), (w.heap.size + 1, O.th), (w.heap.size, K.th)] : List (Nat × Th)) from (List.mem_cons_of_mem _ List.mem_cons_self))
    · exact (show (gy, Cg.th G2) ∈ ([(gy, Cg.th G2), (gx, Cg.th G1), (g2, Cg.th G2), (g1, Cg.th G1), (w.heap.size + 1, O.th), (w.heap.size, K.th)] : List (Nat × Th)) from List.mem_cons_self)
    · exact (show (g2, Cg.th G2) ∈ ([(gy, Cg.th G2), (gx, Cg.th G1), (g2, Cg.th G2), (g1, Cg.th G1), (w.heap.size + 1, O.th), (w.heap.size, K.th)] : List (Nat × Th)) from (List.mem_cons_of_mem _ (List.mem_cons_of_mem _ List.mem_cons_self)))
    · exact (show (g1, Cg.th G1) ∈ ([(gy, Cg.th G2), (gx, Cg.th G1), (g2, Cg.th G2), (g1, Cg.th G1), (w.heap.size + 1, O.th), (w.heap.size, K.th)] : List (Nat × Th)) from (List.mem_cons_of_mem _ (List.mem_cons_of_mem _ (List.mem_cons_of_mem _ List.mem_cons_self))))
    · exact (show (w.heap.size + 1, O.th) ∈ ([(gy, Cg.th G2), (gx, Cg.th G1), (g2, Cg.th G2), (g1, Cg.th G1), (w.heap.size + 1, O.th), (w.heap.size, K.th)] : List (Nat × Th)) from (List.mem_cons_of_mem _ (List.mem_cons_of_mem _ (List.mem_cons_of_mem _ (List.mem_cons_of_mem _ List.mem_cons_self)))))
    · exact (show (w.heap.size, K.th) ∈ ([(gy, Cg.th G2), (gx, Cg.th G1), (g2, Cg.th G2), (g1, Cg.th G1), (w.heap.size + 1, O.th), (w.heap.size, K.th)] : List (Nat × Th)) from (List.mem_cons_of_mem _ (List.mem_cons_of_mem _ (List.mem_cons_of_mem _ (List.mem_cons_of_mem _ (List.mem_cons_of_mem _ List.mem_cons_self)))))))
  have hne : ∀ p ∈ ([(gy, Cg.th G2), (g2, Cg.th G2), (g1, Cg.th G1), (w.heap.size + 1, O.th), (w.heap.size, K.th)] : List (Nat × Th)), p.1 ≠ gx := by
    intro p hp
    simp only [List.mem_cons, List.not_mem_nil, or_false] at hp
    rcases hp with rfl | rfl | rfl | rfl | rfl <;> simp only <;> omega
  have hv6 := hv5.puth (i := 1) (u := .bool K.f.pr) (t' := Cg.th { G1 with f := { G1.f with pr := K.f.pr } }) hne rfl rfl rfl
  have hv7 := hv6.puth (i := 3) (u := .bool K.f.am) (t' := Cg.th { G1 with f := { G1.f with pr := K.f.pr, am := K.f.am } }) hne rfl rfl rfl
  have hv8 := hv7.puth (i := 2) (u := .bool K.f.au) (t' := Cg.th { G1 with f := { G1.f with pr := K.f.pr, am := K.f.am, au := K.f.au } }) hne rfl rfl rfl
  have hv9 := hv8.puth (i := 5) (u := .bool K.f.nm) (t' := Cg.th { G1 with f := { G1.f with pr := K.f.pr, am := K.f.am, au := K.f.au, nm := K.f.nm } }) hne rfl rfl rfl
  have hv10 := hv9.puth (i := 4) (u := .bool K.f.nu) (t' := Cg.th { G1 with f := { G1.f with pr := K.f.pr, am := K.f.am, au := K.f.au, nm := K.f.nm, nu := K.f.nu } }) hne rfl rfl rfl
  have hv11 := hv10.puth (i := 6) (u := .bool K.f.na) (t' := Cg.th { G1 with f := { G1.f with pr := K.f.pr, am := K.f.am, au := K.f.au, nm := K.f.nm, nu := K.f.nu, na := K.f.na } }) hne rfl rfl rfl
  have hva : Vs w [(gx, Cg.th (xOf G1 K)), (gy, Cg.th G2), (g2, Cg.th G2), (g1, Cg.th G1), (w.heap.size + 1, O.th), (w.heap.size, K.th)] _ := hv11
  have my := (show (gy, Cg.th G2) ∈ ([(gx, Cg.th (xOf G1 K)), (gy, Cg.th G2), (g2, Cg.th G2), (g1, Cg.th G1), (w.heap.size + 1, O.th), (w.heap.size, K.th)] : List (Nat × Th)) from (List.mem_cons_of_mem _ List.mem_cons_self))
  have mk := (show (w.heap.size, K.th) ∈ ([(gx, Cg.th (xOf G1 K)), (gy, Cg.th G2), (g2, Cg.th G2), (g1, Cg.th G1), (w.heap.size + 1, O.th), (w.heap.size, K.th)] : List (Nat × Th)) from (List.mem_cons_of_mem _ (List.mem_cons_of_mem _ (List.mem_cons_of_mem _ (List.mem_cons_of_mem _ (List.mem_cons_of_mem _ List.mem_cons_self))))))
  have hvb := hva.put (L' := [(gx, Cg.th (xOf G1 K)), (gy, Cg.th (yOf G2 K)), (g2, Cg.th G2), (g1, Cg.th G1), (w.heap.size + 1, O.th), (w.heap.size, K.th)]) (i := 10) (u := .slice K.f.V K.f.vs.length K.f.vc) (G := yOf G2 K) my rfl ⟨⟨(hva.at my).f.u, (hva.at my).f.m, (hva.at mk).f.v⟩, (hva.at my).t⟩ (fun q hq => ⟨⟨(hva.ofs my q hq).f.u, (hva.ofs my q hq).f.m, (hva.ofs mk q hq).f.v⟩, (hva.ofs my q hq).t⟩) (by
    intro p hp
    simp only [List.mem_cons, List.not_mem_nil, or_false] at hp
    rcases hp with rfl | rfl | rfl | rfl | rfl | rfl
    · exact .inr ⟨(show (gx, Cg.th (xOf G1 K)) ∈ ([(gx, Cg.th (xOf G1 K)), (gy, Cg.th G2), (g2, Cg.th G2), (g1, Cg.th G1), (w.heap.size + 1, O.th), (w.heap.size, K.th)] : List (Nat × Th)) from List.mem_cons_self), by simp only; omega⟩
    · exact .inl rfl
    · exact .inr ⟨(show (g2, Cg.th G2) ∈ ([(gx, Cg.th (xOf G1 K)), (gy, Cg.th G2), (g2, Cg.th G2), (g1, Cg.th G1), (w.heap.size + 1, O.th), (w.heap.size, K.th)] : List (Nat × Th)) from (List.mem_cons_of_mem _ (List.mem_cons_of_mem _ List.mem_cons_self))), by simp only; omega⟩
    · exact .inr ⟨(show (g1, Cg.th G1) ∈ ([(gx, Cg.th (xOf G1 K)), (gy, Cg.th G2), (g2, Cg.th G2), (g1, Cg.th G1), (w.heap.size + 1, O.th), (w.heap.size, K.th)] : List (Nat × Th)) from (List.mem_cons_of_mem _ (List.mem_cons_of_mem _ (List.mem_cons_of_mem _ List.mem_cons_self)))), by simp only; omega⟩
    · exact .inr ⟨(show (w.heap.size + 1, O.th) ∈ ([(gx, Cg.th (xOf G1 K)), (gy, Cg.th G2), (g2, Cg.th G2), (g1, Cg.th G1), (w.heap.size + 1, O.th), (w.heap.size, K.th)] : List (Nat × Th)) from (List.mem_cons_of_mem _ (List.mem_cons_of_mem _ (List.mem_cons_of_mem _ (List.mem_cons_of_mem _ List.mem_cons_self))))), by simp only; omega⟩
    · exact .inr ⟨(show (w.heap.size, K.th) ∈ ([(gx, Cg.th (xOf G1 K)), (gy, Cg.th G2), (g2, Cg.th G2), (g1, Cg.th G1), (w.heap.size + 1, O.th), (w.heap.size, K.th)] : List (Nat × Th)) from (List.mem_cons_of_mem _ (List.mem_cons_of_mem _ (List.mem_cons_of_mem _ (List.mem_cons_of_mem _ (List.mem_cons_of_mem _ List.mem_cons_self)))))), by simp only; omega⟩)
  clear hv hv5 hv6 hv7 hv8 hv9 hv10 hv11 hva hne kc kx ky my mk
  obtain ⟨w5, hw5⟩ : ∃ x, (((((((w4.setCell ⟨gx, 1, none⟩ (.bool K.f.pr)).setCell ⟨gx, 3, none⟩ (.bool K.f.am)).setCell ⟨gx, 2, none⟩ (.bool K.f.au)).setCell ⟨gx, 5, none⟩ (.bool K.f.nm)).setCell ⟨gx, 4, none⟩ (.bool K.f.nu)).setCell ⟨gx, 6, none⟩ (.bool K.f.na)).setCell ⟨gy, 10, none⟩ (.slice K.f.V K.f.vs.length K.f.vc)) = x := ⟨_, rfl⟩
  have hv : Vs w [(gx, Cg.th (xOf G1 K)), (gy, Cg.th (yOf G2 K)), (g2, Cg.th G2), (g1, Cg.th G1), (w.heap.size + 1, O.th), (w.heap.size, K.th)] w5 := hw5 ▸ hvb
  have HW := Lib.hid hw5
  clear hvb hw5
  have kx : Blk w5 gx 29 (Cg.cells (xOf G1 K)) := hv.get (show (gx, Cg.th (xOf G1 K)) ∈ ([(gx, Cg.th (xOf G1 K)), (gy, Cg.th (yOf G2 K)), (g2, Cg.th G2), (g1, Cg.th G1), (w.heap.size + 1, O.th), (w.heap.size, K.th)] : List (Nat × Th)) from List.mem_cons_self)
  have ky : Blk w5 gy 29 (Cg.cells (yOf G2 K)) := hv.get (show (gy, Cg.th (yOf G2 K)) ∈ ([(gx, Cg.th (xOf G1 K)), (gy, Cg.th (yOf G2 K)), (g2, Cg.th G2), (g1, Cg.th G1), (w.heap.size + 1, O.th), (w.heap.size, K.th)] : List (Nat × Th)) from (List.mem_cons_of_mem _ List.mem_cons_self))
  have kc : Blk w5 w.heap.size 29 K.cells := hv.get (show (w.heap.size, K.th) ∈ ([(gx, Cg.th (xOf G1 K)), (gy, Cg.th (yOf G2 K)), (g2, Cg.th G2), (g1, Cg.th G1), (w.heap.size + 1, O.th), (w.heap.size, K.th)] : List (Nat × Th)) from (List.mem_cons_of_mem _ (List.mem_cons_of_mem _ (List.mem_cons_of_mem _ (List.mem_cons_of_mem _ (List.mem_cons_of_mem _ List.mem_cons_self))))))
  have KX := Lib.hid kx
  have KY := Lib.hid ky
  have KC := Lib.hid kc
  have SX := Lib.hid (fun W (h : Vs w [(gx, Cg.th (xOf G1 K)), (gy, Cg.th (yOf G2 K)), (g2, Cg.th G2), (g1, Cg.th G1), (w.heap.size + 1, O.th), (w.heap.size, K.th)] W) => csame_yes (xOf G1 K) K W.heap.size W (x_same hS1.out HX1.out).symm (h.at (show (gx, Cg.th (xOf G1 K)) ∈ ([(gx, Cg.th (xOf G1 K)), (gy, Cg.th (yOf G2 K)), (g2, Cg.th G2), (g1, Cg.th G1), (w.heap.size + 1, O.th), (w.heap.size, K.th)] : List (Nat × Th)) from List.mem_cons_self)) (h.at (show (w.heap.size, K.th) ∈ ([(gx, Cg.th (xOf G1 K)), (gy, Cg.th (yOf G2 K)), (g2, Cg.th G2), (g1, Cg.th G1), (w.heap.size + 1, O.th), (w.heap.size, K.th)] : List (Nat × Th)) from (List.mem_cons_of_mem _ (List.mem_cons_of_mem _ (List.mem_cons_of_mem _ (List.mem_cons_of_mem _ (List.mem_cons_of_mem _ List.mem_cons_self))))))) (Nat.le_refl _) (Cg.Same.few (x_same hS1.out HX1.out) HFew.out.few))
  have SY := Lib.hid (fun W (h : Vs w [(gx, Cg.th (xOf G1 K)), (gy, Cg.th (yOf G2 K)), (g2, Cg.th G2), (g1, Cg.th G1), (w.heap.size + 1, O.th), (w.heap.size, K.th)] W) => csame_yes (yOf G2 K) K W.heap.size W (y_same hS2.out HX2.out).symm (h.at (show (gy, Cg.th (yOf G2 K)) ∈ ([(gx, Cg.th (xOf G1 K)), (gy, Cg.th (yOf G2 K)), (g2, Cg.th G2), (g1, Cg.th G1), (w.heap.size + 1, O.th), (w.heap.size, K.th)] : List (Nat × Th)) from (List.mem_cons_of_mem _ List.mem_cons_self))) (h.at (show (w.heap.size, K.th) ∈ ([(gx, Cg.th (xOf G1 K)), (gy, Cg.th (yOf G2 K)), (g2, Cg.th G2), (g1, Cg.th G1), (w.heap.size + 1, O.th), (w.heap.size, K.th)] : List (Nat × Th)) from (List.mem_cons_of_mem _ (List.mem_cons_of_mem _ (List.mem_cons_of_mem _ (List.mem_cons_of_mem _ (List.mem_cons_of_mem _ List.mem_cons_self))))))) (Nat.le_refl _) (Cg.Same.few (y_same hS2.out HX2.out) HFew.out.few))
  have S6 := Lib.hid (fun G W (h : Vs w [(gx, Cg.th (xOf G1 K)), (gy, Cg.th (yOf G2 K)), (g2, Cg.th G2), (g1, Cg.th G1), (w.heap.size + 1, O.th), (w.heap.size, K.th)] W) (hG : G.At W.heap.size W) (hS : Cg.Same K G) => same_yes G.f K.f W.heap.size W hS.f.symm hG.f (h.at (show (w.heap.size, K.th) ∈ ([(gx, Cg.th (xOf G1 K)), (gy, Cg.th (yOf G2 K)), (g2, Cg.th G2), (g1, Cg.th G1), (w.heap.size + 1, O.th), (w.heap.size, K.th)] : List (Nat × Th)) from (List.mem_cons_of_mem _ (List.mem_cons_of_mem _ (List.mem_cons_of_mem _ (List.mem_cons_of_mem _ (List.mem_cons_of_mem _ List.mem_cons_self))))))).f (Nat.le_refl _) (Cg.Same.few hS HFew.out.few).f)
  clear kx ky kc
  go_wp2_with (first
    | (rw [HW.out]; clear c1 c2 c3 c4 c5 c6 c10 x1 x2 x3 x4 x5 x6 u1 u2 u3 u4 u5 u6 y10 z10 n1x n2x n1y n2y n3 HW)
    | ((with_reducible refine lw_cfg KX.out ?_ (.tmp 9) ?_ ?_ ?_); (· rfl); (· rfl); (· rfl); simp only [Act.put, List.setIfInBounds_toArray, List.set_cons_succ, List.set_cons_zero])
    | ((with_reducible refine lw_cfg KC.out ?_ (.tmp 2) ?_ ?_ ?_); (· rfl); (· rfl); (· rfl); simp only [Act.put, List.setIfInBounds_toArray, List.set_cons_succ, List.set_cons_zero]))
  refine (SX.out _ hv).mono ?_
  rintro e w6 ⟨rfl, hq⟩
  have ky := KY.out.next hq
  have kc := KC.out.next hq
  replace hv := hv.next hq
  replace KY := Lib.hid ky
  replace KC := Lib.hid kc
  clear hq SX KX ky kc
  dsimp only
  go_wp2_with (first
    | ((with_reducible refine lwg_cfg KY.out ?_ (.tmp 10) ?_ ?_ ?_); (· rfl); (· rfl); (· rfl); simp only [Act.put, List.setIfInBounds_toArray, List.set_cons_succ, List.set_cons_zero])
    | ((with_reducible refine lwg_cfg KC.out ?_ (.tmp 2) ?_ ?_ ?_); (· rfl); (· rfl); (· rfl); simp only [Act.put, List.setIfInBounds_toArray, List.set_cons_succ, List.set_cons_zero]))
  refine (SY.out _ hv).mono ?_
  rintro e w7 ⟨rfl, hq⟩
  have kc := KC.out.next hq
  replace hv := hv.next hq
  replace KC := Lib.hid kc
  clear hq SY KY kc
  dsimp only
  rcases HH1.out with r1 | ⟨r1, rX1⟩
  · subst r1
    rcases HH2.out with r2 | ⟨r2, rX2⟩
    · subst r2
      go_wp2_with fail
      refine (fixed_any _).mono ?_
      rintro e w9 ⟨rfl, hq⟩
      replace hv := hv.next hq
      clear hq
      dsimp only
      go_wp2
      go_ret
      exact ⟨rfl, hv.below⟩
    · subst r2
      have kg : Blk w7 g2 29 (Cg.cells G2) := hv.get (show (g2, Cg.th G2) ∈ ([(gx, Cg.th (xOf G1 K)), (gy, Cg.th (yOf G2 K)), (g2, Cg.th G2), (g1, Cg.th G1), (w.heap.size + 1, O.th), (w.heap.size, K.th)] : List (Nat × Th)) from (List.mem_cons_of_mem _ (List.mem_cons_of_mem _ List.mem_cons_self)))
      have KG := Lib.hid kg
      clear kg
      go_wp2_with (first
        | ((with_reducible refine lwg_fil KG.out ?_ (.tmp 95) ?_ ?_ ?_); (· rfl); (· rfl); (· rfl); simp only [Act.put, List.setIfInBounds_toArray, List.set_cons_succ, List.set_cons_zero])
        | ((with_reducible refine lwg_fil KC.out ?_ (.tmp 97) ?_ ?_ ?_); (· rfl); (· rfl); (· rfl); simp only [Act.put, List.setIfInBounds_toArray, List.set_cons_succ, List.set_cons_zero]))
      refine (S6.out G2 _ hv (hv.at (show (g2, Cg.th G2) ∈ ([(gx, Cg.th (xOf G1 K)), (gy, Cg.th (yOf G2 K)), (g2, Cg.th G2), (g1, Cg.th G1), (w.heap.size + 1, O.th), (w.heap.size, K.th)] : List (Nat × Th)) from (List.mem_cons_of_mem _ (List.mem_cons_of_mem _ List.mem_cons_self)))) (by have := hS2.out; rwa [rX2] at this)).mono ?_
      rintro e w8b ⟨rfl, hq⟩
      have kc := KC.out.next hq
      replace hv := hv.next hq
      replace KC := Lib.hid kc
      clear hq kc KG
      dsimp only
      go_wp2_with fail
      refine (fixed_any _).mono ?_
      rintro e w9 ⟨rfl, hq⟩
      replace hv := hv.next hq
      clear hq
      dsimp only
      go_wp2
      go_ret
      exact ⟨rfl, hv.below⟩
  · subst r1
    have kg : Blk w7 g1 29 (Cg.cells G1) := hv.get (show (g1, Cg.th G1) ∈ ([(gx, Cg.th (xOf G1 K)), (gy, Cg.th (yOf G2 K)), (g2, Cg.th G2), (g1, Cg.th G1), (w.heap.size + 1, O.th), (w.heap.size, K.th)] : List (Nat × Th)) from (List.mem_cons_of_mem _ (List.mem_cons_of_mem _ (List.mem_cons_of_mem _ List.mem_cons_self))))
    have KG := Lib.hid kg
    clear kg
    go_wp2_with (first
      | ((with_reducible refine lwg_fil KG.out ?_ (.tmp 84) ?_ ?_ ?_); (· rfl); (· rfl); (· rfl); simp only [Act.put, List.setIfInBounds_toArray, List.set_cons_succ, List.set_cons_zero])
      | ((with_reducible refine lwg_fil KC.out ?_ (.tmp 86) ?_ ?_ ?_); (· rfl); (· rfl); (· rfl); simp only [Act.put, List.setIfInBounds_toArray, List.set_cons_succ, List.set_cons_zero]))
    refine (S6.out G1 _ hv (hv.at (show (g1, Cg.th G1) ∈ ([(gx, Cg.th (xOf G1 K)), (gy, Cg.th (yOf G2 K)), (g2, Cg.th G2), (g1, Cg.th G1), (w.heap.size + 1, O.th), (w.heap.size, K.th)] : List (Nat × Th)) from (List.mem_cons_of_mem _ (List.mem_cons_of_mem _ (List.mem_cons_of_mem _ List.mem_cons_self))))) (by have := hS1.out; rwa [rX1] at this)).mono ?_
    rintro e w8a ⟨rfl, hq⟩
    have kc := KC.out.next hq
    replace hv := hv.next hq
    replace KC := Lib.hid kc
    clear hq kc KG
    dsimp only
    rcases HH2.out with r2 | ⟨r2, rX2⟩
    · subst r2
      go_wp2_with fail
      refine (fixed_any _).mono ?_
      rintro e w9 ⟨rfl, hq⟩
      replace hv := hv.next hq
      clear hq
      dsimp only
      go_wp2
      go_ret
      exact ⟨rfl, hv.below⟩
    · subst r2
      have kg : Blk w8a g2 29 (Cg.cells G2) := hv.get (show (g2, Cg.th G2) ∈ ([(gx, Cg.th (xOf G1 K)), (gy, Cg.th (yOf G2 K)), (g2, Cg.th G2), (g1, Cg.th G1), (w.heap.size + 1, O.th), (w.heap.size, K.th)] : List (Nat × Th)) from (List.mem_cons_of_mem _ (List.mem_cons_of_mem _ List.mem_cons_self)))
      have KG := Lib.hid kg
      clear kg
      go_wp2_with (first
        | ((with_reducible refine lwg_fil KG.out ?_ (.tmp 95) ?_ ?_ ?_); (· rfl); (· rfl); (· rfl); simp only [Act.put, List.setIfInBounds_toArray, List.set_cons_succ, List.set_cons_zero])
        | ((with_reducible refine lwg_fil KC.out ?_ (.tmp 97) ?_ ?_ ?_); (· rfl); (· rfl); (· rfl); simp only [Act.put, List.setIfInBounds_toArray, List.set_cons_succ, List.set_cons_zero]))
      refine (S6.out G2 _ hv (hv.at (show (g2, Cg.th G2) ∈ ([(gx, Cg.th (xOf G1 K)), (gy, Cg.th (yOf G2 K)), (g2, Cg.th G2), (g1, Cg.th G1), (w.heap.size + 1, O.th), (w.heap.size, K.th)] : List (Nat × Th)) from (List.mem_cons_of_mem _ (List.mem_cons_of_mem _ List.mem_cons_self)))) (by have := hS2.out; rwa [rX2] at this)).mono ?_
      rintro e w8b ⟨rfl, hq⟩
      have kc := KC.out.next hq
      replace hv := hv.next hq
      replace KC := Lib.hid kc
      clear hq kc KG
      dsimp only
      go_wp2_with fail
      refine (fixed_any _).mono ?_
      rintro e w9 ⟨rfl, hq⟩
      replace hv := hv.next hq
      clear hq
      dsimp only
      go_wp2
      go_ret
      exact ⟨rfl, hv.below⟩
theorem controlApart_any (K0 : Cg) (O : Cm) (w : World) (hK : K0.At w.heap.size w) (hF : K0.Fit) (hO : O.At w.heap.size w) :
    Calls Try.prog 7 #[.agg K0.cells, .agg O.cells] w fun e w' => e = .returned (.bool true) ∧ Below w.heap.size w w' := by
  obtain ⟨N7, hN⟩ : ∃ x, bits .and .i64 O.n 7 = x := ⟨_, rfl⟩
  obtain ⟨V16, hV⟩ : ∃ x, bits .and .i64 O.vl 65535 = x := ⟨_, rfl⟩
  have z1 : (cmdS 0 N7 [lowS (onV O.on) 1]).size ≤ maxLen := by
    rw [cmd_bs, bs_size]
    simp only [catL, List.length_append, lowL_length, List.map_cons, List.map_nil, List.flatten_cons, List.flatten_nil, List.append_nil]
    have : (lowS (onV O.on) 1).data.toList.length = 1 := lowL_length _ _
    unfold maxLen; omega
  have z2 : (cmdS 2 (1 - onV O.on) [lowS V16 2]).size ≤ maxLen := by
    rw [cmd_bs, bs_size]
    simp only [catL, List.length_append, lowL_length, List.map_cons, List.map_nil, List.flatten_cons, List.flatten_nil, List.append_nil]
    have : (lowS V16 2).data.toList.length = 2 := lowL_length _ _
    unfold maxLen; omega
  exact apart_walk K0 (bndC K0) O w (bndC_at hK) (bndC_room K0) hO N7 V16 hN hV _ _ _ _ _ _ (fun W => bound_any K0 W hF) (fun W => rx_any N7 O.on W) (fun W => vlan_any V16 O.on W)
    (fun W h => capply_any (bndC K0) _ W z1 h (bndC_room K0)) (fun W h => capply_any (bndC K0) _ W z2 h (bndC_room K0)) (ack_two _ _) (ack_two _ _)
    (flag_same (bndC K0) _ (by rw [cmd_c]; rfl)) (vlan_same (bndC K0) _ (by rw [cmd_c]; rfl))

set_option maxRecDepth 100000 in
theorem controlApart_lifted (os : Os) (started : os.Started) (H : Type) (enc : TypeId × Value → H) :
    ReturnsInHanded {} Try.checked os 7 .any (Rows.controlApartSpec.pre6 enc Try.prog Try.f7 Rows.controlApartRow.domain false) (Rows.controlApartSpec.post enc Try.prog Try.f7 false true false false) := by
  have e : Try.f7.params.toList = [29, 37] := by rw [Try.params7]
  refine law_of_walk (C := Try.checked) (tb := 4) H enc Try.own started (by kernel_rfl) Try.func7 Try.laidOut rfl rfl Try.underlying4 ?_ ?_
    (ChangeSpec.witness6 (enc := enc) (C := Try.checked) false ⟨#[], #[.agg #[.string ByteArray.empty, .bool false, .bool false, .bool false, .bool false, .bool false, .bool false, .slice none 0 0, .slice none 0 0, .bool false, .slice none 0 0, .int .i64 0, .int .i64 0, .bool false, .int .i64 0, .slice none 0 0, .string ByteArray.empty, .int .i64 0], .agg #[.int .i64 0, .int .i64 0, .int .i64 0, .bool false, .slice none 0 0, .slice none 0 0, .string ByteArray.empty, .int .i64 0, .slice none 0 0, .string ByteArray.empty, .int .i64 0]], []⟩ 8 (by kernel_rfl) (by kernel_rfl) (by kernel_rfl) (by kernel_rfl)) ?_
  · rw [e]
    intro t ht
    simp only [List.mem_cons, List.not_mem_nil, or_false] at ht
    rcases ht with rfl | rfl <;> exact ⟨by kernel_rfl, of_decide_eq_true (by kernel_rfl)⟩
  · intro ds hds
    rw [e] at hds
    match ds, hds with
    | [d0, d1], _ => rfl
  · intro W base args ds p hval0 hA0 hsz0
    have hval : ∀ (j : Nat) t v, Try.f7.params[j]? = some t → args[j]? = some v → Value.okWide Try.prog W .any base t v := hval0
    have hA : DataW.TrodAll enc Try.prog W 0 (fun _ => true) true Try.f7.params.toList args.toList ds p := hA0
    have hsz : (DataW.weightsEach Try.prog Try.f7.params.toList ds).all (· ≤ reachBytes) = true := hsz0
    rw [Try.params7] at hA hval hsz
    obtain ⟨v0, v1, d0, d1, p0, p1, rfl, rfl, rfl, h0, h1⟩ := trodAll_two hA
    obtain ⟨K0, rfl, hK0, fK0, mK0, kK0⟩ := open_config (hval 0 29 v0 rfl rfl) h0
    obtain ⟨O1, rfl, hO1, fO1, kO1, qO1⟩ := open_cmd (hval 1 37 v1 rfl rfl) h1
    exact controlApart_any K0 O1 W hK0 fK0 hO1

theorem controlApart_holds : Rows.ControlApartSaid :=
  OpenClaim.holds_of_wide 7 Try.f7 rfl rfl rfl rfl rfl rfl rfl ⟨rfl, rfl, rfl, rfl, rfl⟩ rfl rfl rfl rfl rfl (by kernel_rfl) Try.func7 (by kernel_rfl)
    (of_decide_eq_true (by kernel_rfl)) (by unfold Func.isWrapper; first | (rw [if_pos (by decide +kernel)]; kernel_rfl) | (rw [if_neg (by decide +kernel)]; exact ⟨rfl, rfl⟩))
    (fun os started H enc _ => controlApart_lifted os started H enc)
end Go.Proofs.Ytongkfimgohhbaa
