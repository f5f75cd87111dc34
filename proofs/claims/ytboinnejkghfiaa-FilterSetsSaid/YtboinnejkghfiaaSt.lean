/-
  What the document's Set answers, for every filter and every number; no condition.
-/
import Derived.Test.YtboinnejkghfiaaSd
import Derived.Test.YtboinnejkghfiaaNt
namespace Go.Proofs.Ytboinnejkghfiaa
open Go.RowKit

theorem Try.info3 : (Try.prog.info? 3).map (fun i => (i.zero, i.size, i.bytes)) = some (some (.int .i64 0), 1, 8) := by kernel_rfl
/-- what the document's Set hands back where it answers OK -/
def RSetP (F : Fl) (L : List Int) (w : World) (e : Ending) (w' : World) : Prop :=
  ∃ (A : Option Addr) (c : Nat), e = .returned (.tuple #[({ F with V := A, vs := L, vc := c } : Fl).val, .int .i64 0]) ∧ OwnI w.heap.size A c L w' ∧ Below w.heap.size w w'
theorem set_results (w : World) (tmps : Array Value) (g : Nat) (n : Int) (h2 : tmps[6]?.getD undef = .pointer (some ⟨g, 0, none⟩)) (h3 : tmps[7]?.getD undef = .int .i64 n) {a0 a1 a2 a3 a4 a5 a6 a7 a8 a9 a10 : Value} (h : Blk w g 25 #[a0, a1, a2, a3, a4, a5, a6, a7, a8, a9, a10]) :
    (results Try.f16 tmps).run Try.prog w = .ok (.tuple #[.agg #[a0, a1, a2, a3, a4, a5, a6, a7, a8, a9, a10], .int .i64 n]) w := by
  have c0 := h.cell 0
  have c1 := h.cell 1
  have c2 := h.cell 2
  have c3 := h.cell 3
  have c4 := h.cell 4
  have c5 := h.cell 5
  have c6 := h.cell 6
  have c7 := h.cell 7
  have c8 := h.cell 8
  have c9 := h.cell 9
  have c10 := h.cell 10
  simp only [List.getElem?_toArray, List.getElem?_cons_zero, List.getElem?_cons_succ] at c0 c1 c2 c3 c4 c5 c6 c7 c8 c9 c10
  simp [results, Try.results16, go_sem, h2, h3, c0, c1, c2, c3, c4, c5, c6, c7, c8, c9, c10]
theorem Blk.drwN {w : World} {g : Nat} {t : TypeId} {cs : Array Value} (h : Blk w g t cs) (n : Nat) : Blk (w.drewN n) g t cs := h
theorem oneI (L : List Int) : ∀ u ∈ L.map intV, u.oneCell' = true := by
  intro u hu
  obtain ⟨c, _, rfl⟩ := List.mem_map.1 hu
  rfl
/-- the loop's state -/
structure SetSt (F : Fl) (x : Int) (is : Bool) (k g cap : Nat) (w w1 : World) : Prop where
  f : Blk w1 w.heap.size 25 F.cells
  z : Blk w1 (w.heap.size + 1) 25 Fl.zero.cells
  own : OwnI (w.heap.size + 2) (some ⟨g, 0, none⟩) cap (setL F.vs x is k) w1
  below : Below w.heap.size w w1
section
variable {F : Fl} {x : Int} {is : Bool} {k g cap : Nat} {w w1 : World}
theorem SetSt.ready (h : SetSt F x is k g cap w w1) (y : Int) :
    (w1.alloc (.cells #[.int .i64 y] 3)).ownsRow (w.heap.size + 2) 3 1 (.slice (some ⟨g, 0, none⟩) (setL F.vs x is k).length cap) (setL F.vs x is k).length ((setL F.vs x is k).map intV) ∧
    (∀ j u, ([y].map intV)[j]? = some u → (w1.alloc (.cells #[.int .i64 y] 3)).cell? ((⟨w1.heap.size, 0, none⟩ : Addr).add j) = some u) ∧ w.heap.size + 2 ≤ (w1.alloc (.cells #[.int .i64 y] 3)).heap.size := by
  refine ⟨own_alloc h.own _, ?_, by have := h.z.lt; simp; omega⟩
  have := World.news_of_block (B := w1.heap.size) (cs := #[.int .i64 y]) (t := 3) (fr := (0, 0)) (heap_alloc_new w1 _)
  simpa [intV] using this
theorem SetSt.more (h : SetSt F x is k g cap w w1) {g' cap' : Nat} {w2 : World} (hq : setQ F.vs x is k = true)
    (hown : w2.ownsRow (w.heap.size + 2) 3 1 (.slice (some ⟨g', 0, none⟩) ((setL F.vs x is k).length + 1) cap') ((setL F.vs x is k).length + 1) ((setL F.vs x is k).map intV ++ [(k : Int)].map intV))
    (hgrow : (w1.alloc (.cells #[.int .i64 k] 3)).grownBy w2 (Value.slice (some ⟨g, 0, none⟩) (setL F.vs x is k).length cap).ownBlock) : SetSt F x is (k + 1) g' cap' w w2 := by
  have ho := own_alloc h.own (.cells #[.int .i64 k] 3)
  refine ⟨blk_grown (h.f.alloc _) ho (by omega) hgrow, blk_grown (h.z.alloc _) ho (by omega) hgrow, ?_, (ba h.below _).grown hgrow (by have := h.z.lt; simp; omega) (fun k hk => by have := own_ge ho k hk; omega)⟩
  unfold OwnI
  rw [setL_next, if_pos hq, List.length_append, List.map_append]
  exact hown
theorem SetSt.skip (h : SetSt F x is k g cap w w1) (hq : setQ F.vs x is k = false) : SetSt F x is (k + 1) g cap w w1 := by
  refine ⟨h.f, h.z, ?_, h.below⟩
  rw [setL_next, hq]
  exact h.own
theorem SetSt.drewN (h : SetSt F x is k g cap w w1) (q : Nat) : SetSt F x is k g cap w (w1.drewN q) := ⟨h.f, h.z, h.own, below_drewN h.below q⟩
theorem SetSt.begin (F : Fl) (x : Int) (is : Bool) (w : World) (q : Nat) : SetSt F x is 0 (w.heap.size + 2) 0 w (((((w.alloc (.cells F.cells 25)).alloc (.cells Fl.zero.cells 25))).drewN q).alloc (.cells #[] 3)) := by
  refine ⟨((Blk.new w 25 _).alloc _).alloc (w := ((w.alloc (.cells F.cells 25)).alloc (.cells Fl.zero.cells 25)).drewN q) _, ?_, ?_, ba (below_drewN (ba (ba (b0 w) _) _) q) _⟩
  · have := Blk.new (w.alloc (.cells F.cells 25)) 25 Fl.zero.cells
    have e : (w.alloc (.cells F.cells 25)).heap.size = w.heap.size + 1 := by simp
    rw [e] at this
    exact Blk.alloc (w := ((w.alloc (.cells F.cells 25)).alloc (.cells Fl.zero.cells 25)).drewN q) this _
  · have hb := Blk.new (((w.alloc (.cells F.cells 25)).alloc (.cells Fl.zero.cells 25)).drewN q) 3 #[]
    have e : (((w.alloc (.cells F.cells 25)).alloc (.cells Fl.zero.cells 25)).drewN q).heap.size = w.heap.size + 2 := by simp
    rw [e] at hb
    exact own_of_blk (Nat.le_refl _) hb (Nat.le_refl _) (Nat.zero_le _) rfl rfl rfl
end
set_option maxHeartbeats 1000000 in
theorem rset_bad (F : Fl) (n : Int) (is : Bool) (B : Nat) (w : World) (hF : F.At B w) (hB : B ≤ w.heap.size) (hl : F.Few) (hbad : isV n = false ∨ ascB F.vs = false) :
    Calls Try.prog 16 #[F.val, .int .i64 n, .bool is] w fun e w' => e = .returned (.tuple #[Fl.zero.val, .int .i64 1]) ∧ Below w.heap.size w w' := by
  have A2 := fun W (hb : Below w.heap.size w W) => nets_any B F.V F.vc F.vs W (hF.v.far hB hb) hl.v
  have hn : isV n = (decide (0 ≤ n) && decide (n ≤ 4094)) := rfl
  rw [hn] at hbad
  clear hn
  generalize ascB F.vs = b2 at *
  obtain ⟨mac, pr, au, am, nu, nm, na, U, us, uc, M, ms, mc, vo, V, vs, vc⟩ := F
  clear hF hl
  simp only at A2
  have H2 := Lib.hid A2
  clear A2
  show Calls Try.prog 16 #[.agg #[.string mac, .bool pr, .bool au, .bool am, .bool nu, .bool nm, .bool na, .slice U us.length uc, .slice M ms.length mc, .bool vo, .slice V vs.length vc], .int .i64 n, .bool is] w _
  by_cases h0 : n < 0
  · clear hbad H2
    go_enter Try.func16, Try.ntmps16
    go_wp2
    refine bodyPost_ret (v := .tuple #[.agg #[.string ⟨#[]⟩, .bool false, .bool false, .bool false, .bool false, .bool false, .bool false, .slice none 0 0, .slice none 0 0, .bool false, .slice none 0 0], .int .i64 1]) ?_ rfl ⟨rfl, ba (ba (b0 w) _) _⟩
    refine set_results _ _ (w.heap.size + 1) _ rfl rfl ?_
    have := Blk.new (w.alloc (.cells #[.string mac, .bool pr, .bool au, .bool am, .bool nu, .bool nm, .bool na, .slice U us.length uc, .slice M ms.length mc, .bool vo, .slice V vs.length vc] 25)) 25 #[.string ⟨#[]⟩, .bool false, .bool false, .bool false, .bool false, .bool false, .bool false, .slice none 0 0, .slice none 0 0, .bool false, .slice none 0 0]
    simpa using this
  by_cases h1 : 4094 < n
  · clear hbad H2
    go_enter Try.func16, Try.ntmps16
    go_wp2
    refine bodyPost_ret (v := .tuple #[.agg #[.string ⟨#[]⟩, .bool false, .bool false, .bool false, .bool false, .bool false, .bool false, .slice none 0 0, .slice none 0 0, .bool false, .slice none 0 0], .int .i64 1]) ?_ rfl ⟨rfl, ba (ba (b0 w) _) _⟩
    refine set_results _ _ (w.heap.size + 1) _ rfl rfl ?_
    have := Blk.new (w.alloc (.cells #[.string mac, .bool pr, .bool au, .bool am, .bool nu, .bool nm, .bool na, .slice U us.length uc, .slice M ms.length mc, .bool vo, .slice V vs.length vc] 25)) 25 #[.string ⟨#[]⟩, .bool false, .bool false, .bool false, .bool false, .bool false, .bool false, .slice none 0 0, .slice none 0 0, .bool false, .slice none 0 0]
    simpa using this
  · obtain rfl : b2 = false := by
      rcases hbad with h | h
      · rw [decide_eq_true (by omega : (0 : Int) ≤ n), decide_eq_true (by omega : n ≤ 4094)] at h
        cases h
      · exact h
    clear hbad
    have hb0 : Below w.heap.size w ((w.alloc (.cells #[.string mac, .bool pr, .bool au, .bool am, .bool nu, .bool nm, .bool na, .slice U us.length uc, .slice M ms.length mc, .bool vo, .slice V vs.length vc] 25)).alloc (.cells #[.string ⟨#[]⟩, .bool false, .bool false, .bool false, .bool false, .bool false, .bool false, .slice none 0 0, .slice none 0 0, .bool false, .slice none 0 0] 25)) := ba (ba (b0 w) _) _
    go_enter Try.func16, Try.ntmps16
    go_wp2_with (go_at_call 26; ((with_reducible refine (H2.out _ hb0).mono ?_); rintro e w' ⟨rfl, q, rfl⟩))
    refine bodyPost_ret (v := .tuple #[.agg #[.string ⟨#[]⟩, .bool false, .bool false, .bool false, .bool false, .bool false, .bool false, .slice none 0 0, .slice none 0 0, .bool false, .slice none 0 0], .int .i64 1]) ?_ rfl ⟨rfl, ?_⟩
    · refine set_results _ _ (w.heap.size + 1) _ rfl rfl ?_
      have := Blk.new (w.alloc (.cells #[.string mac, .bool pr, .bool au, .bool am, .bool nu, .bool nm, .bool na, .slice U us.length uc, .slice M ms.length mc, .bool vo, .slice V vs.length vc] 25)) 25 #[.string ⟨#[]⟩, .bool false, .bool false, .bool false, .bool false, .bool false, .bool false, .slice none 0 0, .slice none 0 0, .bool false, .slice none 0 0]
      rw [show (w.alloc (.cells #[.string mac, .bool pr, .bool au, .bool am, .bool nu, .bool nm, .bool na, .slice U us.length uc, .slice M ms.length mc, .bool vo, .slice V vs.length vc] 25)).heap.size = w.heap.size + 1 by simp] at this
      exact Blk.set11 (Blk.drwN this q) _ _ _ _ _ _ _ _ _ _ _
    · (with_reducible (repeat' (first | exact hb0 | refine below_drewN ?_ _ | refine Below.setCell ?_ (by first | (simp; done) | (simp; omega) | omega) _)))
set_option maxHeartbeats 4000000 in
theorem rset_good (F : Fl) (x : Int) (is : Bool) (B : Nat) (w : World) (hF : F.At B w) (hB : B ≤ w.heap.size) (hl : F.Few) (hn : isV x = true) (ha : ascB F.vs = true) :
    Calls Try.prog 16 #[F.val, .int .i64 x, .bool is] w (RSetP F (setL F.vs x is 4095) w) := by
  have A2 := fun W (hb : Below w.heap.size w W) => nets_any B F.V F.vc F.vs W (hF.v.far hB hb) hl.v
  have A1 := fun (k : Int) W (hb : Below w.heap.size w W) => net_any B F.V F.vc F.vs k W (hF.v.far hB hb) hl.v
  rw [ha] at A2
  rw [isV, Bool.and_eq_true, decide_eq_true_eq, decide_eq_true_eq] at hn
  obtain ⟨x0, x1⟩ := hn
  have HB0 := fun q => SetSt.begin F x is w q
  obtain ⟨mac, pr, au, am, nu, nm, na, U, us, uc, M, ms, mc, vo, V, vs, vc⟩ := F
  clear hF hl ha
  simp only at A1 A2
  have H2 := Lib.hid A2
  have H1 := Lib.hid A1
  have HS0 := Lib.hid HB0
  clear A2 A1 HB0
  obtain ⟨i0, hi, hz0, hz1, hz2⟩ := info_parts Try.info3
  have HI := Lib.hid hi
  have HZ0 := Lib.hid hz0
  have HZ1 := Lib.hid hz1
  have HZ2 := Lib.hid hz2
  clear hi hz0 hz1 hz2
  have hx0 : ¬ x < 0 := by omega
  have hx1 : ¬ 4094 < x := by omega
  have hb0 : Below w.heap.size w ((w.alloc (.cells #[.string mac, .bool pr, .bool au, .bool am, .bool nu, .bool nm, .bool na, .slice U us.length uc, .slice M ms.length mc, .bool vo, .slice V vs.length vc] 25)).alloc (.cells #[.string ⟨#[]⟩, .bool false, .bool false, .bool false, .bool false, .bool false, .bool false, .slice none 0 0, .slice none 0 0, .bool false, .slice none 0 0] 25)) := ba (ba (b0 w) _) _
  show Calls Try.prog 16 #[.agg #[.string mac, .bool pr, .bool au, .bool am, .bool nu, .bool nm, .bool na, .slice U us.length uc, .slice M ms.length mc, .bool vo, .slice V vs.length vc], .int .i64 x, .bool is] w _
  go_enter Try.func16, Try.ntmps16
  go_wp2_with (go_at_call 26; ((with_reducible refine (H2.out _ hb0).mono ?_); rintro e w' ⟨rfl, q, rfl⟩))
  have hst0 := HS0.out q
  clear HS0 hb0 H2 hx0 hx1
  have HST := Lib.hid hst0
  clear hst0
  go_loopw [8, 9] (fun l n w1 => ∃ k g cap : Nat, k ≤ 4095 ∧ n = .int .i64 k ∧ l = .slice (some ⟨g, 0, none⟩) (setL vs x is k).length cap ∧ SetSt ⟨mac, pr, au, am, nu, nm, na, U, us, uc, M, ms, mc, vo, V, vs, vc⟩ x is k g cap w w1) (fun _ n _ => 4095 - (intOf n).toNat)
  case atStart => exact ⟨0, _, 0, by omega, rfl, rfl, HST.out⟩
  case round =>
    obtain ⟨k, g, cap, hk, rfl, rfl, hst⟩ := hrel
    clear HST
    by_cases hlt : k < 4095
    · have g1 : (k : Int) ≤ 4094 := by omega
      by_cases hkx : (k : Int) = x
      · have e1 : ((k : Int) == x) = true := by simpa using hkx
        have e2 : ((k : Int) != x) = false := by simpa using hkx
        cases is
        · have hq : setQ vs x false k = false := by simp [setQ, hkx]
          clear hkx H1
          have HM := Lib.hid (hst.skip hq)
          have HQL : Hid (setL vs x false (k + 1) = setL vs x false k) := Lib.hid (by rw [setL_next, hq]; rfl)
          clear hq
          have c0 := hst.f.cell 10
          simp only [Fl.cells, List.getElem?_toArray, List.getElem?_cons_zero, List.getElem?_cons_succ] at c0
          have hlt0 := hst.f.lt
          have hlt1 := hst.z.lt
          go_wp2_with fail
          go_roundw
          case rel => exact ⟨k + 1, g, cap, by omega, by go_num, by rw [HQL.out], HM.out⟩
          case measure => simp [intOf]; omega
        · have hq : setQ vs x true k = true := by simp [setQ, hkx]
          clear hkx H1
          have HR := Lib.hid (hst.ready (k : Int))
          have HM := Lib.hid (fun (g' cap' : Nat) (w2 : World) => SetSt.more (g' := g') (cap' := cap') (w2 := w2) hst hq)
          have hln := setL_length vs x true k
          have hnl : (setL vs x true (k + 1)).length = (setL vs x true k).length + 1 := by rw [setL_next, if_pos hq]; simp
          clear hq
          have c0 := hst.f.cell 10
          simp only [Fl.cells, List.getElem?_toArray, List.getElem?_cons_zero, List.getElem?_cons_succ] at c0
          have hlt0 := hst.f.lt
          have hlt1 := hst.z.lt
          simp only at HR HM
          generalize (setL vs x true k).map intV = LS at *
          generalize (setL vs x true k).length = LN at *
          have HQL := Lib.hid hnl
          clear hnl
          go_wp2_with (at_builtin; refine wpList_append_lies (wr.alloc (.cells #[.int .i64 k] 3)) rfl (.tmp 45) (.tmp 47) 23 rfl (w.heap.size + 2) 3 i0 _ 1 8 Try.underlying23 HI.out HZ0.out HZ1.out HZ2.out rfl (by decide) (.slice (some ⟨g, 0, none⟩) LN cap) LN LS rfl HR.out.1 ⟨wr.heap.size, 0, none⟩ 1 1 ([(k : Int)].map intV) rfl rfl HR.out.2.1 (oneI _) (by decide) (by unfold maxLen; omega) (by omega) HR.out.2.2 _ rfl ?_; intro g' cap' w2 hown hgrow hat hlt'; have HO := Lib.hid hown; have HG := Lib.hid hgrow; clear hown hgrow hat hlt')
          go_roundw
          case rel => exact ⟨k + 1, g', cap', by omega, by go_num, by rw [HQL.out], HM.out _ _ _ HO.out HG.out⟩
          case measure => simp [intOf]; omega
      · have e1 : ((k : Int) == x) = false := by simpa using hkx
        have e2 : ((k : Int) != x) = true := by simpa using hkx
        have hqb : setQ vs x is k = hasI vs k := by rw [setQ, e1, e2]; simp
        have A := H1.out k
        clear hkx H1
        cases hh : hasI vs k
        · rw [hh] at A
          have hq := hqb.trans hh
          clear hh hqb
          have HN := Lib.hid A
          clear A
          have HM := Lib.hid (hst.skip hq)
          have HQL : Hid (setL vs x is (k + 1) = setL vs x is k) := Lib.hid (by rw [setL_next, hq]; rfl)
          clear hq
          have c0 := hst.f.cell 10
          simp only [Fl.cells, List.getElem?_toArray, List.getElem?_cons_zero, List.getElem?_cons_succ] at c0
          have hlt0 := hst.f.lt
          have hlt1 := hst.z.lt
          go_wp2_with (go_at_call 19; ((with_reducible refine (HN.out _ hst.below).mono ?_); rintro e w' ⟨rfl, rfl⟩))
          go_roundw
          case rel => exact ⟨k + 1, g, cap, by omega, by go_num, by rw [HQL.out], HM.out⟩
          case measure => simp [intOf]; omega
        · rw [hh] at A
          have hq := hqb.trans hh
          clear hh hqb
          have HN := Lib.hid A
          clear A
          have HR := Lib.hid (hst.ready (k : Int))
          have HM := Lib.hid (fun (g' cap' : Nat) (w2 : World) => SetSt.more (g' := g') (cap' := cap') (w2 := w2) hst hq)
          have hln := setL_length vs x is k
          have hnl : (setL vs x is (k + 1)).length = (setL vs x is k).length + 1 := by rw [setL_next, if_pos hq]; simp
          clear hq
          have c0 := hst.f.cell 10
          simp only [Fl.cells, List.getElem?_toArray, List.getElem?_cons_zero, List.getElem?_cons_succ] at c0
          have hlt0 := hst.f.lt
          have hlt1 := hst.z.lt
          simp only at HR HM
          generalize (setL vs x is k).map intV = LS at *
          generalize (setL vs x is k).length = LN at *
          have HQL := Lib.hid hnl
          clear hnl
          go_wp2_with (first | (go_at_call 19; ((with_reducible refine (HN.out _ hst.below).mono ?_); rintro e w' ⟨rfl, rfl⟩)) | (at_builtin; refine wpList_append_lies (wr.alloc (.cells #[.int .i64 k] 3)) rfl (.tmp 45) (.tmp 47) 23 rfl (w.heap.size + 2) 3 i0 _ 1 8 Try.underlying23 HI.out HZ0.out HZ1.out HZ2.out rfl (by decide) (.slice (some ⟨g, 0, none⟩) LN cap) LN LS rfl HR.out.1 ⟨wr.heap.size, 0, none⟩ 1 1 ([(k : Int)].map intV) rfl rfl HR.out.2.1 (oneI _) (by decide) (by unfold maxLen; omega) (by omega) HR.out.2.2 _ rfl ?_; intro g' cap' w2 hown hgrow hat hlt'; have HO := Lib.hid hown; have HG := Lib.hid hgrow; clear hown hgrow hat hlt'))
          go_roundw
          case rel => exact ⟨k + 1, g', cap', by omega, by go_num, by rw [HQL.out], HM.out _ _ _ HO.out HG.out⟩
          case measure => simp [intOf]; omega
    · obtain rfl : k = 4095 := by omega
      clear H1
      have hlt0 := hst.f.lt
      have hlt1 := hst.z.lt
      have kf := hst.f
      have kz := hst.z
      simp only [Fl.cells] at kf
      simp only [Fl.cells, Fl.zero] at kz
      have kz : Blk wr (w.heap.size + 1) 25 #[.string ⟨#[]⟩, .bool false, .bool false, .bool false, .bool false, .bool false, .bool false, .slice none 0 0, .slice none 0 0, .bool false, .slice none 0 0] := kz
      generalize hLN : (setL vs x is 4095).length = LN at *
      have HLN := Lib.hid hLN
      clear hLN
      have kf2 := kf.put 10 (.slice (some ⟨g, 0, none⟩) LN cap)
      simp at kf2
      have kz2 := kz.other (k := w.heap.size) (by omega) 10 (.slice (some ⟨g, 0, none⟩) LN cap)
      have ho2 := own_set hst.own (g := w.heap.size) (by omega) 10 (.slice (some ⟨g, 0, none⟩) LN cap)
      have hb2 := hst.below.setCell (p := ⟨w.heap.size, 10, none⟩) (Nat.le_refl _) (.slice (some ⟨g, 0, none⟩) LN cap)
      clear hst
      have c0 := kf.cell 0
      have c1 := kf.cell 1
      have c2 := kf.cell 2
      have c3 := kf.cell 3
      have c4 := kf.cell 4
      have c5 := kf.cell 5
      have c6 := kf.cell 6
      have c7 := kf.cell 7
      have c8 := kf.cell 8
      have c9 := kf.cell 9
      have c10 := kf.cell 10
      simp only [List.getElem?_toArray, List.getElem?_cons_zero, List.getElem?_cons_succ] at c0 c1 c2 c3 c4 c5 c6 c7 c8 c9 c10
      have f0 := kf.frozen 0
      have f1 := kf.frozen 1
      have f2 := kf.frozen 2
      have f3 := kf.frozen 3
      have f4 := kf.frozen 4
      have f5 := kf.frozen 5
      have f6 := kf.frozen 6
      have f7 := kf.frozen 7
      have f8 := kf.frozen 8
      have f9 := kf.frozen 9
      have f10 := kf.frozen 10
      have y0 := kz.cell 0
      have y1 := kz.cell 1
      have y2 := kz.cell 2
      have y3 := kz.cell 3
      have y4 := kz.cell 4
      have y5 := kz.cell 5
      have y6 := kz.cell 6
      have y7 := kz.cell 7
      have y8 := kz.cell 8
      have y9 := kz.cell 9
      have y10 := kz.cell 10
      simp only [List.getElem?_toArray, List.getElem?_cons_zero, List.getElem?_cons_succ] at y0 y1 y2 y3 y4 y5 y6 y7 y8 y9 y10
      have h0 := kz.frozen 0
      have h1 := kz.frozen 1
      have h2 := kz.frozen 2
      have h3 := kz.frozen 3
      have h4 := kz.frozen 4
      have h5 := kz.frozen 5
      have h6 := kz.frozen 6
      have h7 := kz.frozen 7
      have h8 := kz.frozen 8
      have h9 := kz.frozen 9
      have h10 := kz.frozen 10
      have HKZ := Lib.hid kz2
      have HO := Lib.hid ho2
      have HB := Lib.hid hb2
      clear kz2 ho2 hb2 kf kz kf2
      go_wp2_with fail
      refine bodyPost_ret (v := .tuple #[.agg #[.string mac, .bool pr, .bool au, .bool am, .bool nu, .bool nm, .bool na, .slice U us.length uc, .slice M ms.length mc, .bool vo, .slice (some ⟨g, 0, none⟩) LN cap], .int .i64 0]) ?_ rfl ?_
      · exact set_results _ _ _ _ rfl rfl (HKZ.out.set11 (.string mac) (.bool pr) (.bool au) (.bool am) (.bool nu) (.bool nm) (.bool na) (.slice U us.length uc) (.slice M ms.length mc) (.bool vo) (.slice (some ⟨g, 0, none⟩) LN cap))
      · refine ⟨some ⟨g, 0, none⟩, cap, ?_, own_less (own_set11 HO.out (g := w.heap.size + 1) (by omega) (.string mac) (.bool pr) (.bool au) (.bool am) (.bool nu) (.bool nm) (.bool na) (.slice U us.length uc) (.slice M ms.length mc) (.bool vo) (.slice (some ⟨g, 0, none⟩) LN cap)) (by omega), below_set11 HB.out (by omega) (.string mac) (.bool pr) (.bool au) (.bool am) (.bool nu) (.bool nm) (.bool na) (.slice U us.length uc) (.slice M ms.length mc) (.bool vo) (.slice (some ⟨g, 0, none⟩) LN cap)⟩
        rw [← HLN.out]
end Go.Proofs.Ytboinnejkghfiaa
