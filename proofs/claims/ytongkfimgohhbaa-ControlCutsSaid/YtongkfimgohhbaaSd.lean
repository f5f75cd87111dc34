/-
  What filter.Add and filter.Del answer, for every filter and every number; no condition.
-/
import Derived.Test.YtongkfimgohhbaaBd
import Derived.Test.YtongkfimgohhbaaMt
namespace Go.Proofs.Ytongkfimgohhbaa
open Go.RowKit

def Fl.zero : Fl := ⟨⟨#[]⟩, false, false, false, false, false, false, none, [], 0, none, [], 0, false, none, [], 0⟩
theorem own_apart {w : World} {b s n b' s' n' : Nat} {e e' : TypeId} {v v' : Value} {xs xs' : List Value} (h : w.ownsRow b e s v n xs) (h' : w.ownsRow b' e' s' v' n' xs') (hne : e ≠ e') : ∀ k, v.ownBlock = some k → some k ≠ v'.ownBlock := by
  intro k hk hv
  rcases h.2 with ⟨rfl, _⟩ | ⟨g, cap, cur, rfl, _, hg, _⟩
  · simp [Value.ownBlock] at hk
  · have hkg : g = k := by simpa [Value.ownBlock] using hk
    subst hkg
    rcases h'.2 with ⟨rfl, _⟩ | ⟨g', cap', cur', rfl, _, hg', _⟩
    · simp [Value.ownBlock] at hv
    · have hgg : g = g' := by simpa [Value.ownBlock] using hv
      subst hgg
      rw [hg] at hg'
      injection hg' with hg'
      injection hg' with _ ht
      exact hne ht
theorem own_ge {w : World} {b s n : Nat} {e : TypeId} {v : Value} {xs : List Value} (h : w.ownsRow b e s v n xs) : ∀ k, v.ownBlock = some k → b ≤ k := fun k hk => (h.lt k hk).1
theorem own_grown {w w' : World} {b s n b' s' n' : Nat} {e e' : TypeId} {v v' : Value} {xs xs' : List Value} (h : w.ownsRow b e s v n xs) (h' : w.ownsRow b' e' s' v' n' xs') (hne : e ≠ e') (hg : w.grownBy w' v'.ownBlock) : w'.ownsRow b e s v n xs :=
  own_same h (fun k hk => hg.block k (h.lt k hk).2 (own_apart h h' hne k hk))
theorem blk_grown {w w' : World} {g b s n : Nat} {t e : TypeId} {cs : Array Value} {v : Value} {xs : List Value} (h : Blk w g t cs) (h' : w.ownsRow b e s v n xs) (hlt : g < b) (hg : w.grownBy w' v.ownBlock) : Blk w' g t cs :=
  h.same (hg.block g h.lt (fun e => by have := own_ge h' g e.symm; omega))
theorem own_drewN {w : World} {b s n : Nat} {e : TypeId} {v : Value} {xs : List Value} (h : w.ownsRow b e s v n xs) (q : Nat) : (w.drewN q).ownsRow b e s v n xs := h
theorem own_alloc {w : World} {b s n : Nat} {e : TypeId} {v : Value} {xs : List Value} (h : w.ownsRow b e s v n xs) (o : Obj) : (w.alloc o).ownsRow b e s v n xs := own_same h (fun k hk => Below.heap_alloc w o k (h.lt k hk).2)
/-- what Add (Del) hands back where it answers OK: the filter with these networks, its lists its own -/
def SetP (F : Fl) (L : List Int) (w : World) (e : Ending) (w' : World) : Prop :=
  ∃ G : Fl, ({ F with vs := L } : Fl).Same G ∧ e = .returned (.tuple #[G.val, .int .i64 0]) ∧ G.Own w.heap.size w' ∧ Below w.heap.size w w'

theorem add_results (w : World) (tmps : Array Value) (g : Nat) (n : Int) (h2 : tmps[4]?.getD undef = .pointer (some ⟨g, 0, none⟩)) (h3 : tmps[5]?.getD undef = .int .i64 n) {a0 a1 a2 a3 a4 a5 a6 a7 a8 a9 a10 : Value} (h : Blk w g 25 #[a0, a1, a2, a3, a4, a5, a6, a7, a8, a9, a10]) :
    (results Try.f66 tmps).run Try.prog w = .ok (.tuple #[.agg #[a0, a1, a2, a3, a4, a5, a6, a7, a8, a9, a10], .int .i64 n]) w := by
  have c0 := h.cell 0
  have c1 := h.cell 1
  have c2 := h.cell 2
  have c3 := h.cell 3
  have c4 := h.cell 4
  have c5 := h.cell 5
  have c6 := h.cell 6
  have c7 := h.cell 7
  have c8 := h.cell 8
  have c9 := h.cell 9
  have c10 := h.cell 10
  simp only [List.getElem?_toArray, List.getElem?_cons_zero, List.getElem?_cons_succ] at c0 c1 c2 c3 c4 c5 c6 c7 c8 c9 c10
  simp [results, Try.results66, go_sem, h2, h3, c0, c1, c2, c3, c4, c5, c6, c7, c8, c9, c10]
set_option maxHeartbeats 1000000 in
theorem add_bad (F : Fl) (n : Int) (B : Nat) (w : World) (hF : F.At B w) (hB : B ≤ w.heap.size) (hl : F.Few) (hbad : isV n = false ∨ ascB F.vs = false) :
    Calls Try.prog 66 #[F.val, .int .i64 n] w fun e w' => e = .returned (.tuple #[Fl.zero.val, .int .i64 1]) ∧ Below w.heap.size w w' := by
  have A1 := fun W => isV_any n W
  have A2 := fun W (hb : Below w.heap.size w W) => asc_any B F.V F.vc F.vs W (hF.v.far hB hb) hl.v
  generalize isV n = b1 at *
  generalize ascB F.vs = b2 at *
  obtain ⟨mac, pr, au, am, nu, nm, na, U, us, uc, M, ms, mc, vo, V, vs, vc⟩ := F
  clear hF hl
  simp only at A2
  have H1 := Lib.hid A1
  have H2 := Lib.hid A2
  clear A1 A2
  show Calls Try.prog 66 #[.agg #[.string mac, .bool pr, .bool au, .bool am, .bool nu, .bool nm, .bool na, .slice U us.length uc, .slice M ms.length mc, .bool vo, .slice V vs.length vc], .int .i64 n] w _
  cases b1
  · clear hbad H2
    go_enter Try.func66, Try.ntmps66
    go_wp2_with (go_at_call 62; ((with_reducible refine (H1.out _).mono ?_); rintro e w' ⟨rfl, rfl⟩))
    refine bodyPost_ret (v := .tuple #[.agg #[.string ⟨#[]⟩, .bool false, .bool false, .bool false, .bool false, .bool false, .bool false, .slice none 0 0, .slice none 0 0, .bool false, .slice none 0 0], .int .i64 1]) ?_ rfl ⟨rfl, ba (ba (b0 w) _) _⟩
    refine add_results _ _ (w.heap.size + 1) _ rfl rfl ?_
    have := Blk.new (w.alloc (.cells #[.string mac, .bool pr, .bool au, .bool am, .bool nu, .bool nm, .bool na, .slice U us.length uc, .slice M ms.length mc, .bool vo, .slice V vs.length vc] 25)) 25 #[.string ⟨#[]⟩, .bool false, .bool false, .bool false, .bool false, .bool false, .bool false, .slice none 0 0, .slice none 0 0, .bool false, .slice none 0 0]
    simpa using this
  · obtain rfl : b2 = false := by simpa using hbad
    clear hbad
    have hb0 : Below w.heap.size w ((w.alloc (.cells #[.string mac, .bool pr, .bool au, .bool am, .bool nu, .bool nm, .bool na, .slice U us.length uc, .slice M ms.length mc, .bool vo, .slice V vs.length vc] 25)).alloc (.cells #[.string ⟨#[]⟩, .bool false, .bool false, .bool false, .bool false, .bool false, .bool false, .slice none 0 0, .slice none 0 0, .bool false, .slice none 0 0] 25)) := ba (ba (b0 w) _) _
    go_enter Try.func66, Try.ntmps66
    go_wp2_with (first | (go_at_call 62; ((with_reducible refine (H1.out _).mono ?_); rintro e w' ⟨rfl, rfl⟩)) | (go_at_call 44; ((with_reducible refine (H2.out _ hb0).mono ?_); rintro e w' ⟨rfl, rfl⟩)))
    refine bodyPost_ret (v := .tuple #[.agg #[.string ⟨#[]⟩, .bool false, .bool false, .bool false, .bool false, .bool false, .bool false, .slice none 0 0, .slice none 0 0, .bool false, .slice none 0 0], .int .i64 1]) ?_ rfl ⟨rfl, ba (ba (b0 w) _) _⟩
    refine add_results _ _ (w.heap.size + 1) _ rfl rfl ?_
    have := Blk.new (w.alloc (.cells #[.string mac, .bool pr, .bool au, .bool am, .bool nu, .bool nm, .bool na, .slice U us.length uc, .slice M ms.length mc, .bool vo, .slice V vs.length vc] 25)) 25 #[.string ⟨#[]⟩, .bool false, .bool false, .bool false, .bool false, .bool false, .bool false, .slice none 0 0, .slice none 0 0, .bool false, .slice none 0 0]
    simpa using this
set_option maxHeartbeats 2000000 in
theorem add_found (F : Fl) (n : Int) (B : Nat) (w : World) (hF : F.At B w) (hB : B ≤ w.heap.size) (hl : F.Few) (hn : isV n = true) (ha : ascB F.vs = true) (hh : hasI F.vs n = true) :
    Calls Try.prog 66 #[F.val, .int .i64 n] w (SetP F F.vs w) := by
  have A1 := fun W => isV_any n W
  have A2 := fun W (hb : Below w.heap.size w W) => asc_any B F.V F.vc F.vs W (hF.v.far hB hb) hl.v
  have A3 := fun W (hb : Below w.heap.size w W) => clone_any F B W (hF.far hB hb) (Nat.le_trans hB hb.size) hl
  have A4 := fun (V' : Option Addr) (vc' base : Nat) W (hr : OwnI base V' vc' F.vs W) => search_any W.heap.size V' vc' F.vs n W (Rd.of_own hr) hl.v ((ascB_iff F.vs).1 ha).2
  have hcl := cnt_le F.vs n
  have hvl := hl.v
  rw [hn] at A1
  rw [ha] at A2
  rw [hh] at A4
  obtain ⟨mac, pr, au, am, nu, nm, na, U, us, uc, M, ms, mc, vo, V, vs, vc⟩ := F
  clear hF hl hh ha
  simp only at A2 A3 A4 hcl hvl ⊢
  have H1 := Lib.hid A1
  have H2 := Lib.hid A2
  have H3 := Lib.hid A3
  have H4 := Lib.hid A4
  have HC := Lib.hid hcl
  have HV := Lib.hid hvl
  clear A1 A2 A3 A4 hcl hvl hn
  show Calls Try.prog 66 #[.agg #[.string mac, .bool pr, .bool au, .bool am, .bool nu, .bool nm, .bool na, .slice U us.length uc, .slice M ms.length mc, .bool vo, .slice V vs.length vc], .int .i64 n] w _
  have hb0 : Below w.heap.size w ((w.alloc (.cells #[.string mac, .bool pr, .bool au, .bool am, .bool nu, .bool nm, .bool na, .slice U us.length uc, .slice M ms.length mc, .bool vo, .slice V vs.length vc] 25)).alloc (.cells #[.string ⟨#[]⟩, .bool false, .bool false, .bool false, .bool false, .bool false, .bool false, .slice none 0 0, .slice none 0 0, .bool false, .slice none 0 0] 25)) := ba (ba (b0 w) _) _
  have k0 : Blk ((w.alloc (.cells #[.string mac, .bool pr, .bool au, .bool am, .bool nu, .bool nm, .bool na, .slice U us.length uc, .slice M ms.length mc, .bool vo, .slice V vs.length vc] 25)).alloc (.cells #[.string ⟨#[]⟩, .bool false, .bool false, .bool false, .bool false, .bool false, .bool false, .slice none 0 0, .slice none 0 0, .bool false, .slice none 0 0] 25)) w.heap.size 25 #[.string mac, .bool pr, .bool au, .bool am, .bool nu, .bool nm, .bool na, .slice U us.length uc, .slice M ms.length mc, .bool vo, .slice V vs.length vc] := (Blk.new w 25 _).alloc _
  have z0 : Blk ((w.alloc (.cells #[.string mac, .bool pr, .bool au, .bool am, .bool nu, .bool nm, .bool na, .slice U us.length uc, .slice M ms.length mc, .bool vo, .slice V vs.length vc] 25)).alloc (.cells #[.string ⟨#[]⟩, .bool false, .bool false, .bool false, .bool false, .bool false, .bool false, .slice none 0 0, .slice none 0 0, .bool false, .slice none 0 0] 25)) (w.heap.size + 1) 25 #[.string ⟨#[]⟩, .bool false, .bool false, .bool false, .bool false, .bool false, .bool false, .slice none 0 0, .slice none 0 0, .bool false, .slice none 0 0] := by
    have := Blk.new (w.alloc (.cells #[.string mac, .bool pr, .bool au, .bool am, .bool nu, .bool nm, .bool na, .slice U us.length uc, .slice M ms.length mc, .bool vo, .slice V vs.length vc] 25)) 25 #[.string ⟨#[]⟩, .bool false, .bool false, .bool false, .bool false, .bool false, .bool false, .slice none 0 0, .slice none 0 0, .bool false, .slice none 0 0]
    simpa using this
  have hs0 : ((w.alloc (.cells #[.string mac, .bool pr, .bool au, .bool am, .bool nu, .bool nm, .bool na, .slice U us.length uc, .slice M ms.length mc, .bool vo, .slice V vs.length vc] 25)).alloc (.cells #[.string ⟨#[]⟩, .bool false, .bool false, .bool false, .bool false, .bool false, .bool false, .slice none 0 0, .slice none 0 0, .bool false, .slice none 0 0] 25)).heap.size = w.heap.size + 2 := by simp
  have HB0 := Lib.hid hb0
  have K0 := Lib.hid k0
  have Z0 := Lib.hid z0
  have S0 := Lib.hid hs0
  clear hb0 k0 z0 hs0
  go_enter Try.func66, Try.ntmps66
  go_wp2_with (first | (go_at_call 62; ((with_reducible refine (H1.out _).mono ?_); rintro e w' ⟨rfl, rfl⟩)) | (go_at_call 44; ((with_reducible refine (H2.out _ HB0.out).mono ?_); rintro e w' ⟨rfl, rfl⟩)))
  refine (H3.out _ HB0.out).mono ?_
  rintro e w1 ⟨G, hS, rfl, hO, hq⟩
  rw [S0.out] at hO
  have k1 := K0.out.next hq
  have z1 := Z0.out.next hq
  have hb1 := bt2 HB0.out hq
  obtain ⟨mac', pr', au', am', nu', nm', na', U', us', uc', M', ms', mc', vo', V', vs', vc'⟩ := G
  obtain ⟨e0, e1, e2, e3, e4, e5, e6, e7, e8, e9, e10⟩ := hS
  simp only at e0 e1 e2 e3 e4 e5 e6 e7 e8 e9 e10
  replace e0 := e0.symm; replace e1 := e1.symm; replace e2 := e2.symm; replace e3 := e3.symm; replace e4 := e4.symm; replace e5 := e5.symm; replace e6 := e6.symm; replace e7 := e7.symm; replace e8 := e8.symm; replace e9 := e9.symm; replace e10 := e10.symm
  subst e0 e1 e2 e3 e4 e5 e6 e7 e8 e9 e10
  obtain ⟨ho1, hm1, hv1⟩ := hO
  simp only at ho1 hm1 hv1
  clear hq HB0 K0 Z0 S0
  have c0 := k1.cell 0
  have c1 := k1.cell 1
  have c2 := k1.cell 2
  have c3 := k1.cell 3
  have c4 := k1.cell 4
  have c5 := k1.cell 5
  have c6 := k1.cell 6
  have c7 := k1.cell 7
  have c8 := k1.cell 8
  have c9 := k1.cell 9
  have c10 := k1.cell 10
  simp only [List.getElem?_toArray, List.getElem?_cons_zero, List.getElem?_cons_succ] at c0 c1 c2 c3 c4 c5 c6 c7 c8 c9 c10
  have f0 := k1.frozen 0
  have f1 := k1.frozen 1
  have f2 := k1.frozen 2
  have f3 := k1.frozen 3
  have f4 := k1.frozen 4
  have f5 := k1.frozen 5
  have f6 := k1.frozen 6
  have f7 := k1.frozen 7
  have f8 := k1.frozen 8
  have f9 := k1.frozen 9
  have f10 := k1.frozen 10
  have hs1 := z1.lt
  have k2 := k1.set11 (.string mac) (.bool pr) (.bool au) (.bool am) (.bool nu) (.bool nm) (.bool na) (.slice U' us.length uc') (.slice M' ms.length mc') (.bool vo) (.slice V' vs.length vc')
  have z2 := z1.far11 (g := w.heap.size) (by omega) (.string mac) (.bool pr) (.bool au) (.bool am) (.bool nu) (.bool nm) (.bool na) (.slice U' us.length uc') (.slice M' ms.length mc') (.bool vo) (.slice V' vs.length vc')
  have hb2 := below_set11 hb1 (g := w.heap.size) (Nat.le_refl _) (.string mac) (.bool pr) (.bool au) (.bool am) (.bool nu) (.bool nm) (.bool na) (.slice U' us.length uc') (.slice M' ms.length mc') (.bool vo) (.slice V' vs.length vc')
  have ho2 := own_set11 ho1 (g := w.heap.size) (by omega) (.string mac) (.bool pr) (.bool au) (.bool am) (.bool nu) (.bool nm) (.bool na) (.slice U' us.length uc') (.slice M' ms.length mc') (.bool vo) (.slice V' vs.length vc')
  have hm2 := own_set11 hm1 (g := w.heap.size) (by omega) (.string mac) (.bool pr) (.bool au) (.bool am) (.bool nu) (.bool nm) (.bool na) (.slice U' us.length uc') (.slice M' ms.length mc') (.bool vo) (.slice V' vs.length vc')
  have hv2 := own_set11 hv1 (g := w.heap.size) (by omega) (.string mac) (.bool pr) (.bool au) (.bool am) (.bool nu) (.bool nm) (.bool na) (.slice U' us.length uc') (.slice M' ms.length mc') (.bool vo) (.slice V' vs.length vc')
  obtain ⟨w2, hw2⟩ : ∃ w2, (((((((((((w1.setCell ⟨w.heap.size, 0, none⟩ (.string mac)).setCell ⟨w.heap.size, 1, none⟩ (.bool pr)).setCell ⟨w.heap.size, 2, none⟩ (.bool au)).setCell ⟨w.heap.size, 3, none⟩ (.bool am)).setCell ⟨w.heap.size, 4, none⟩ (.bool nu)).setCell ⟨w.heap.size, 5, none⟩ (.bool nm)).setCell ⟨w.heap.size, 6, none⟩ (.bool na)).setCell ⟨w.heap.size, 7, none⟩ (.slice U' us.length uc')).setCell ⟨w.heap.size, 8, none⟩ (.slice M' ms.length mc')).setCell ⟨w.heap.size, 9, none⟩ (.bool vo)).setCell ⟨w.heap.size, 10, none⟩ (.slice V' vs.length vc')) = w2 := ⟨_, rfl⟩
  rw [hw2] at k2 z2 hb2 ho2 hm2 hv2
  have HW := Lib.hid hw2
  clear hw2 k1 z1 hb1 ho1 hm1 hv1
  have d0 := k2.cell 0
  have d1 := k2.cell 1
  have d2 := k2.cell 2
  have d3 := k2.cell 3
  have d4 := k2.cell 4
  have d5 := k2.cell 5
  have d6 := k2.cell 6
  have d7 := k2.cell 7
  have d8 := k2.cell 8
  have d9 := k2.cell 9
  have d10 := k2.cell 10
  simp only [List.getElem?_toArray, List.getElem?_cons_zero, List.getElem?_cons_succ] at d0 d1 d2 d3 d4 d5 d6 d7 d8 d9 d10
  go_wp2_with (rw [HW.out]; clear c0 c1 c2 c3 c4 c5 c6 c7 c8 c9 c10 f0 f1 f2 f3 f4 f5 f6 f7 f8 f9 f10 HW)
  refine (H4.out _ _ _ _ hv2).mono ?_
  rintro e w3 ⟨rfl, q, rfl⟩
  have y0 := z2.cell 0
  have y1 := z2.cell 1
  have y2 := z2.cell 2
  have y3 := z2.cell 3
  have y4 := z2.cell 4
  have y5 := z2.cell 5
  have y6 := z2.cell 6
  have y7 := z2.cell 7
  have y8 := z2.cell 8
  have y9 := z2.cell 9
  have y10 := z2.cell 10
  simp only [List.getElem?_toArray, List.getElem?_cons_zero, List.getElem?_cons_succ] at y0 y1 y2 y3 y4 y5 y6 y7 y8 y9 y10
  have f0 := z2.frozen 0
  have f1 := z2.frozen 1
  have f2 := z2.frozen 2
  have f3 := z2.frozen 3
  have f4 := z2.frozen 4
  have f5 := z2.frozen 5
  have f6 := z2.frozen 6
  have f7 := z2.frozen 7
  have f8 := z2.frozen 8
  have f9 := z2.frozen 9
  have f10 := z2.frozen 10
  have hs2 := z2.lt
  go_wp2_with fail
  have z4 : Blk (w2.drewN q) (w.heap.size + 1) 25 _ := z2
  have hb4 : Below w.heap.size w (w2.drewN q) := below_drewN hb2 q
  refine bodyPost_ret (v := .tuple #[.agg #[.string mac, .bool pr, .bool au, .bool am, .bool nu, .bool nm, .bool na, .slice U' us.length uc', .slice M' ms.length mc', .bool vo, .slice V' vs.length vc'], .int .i64 0]) ?_ rfl ?_
  · exact add_results _ _ _ _ rfl rfl (z4.set11 (.string mac) (.bool pr) (.bool au) (.bool am) (.bool nu) (.bool nm) (.bool na) (.slice U' us.length uc') (.slice M' ms.length mc') (.bool vo) (.slice V' vs.length vc'))
  · exact ⟨⟨mac, pr, au, am, nu, nm, na, U', us, uc', M', ms, mc', vo, V', vs, vc'⟩, ⟨rfl, rfl, rfl, rfl, rfl, rfl, rfl, rfl, rfl, rfl, rfl⟩, rfl,
      ⟨own_less (own_set11 (own_drewN ho2 q) (g := w.heap.size + 1) (by omega) (.string mac) (.bool pr) (.bool au) (.bool am) (.bool nu) (.bool nm) (.bool na) (.slice U' us.length uc') (.slice M' ms.length mc') (.bool vo) (.slice V' vs.length vc')) (by omega), own_less (own_set11 (own_drewN hm2 q) (g := w.heap.size + 1) (by omega) (.string mac) (.bool pr) (.bool au) (.bool am) (.bool nu) (.bool nm) (.bool na) (.slice U' us.length uc') (.slice M' ms.length mc') (.bool vo) (.slice V' vs.length vc')) (by omega), own_less (own_set11 (own_drewN hv2 q) (g := w.heap.size + 1) (by omega) (.string mac) (.bool pr) (.bool au) (.bool am) (.bool nu) (.bool nm) (.bool na) (.slice U' us.length uc') (.slice M' ms.length mc') (.bool vo) (.slice V' vs.length vc')) (by omega)⟩,
      below_set11 hb4 (by omega) (.string mac) (.bool pr) (.bool au) (.bool am) (.bool nu) (.bool nm) (.bool na) (.slice U' us.length uc') (.slice M' ms.length mc') (.bool vo) (.slice V' vs.length vc')⟩
set_option maxHeartbeats 2000000 in
theorem add_new (F : Fl) (n : Int) (B : Nat) (w : World) (hF : F.At B w) (hB : B ≤ w.heap.size) (hl : F.Few) (hn : isV n = true) (ha : ascB F.vs = true) (hh : hasI F.vs n = false) :
    Calls Try.prog 66 #[F.val, .int .i64 n] w (SetP F (insL F.vs (cnt F.vs n) n) w) := by
  have A1 := fun W => isV_any n W
  have A2 := fun W (hb : Below w.heap.size w W) => asc_any B F.V F.vc F.vs W (hF.v.far hB hb) hl.v
  have A3 := fun W (hb : Below w.heap.size w W) => clone_any F B W (hF.far hB hb) (Nat.le_trans hB hb.size) hl
  have A4 := fun (V' : Option Addr) (vc' base : Nat) W (hr : OwnI base V' vc' F.vs W) => search_any W.heap.size V' vc' F.vs n W (Rd.of_own hr) hl.v ((ascB_iff F.vs).1 ha).2
  have hcl := cnt_le F.vs n
  have hvl := hl.v
  rw [hn] at A1
  rw [ha] at A2
  rw [hh] at A4
  obtain ⟨mac, pr, au, am, nu, nm, na, U, us, uc, M, ms, mc, vo, V, vs, vc⟩ := F
  clear hF hl hh ha
  simp only at A2 A3 A4 hcl hvl ⊢
  have H1 := Lib.hid A1
  have H2 := Lib.hid A2
  have H3 := Lib.hid A3
  have H4 := Lib.hid A4
  have HC := Lib.hid hcl
  have HV := Lib.hid hvl
  clear A1 A2 A3 A4 hcl hvl hn
  show Calls Try.prog 66 #[.agg #[.string mac, .bool pr, .bool au, .bool am, .bool nu, .bool nm, .bool na, .slice U us.length uc, .slice M ms.length mc, .bool vo, .slice V vs.length vc], .int .i64 n] w _
  have hb0 : Below w.heap.size w ((w.alloc (.cells #[.string mac, .bool pr, .bool au, .bool am, .bool nu, .bool nm, .bool na, .slice U us.length uc, .slice M ms.length mc, .bool vo, .slice V vs.length vc] 25)).alloc (.cells #[.string ⟨#[]⟩, .bool false, .bool false, .bool false, .bool false, .bool false, .bool false, .slice none 0 0, .slice none 0 0, .bool false, .slice none 0 0] 25)) := ba (ba (b0 w) _) _
  have k0 : Blk ((w.alloc (.cells #[.string mac, .bool pr, .bool au, .bool am, .bool nu, .bool nm, .bool na, .slice U us.length uc, .slice M ms.length mc, .bool vo, .slice V vs.length vc] 25)).alloc (.cells #[.string ⟨#[]⟩, .bool false, .bool false, .bool false, .bool false, .bool false, .bool false, .slice none 0 0, .slice none 0 0, .bool false, .slice none 0 0] 25)) w.heap.size 25 #[.string mac, .bool pr, .bool au, .bool am, .bool nu, .bool nm, .bool na, .slice U us.length uc, .slice M ms.length mc, .bool vo, .slice V vs.length vc] := (Blk.new w 25 _).alloc _
  have z0 : Blk ((w.alloc (.cells #[.string mac, .bool pr, .bool au, .bool am, .bool nu, .bool nm, .bool na, .slice U us.length uc, .slice M ms.length mc, .bool vo, .slice V vs.length vc] 25)).alloc (.cells #[.string ⟨#[]⟩, .bool false, .bool false, .bool false, .bool false, .bool false, .bool false, .slice none 0 0, .slice none 0 0, .bool false, .slice none 0 0] 25)) (w.heap.size + 1) 25 #[.string ⟨#[]⟩, .bool false, .bool false, .bool false, .bool false, .bool false, .bool false, .slice none 0 0, .slice none 0 0, .bool false, .slice none 0 0] := by
    have := Blk.new (w.alloc (.cells #[.string mac, .bool pr, .bool au, .bool am, .bool nu, .bool nm, .bool na, .slice U us.length uc, .slice M ms.length mc, .bool vo, .slice V vs.length vc] 25)) 25 #[.string ⟨#[]⟩, .bool false, .bool false, .bool false, .bool false, .bool false, .bool false, .slice none 0 0, .slice none 0 0, .bool false, .slice none 0 0]
    simpa using this
  have hs0 : ((w.alloc (.cells #[.string mac, .bool pr, .bool au, .bool am, .bool nu, .bool nm, .bool na, .slice U us.length uc, .slice M ms.length mc, .bool vo, .slice V vs.length vc] 25)).alloc (.cells #[.string ⟨#[]⟩, .bool false, .bool false, .bool false, .bool false, .bool false, .bool false, .slice none 0 0, .slice none 0 0, .bool false, .slice none 0 0] 25)).heap.size = w.heap.size + 2 := by simp
  have HB0 := Lib.hid hb0
  have K0 := Lib.hid k0
  have Z0 := Lib.hid z0
  have S0 := Lib.hid hs0
  clear hb0 k0 z0 hs0
  go_enter Try.func66, Try.ntmps66
  go_wp2_with (first | (go_at_call 62; ((with_reducible refine (H1.out _).mono ?_); rintro e w' ⟨rfl, rfl⟩)) | (go_at_call 44; ((with_reducible refine (H2.out _ HB0.out).mono ?_); rintro e w' ⟨rfl, rfl⟩)))
  refine (H3.out _ HB0.out).mono ?_
  rintro e w1 ⟨G, hS, rfl, hO, hq⟩
  rw [S0.out] at hO
  have k1 := K0.out.next hq
  have z1 := Z0.out.next hq
  have hb1 := bt2 HB0.out hq
  obtain ⟨mac', pr', au', am', nu', nm', na', U', us', uc', M', ms', mc', vo', V', vs', vc'⟩ := G
  obtain ⟨e0, e1, e2, e3, e4, e5, e6, e7, e8, e9, e10⟩ := hS
  simp only at e0 e1 e2 e3 e4 e5 e6 e7 e8 e9 e10
  replace e0 := e0.symm; replace e1 := e1.symm; replace e2 := e2.symm; replace e3 := e3.symm; replace e4 := e4.symm; replace e5 := e5.symm; replace e6 := e6.symm; replace e7 := e7.symm; replace e8 := e8.symm; replace e9 := e9.symm; replace e10 := e10.symm
  subst e0 e1 e2 e3 e4 e5 e6 e7 e8 e9 e10
  obtain ⟨ho1, hm1, hv1⟩ := hO
  simp only at ho1 hm1 hv1
  clear hq HB0 K0 Z0 S0
  have c0 := k1.cell 0
  have c1 := k1.cell 1
  have c2 := k1.cell 2
  have c3 := k1.cell 3
  have c4 := k1.cell 4
  have c5 := k1.cell 5
  have c6 := k1.cell 6
  have c7 := k1.cell 7
  have c8 := k1.cell 8
  have c9 := k1.cell 9
  have c10 := k1.cell 10
  simp only [List.getElem?_toArray, List.getElem?_cons_zero, List.getElem?_cons_succ] at c0 c1 c2 c3 c4 c5 c6 c7 c8 c9 c10
  have f0 := k1.frozen 0
  have f1 := k1.frozen 1
  have f2 := k1.frozen 2
  have f3 := k1.frozen 3
  have f4 := k1.frozen 4
  have f5 := k1.frozen 5
  have f6 := k1.frozen 6
  have f7 := k1.frozen 7
  have f8 := k1.frozen 8
  have f9 := k1.frozen 9
  have f10 := k1.frozen 10
  have hs1 := z1.lt
  have k2 := k1.set11 (.string mac) (.bool pr) (.bool au) (.bool am) (.bool nu) (.bool nm) (.bool na) (.slice U' us.length uc') (.slice M' ms.length mc') (.bool vo) (.slice V' vs.length vc')
  have z2 := z1.far11 (g := w.heap.size) (by omega) (.string mac) (.bool pr) (.bool au) (.bool am) (.bool nu) (.bool nm) (.bool na) (.slice U' us.length uc') (.slice M' ms.length mc') (.bool vo) (.slice V' vs.length vc')
  have hb2 := below_set11 hb1 (g := w.heap.size) (Nat.le_refl _) (.string mac) (.bool pr) (.bool au) (.bool am) (.bool nu) (.bool nm) (.bool na) (.slice U' us.length uc') (.slice M' ms.length mc') (.bool vo) (.slice V' vs.length vc')
  have ho2 := own_set11 ho1 (g := w.heap.size) (by omega) (.string mac) (.bool pr) (.bool au) (.bool am) (.bool nu) (.bool nm) (.bool na) (.slice U' us.length uc') (.slice M' ms.length mc') (.bool vo) (.slice V' vs.length vc')
  have hm2 := own_set11 hm1 (g := w.heap.size) (by omega) (.string mac) (.bool pr) (.bool au) (.bool am) (.bool nu) (.bool nm) (.bool na) (.slice U' us.length uc') (.slice M' ms.length mc') (.bool vo) (.slice V' vs.length vc')
  have hv2 := own_set11 hv1 (g := w.heap.size) (by omega) (.string mac) (.bool pr) (.bool au) (.bool am) (.bool nu) (.bool nm) (.bool na) (.slice U' us.length uc') (.slice M' ms.length mc') (.bool vo) (.slice V' vs.length vc')
  obtain ⟨w2, hw2⟩ : ∃ w2, (((((((((((w1.setCell ⟨w.heap.size, 0, none⟩ (.string mac)).setCell ⟨w.heap.size, 1, none⟩ (.bool pr)).setCell ⟨w.heap.size, 2, none⟩ (.bool au)).setCell ⟨w.heap.size, 3, none⟩ (.bool am)).setCell ⟨w.heap.size, 4, none⟩ (.bool nu)).setCell ⟨w.heap.size, 5, none⟩ (.bool nm)).setCell ⟨w.heap.size, 6, none⟩ (.bool na)).setCell ⟨w.heap.size, 7, none⟩ (.slice U' us.length uc')).setCell ⟨w.heap.size, 8, none⟩ (.slice M' ms.length mc')).setCell ⟨w.heap.size, 9, none⟩ (.bool vo)).setCell ⟨w.heap.size, 10, none⟩ (.slice V' vs.length vc')) = w2 := ⟨_, rfl⟩
  rw [hw2] at k2 z2 hb2 ho2 hm2 hv2
  have HW := Lib.hid hw2
  clear hw2 k1 z1 hb1 ho1 hm1 hv1
  have d0 := k2.cell 0
  have d1 := k2.cell 1
  have d2 := k2.cell 2
  have d3 := k2.cell 3
  have d4 := k2.cell 4
  have d5 := k2.cell 5
  have d6 := k2.cell 6
  have d7 := k2.cell 7
  have d8 := k2.cell 8
  have d9 := k2.cell 9
  have d10 := k2.cell 10
  simp only [List.getElem?_toArray, List.getElem?_cons_zero, List.getElem?_cons_succ] at d0 d1 d2 d3 d4 d5 d6 d7 d8 d9 d10
  go_wp2_with (rw [HW.out]; clear c0 c1 c2 c3 c4 c5 c6 c7 c8 c9 c10 f0 f1 f2 f3 f4 f5 f6 f7 f8 f9 f10 HW)
  refine (H4.out _ _ _ _ hv2).mono ?_
  rintro e w3 ⟨rfl, q, rfl⟩
  have hs2 := z2.lt
  go_wp2_with fail
  have vbk : Blk ((w2.drewN q).alloc (.cells #[.int .i64 n] 3)) w2.heap.size 3 #[.int .i64 n] := Blk.new (w2.drewN q) _ _
  have k3 : Blk ((w2.drewN q).alloc (.cells #[.int .i64 n] 3)) w.heap.size 25 _ := (show Blk (w2.drewN q) w.heap.size 25 _ from k2).alloc _
  have z3 : Blk ((w2.drewN q).alloc (.cells #[.int .i64 n] 3)) (w.heap.size + 1) 25 _ := (show Blk (w2.drewN q) (w.heap.size + 1) 25 _ from z2).alloc _
  have ho3 := own_alloc (own_drewN ho2 q) (.cells #[.int .i64 n] 3)
  have hm3 := own_alloc (own_drewN hm2 q) (.cells #[.int .i64 n] 3)
  have hv3 := own_alloc (own_drewN hv2 q) (.cells #[.int .i64 n] 3)
  have hb3 := ba (below_drewN hb2 q) (.cells #[.int .i64 n] 3)
  have hne : (Value.slice V' vs.length vc').ownBlock ≠ some w2.heap.size := fun e => by have := (World.ownsRow.lt hv2 _ e).2; omega
  have hsz : w.heap.size + 2 ≤ ((w2.drewN q).alloc (.cells #[.int .i64 n] 3)).heap.size := by simp; omega
  refine (insert_any _ _ _ _ _ _ _ _ hv3 hsz HC.out HV.out vbk hne).mono ?_
  rintro e w4 ⟨V'', vc'', rfl, hv4, hg⟩
  have k4 := blk_grown k3 hv3 (by omega) hg
  have z4 := blk_grown z3 hv3 (by omega) hg
  have ho4 := own_grown ho3 hv3 (by decide) hg
  have hm4 := own_grown hm3 hv3 (by decide) hg
  have hb4 := hb3.grown hg (by omega) (fun k hk => by have := own_ge hv3 k hk; omega)
  clear k2 z2 ho2 hm2 hv2 hb2 d0 d1 d2 d3 d4 d5 d6 d7 d8 d9 d10
  have c0 := k4.cell 0
  have c1 := k4.cell 1
  have c2 := k4.cell 2
  have c3 := k4.cell 3
  have c4 := k4.cell 4
  have c5 := k4.cell 5
  have c6 := k4.cell 6
  have c7 := k4.cell 7
  have c8 := k4.cell 8
  have c9 := k4.cell 9
  have c10 := k4.cell 10
  simp only [List.getElem?_toArray, List.getElem?_cons_zero, List.getElem?_cons_succ] at c0 c1 c2 c3 c4 c5 c6 c7 c8 c9 c10
  have f0 := k4.frozen 0
  have f1 := k4.frozen 1
  have f2 := k4.frozen 2
  have f3 := k4.frozen 3
  have f4 := k4.frozen 4
  have f5 := k4.frozen 5
  have f6 := k4.frozen 6
  have f7 := k4.frozen 7
  have f8 := k4.frozen 8
  have f9 := k4.frozen 9
  have f10 := k4.frozen 10
  have y0 := z4.cell 0
  have y1 := z4.cell 1
  have y2 := z4.cell 2
  have y3 := z4.cell 3
  have y4 := z4.cell 4
  have y5 := z4.cell 5
  have y6 := z4.cell 6
  have y7 := z4.cell 7
  have y8 := z4.cell 8
  have y9 := z4.cell 9
  have y10 := z4.cell 10
  simp only [List.getElem?_toArray, List.getElem?_cons_zero, List.getElem?_cons_succ] at y0 y1 y2 y3 y4 y5 y6 y7 y8 y9 y10
  have g0 := z4.frozen 0
  have g1 := z4.frozen 1
  have g2 := z4.frozen 2
  have g3 := z4.frozen 3
  have g4 := z4.frozen 4
  have g5 := z4.frozen 5
  have g6 := z4.frozen 6
  have g7 := z4.frozen 7
  have g8 := z4.frozen 8
  have g9 := z4.frozen 9
  have g10 := z4.frozen 10
  have hs4 := z4.lt
  have k5 := k4.put 10 (.slice V'' (vs.length + 1) vc'')
  simp at k5
  have z5 := z4.other (k := w.heap.size) (by omega) 10 (.slice V'' (vs.length + 1) vc'')
  have ho5 := own_set ho4 (g := w.heap.size) (by omega) 10 (.slice V'' (vs.length + 1) vc'')
  have hm5 := own_set hm4 (g := w.heap.size) (by omega) 10 (.slice V'' (vs.length + 1) vc'')
  have hv5 := own_set hv4 (g := w.heap.size) (by omega) 10 (.slice V'' (vs.length + 1) vc'')
  have hb5 := hb4.setCell (p := ⟨w.heap.size, 10, none⟩) (Nat.le_refl _) (.slice V'' (vs.length + 1) vc'')
  go_wp2_with fail
  refine bodyPost_ret (v := .tuple #[.agg #[.string mac, .bool pr, .bool au, .bool am, .bool nu, .bool nm, .bool na, .slice U' us.length uc', .slice M' ms.length mc', .bool vo, .slice V'' (vs.length + 1) vc''], .int .i64 0]) ?_ rfl ?_
  · exact add_results _ _ _ _ rfl rfl (z5.set11 (.string mac) (.bool pr) (.bool au) (.bool am) (.bool nu) (.bool nm) (.bool na) (.slice U' us.length uc') (.slice M' ms.length mc') (.bool vo) (.slice V'' (vs.length + 1) vc''))
  · refine ⟨⟨mac, pr, au, am, nu, nm, na, U', us, uc', M', ms, mc', vo, V'', insL vs (cnt vs n) n, vc''⟩, ⟨rfl, rfl, rfl, rfl, rfl, rfl, rfl, rfl, rfl, rfl, rfl⟩, ?_,
      ⟨own_less (own_set11 ho5 (g := w.heap.size + 1) (by omega) (.string mac) (.bool pr) (.bool au) (.bool am) (.bool nu) (.bool nm) (.bool na) (.slice U' us.length uc') (.slice M' ms.length mc') (.bool vo) (.slice V'' (vs.length + 1) vc'')) (by omega), own_less (own_set11 hm5 (g := w.heap.size + 1) (by omega) (.string mac) (.bool pr) (.bool au) (.bool am) (.bool nu) (.bool nm) (.bool na) (.slice U' us.length uc') (.slice M' ms.length mc') (.bool vo) (.slice V'' (vs.length + 1) vc'')) (by omega), own_less (own_set11 hv5 (g := w.heap.size + 1) (by omega) (.string mac) (.bool pr) (.bool au) (.bool am) (.bool nu) (.bool nm) (.bool na) (.slice U' us.length uc') (.slice M' ms.length mc') (.bool vo) (.slice V'' (vs.length + 1) vc'')) (by omega)⟩,
      below_set11 hb5 (by omega) (.string mac) (.bool pr) (.bool au) (.bool am) (.bool nu) (.bool nm) (.bool na) (.slice U' us.length uc') (.slice M' ms.length mc') (.bool vo) (.slice V'' (vs.length + 1) vc'')⟩
    show Ending.returned (.tuple #[.agg #[_, _, _, _, _, _, _, _, _, _, _], _]) = Ending.returned (.tuple #[.agg #[_, _, _, _, _, _, _, _, _, _, .slice V'' (insL vs (cnt vs n) n).length vc''], _])
    rw [insL_length _ _ _ HC.out]
theorem del_results (w : World) (tmps : Array Value) (g : Nat) (n : Int) (h2 : tmps[4]?.getD undef = .pointer (some ⟨g, 0, none⟩)) (h3 : tmps[5]?.getD undef = .int .i64 n) {a0 a1 a2 a3 a4 a5 a6 a7 a8 a9 a10 : Value} (h : Blk w g 25 #[a0, a1, a2, a3, a4, a5, a6, a7, a8, a9, a10]) :
    (results Try.f67 tmps).run Try.prog w = .ok (.tuple #[.agg #[a0, a1, a2, a3, a4, a5, a6, a7, a8, a9, a10], .int .i64 n]) w := by
  have c0 := h.cell 0
  have c1 := h.cell 1
  have c2 := h.cell 2
  have c3 := h.cell 3
  have c4 := h.cell 4
  have c5 := h.cell 5
  have c6 := h.cell 6
  have c7 := h.cell 7
  have c8 := h.cell 8
  have c9 := h.cell 9
  have c10 := h.cell 10
  simp only [List.getElem?_toArray, List.getElem?_cons_zero, List.getElem?_cons_succ] at c0 c1 c2 c3 c4 c5 c6 c7 c8 c9 c10
  simp [results, Try.results67, go_sem, h2, h3, c0, c1, c2, c3, c4, c5, c6, c7, c8, c9, c10]
set_option maxHeartbeats 1000000 in
theorem del_bad (F : Fl) (n : Int) (B : Nat) (w : World) (hF : F.At B w) (hB : B ≤ w.heap.size) (hl : F.Few) (hbad : isV n = false ∨ ascB F.vs = false) :
    Calls Try.prog 67 #[F.val, .int .i64 n] w fun e w' => e = .returned (.tuple #[Fl.zero.val, .int .i64 1]) ∧ Below w.heap.size w w' := by
  have A1 := fun W => isV_any n W
  have A2 := fun W (hb : Below w.heap.size w W) => asc_any B F.V F.vc F.vs W (hF.v.far hB hb) hl.v
  generalize isV n = b1 at *
  generalize ascB F.vs = b2 at *
  obtain ⟨mac, pr, au, am, nu, nm, na, U, us, uc, M, ms, mc, vo, V, vs, vc⟩ := F
  clear hF hl
  simp only at A2
  have H1 := Lib.hid A1
  have H2 := Lib.hid A2
  clear A1 A2
  show Calls Try.prog 67 #[.agg #[.string mac, .bool pr, .bool au, .bool am, .bool nu, .bool nm, .bool na, .slice U us.length uc, .slice M ms.length mc, .bool vo, .slice V vs.length vc], .int .i64 n] w _
  cases b1
  · clear hbad H2
    go_enter Try.func67, Try.ntmps67
    go_wp2_with (go_at_call 62; ((with_reducible refine (H1.out _).mono ?_); rintro e w' ⟨rfl, rfl⟩))
    refine bodyPost_ret (v := .tuple #[.agg #[.string ⟨#[]⟩, .bool false, .bool false, .bool false, .bool false, .bool false, .bool false, .slice none 0 0, .slice none 0 0, .bool false, .slice none 0 0], .int .i64 1]) ?_ rfl ⟨rfl, ba (ba (b0 w) _) _⟩
    refine del_results _ _ (w.heap.size + 1) _ rfl rfl ?_
    have := Blk.new (w.alloc (.cells #[.string mac, .bool pr, .bool au, .bool am, .bool nu, .bool nm, .bool na, .slice U us.length uc, .slice M ms.length mc, .bool vo, .slice V vs.length vc] 25)) 25 #[.string ⟨#[]⟩, .bool false, .bool false, .bool false, .bool false, .bool false, .bool false, .slice none 0 0, .slice none 0 0, .bool false, .slice none 0 0]
    simpa using this
  · obtain rfl : b2 = false := by simpa using hbad
    clear hbad
    have hb0 : Below w.heap.size w ((w.alloc (.cells #[.string mac, .bool pr, .bool au, .bool am, .bool nu, .bool nm, .bool na, .slice U us.length uc, .slice M ms.length mc, .bool vo, .slice V vs.length vc] 25)).alloc (.cells #[.string ⟨#[]⟩, .bool false, .bool false, .bool false, .bool false, .bool false, .bool false, .slice none 0 0, .slice none 0 0, .bool false, .slice none 0 0] 25)) := ba (ba (b0 w) _) _
    go_enter Try.func67, Try.ntmps67
    go_wp2_with (first | (go_at_call 62; ((with_reducible refine (H1.out _).mono ?_); rintro e w' ⟨rfl, rfl⟩)) | (go_at_call 44; ((with_reducible refine (H2.out _ hb0).mono ?_); rintro e w' ⟨rfl, rfl⟩)))
    refine bodyPost_ret (v := .tuple #[.agg #[.string ⟨#[]⟩, .bool false, .bool false, .bool false, .bool false, .bool false, .bool false, .slice none 0 0, .slice none 0 0, .bool false, .slice none 0 0], .int .i64 1]) ?_ rfl ⟨rfl, ba (ba (b0 w) _) _⟩
    refine del_results _ _ (w.heap.size + 1) _ rfl rfl ?_
    have := Blk.new (w.alloc (.cells #[.string mac, .bool pr, .bool au, .bool am, .bool nu, .bool nm, .bool na, .slice U us.length uc, .slice M ms.length mc, .bool vo, .slice V vs.length vc] 25)) 25 #[.string ⟨#[]⟩, .bool false, .bool false, .bool false, .bool false, .bool false, .bool false, .slice none 0 0, .slice none 0 0, .bool false, .slice none 0 0]
    simpa using this
set_option maxHeartbeats 2000000 in
theorem del_found (F : Fl) (n : Int) (B : Nat) (w : World) (hF : F.At B w) (hB : B ≤ w.heap.size) (hl : F.Few) (hn : isV n = true) (ha : ascB F.vs = true) (hh : hasI F.vs n = true) :
    Calls Try.prog 67 #[F.val, .int .i64 n] w (SetP F (cutL F.vs (cnt F.vs n)) w) := by
  have A1 := fun W => isV_any n W
  have A2 := fun W (hb : Below w.heap.size w W) => asc_any B F.V F.vc F.vs W (hF.v.far hB hb) hl.v
  have A3 := fun W (hb : Below w.heap.size w W) => clone_any F B W (hF.far hB hb) (Nat.le_trans hB hb.size) hl
  have A4 := fun (V' : Option Addr) (vc' base : Nat) W (hr : OwnI base V' vc' F.vs W) => search_any W.heap.size V' vc' F.vs n W (Rd.of_own hr) hl.v ((ascB_iff F.vs).1 ha).2
  have hcl := cnt_lt F.vs n hh
  have hvl := hl.v
  rw [hn] at A1
  rw [ha] at A2
  rw [hh] at A4
  obtain ⟨mac, pr, au, am, nu, nm, na, U, us, uc, M, ms, mc, vo, V, vs, vc⟩ := F
  clear hF hl hh ha
  simp only at A2 A3 A4 hcl hvl ⊢
  have H1 := Lib.hid A1
  have H2 := Lib.hid A2
  have H3 := Lib.hid A3
  have H4 := Lib.hid A4
  have HC := Lib.hid hcl
  have HV := Lib.hid hvl
  clear A1 A2 A3 A4 hcl hvl hn
  show Calls Try.prog 67 #[.agg #[.string mac, .bool pr, .bool au, .bool am, .bool nu, .bool nm, .bool na, .slice U us.length uc, .slice M ms.length mc, .bool vo, .slice V vs.length vc], .int .i64 n] w _
  have hb0 : Below w.heap.size w ((w.alloc (.cells #[.string mac, .bool pr, .bool au, .bool am, .bool nu, .bool nm, .bool na, .slice U us.length uc, .slice M ms.length mc, .bool vo, .slice V vs.length vc] 25)).alloc (.cells #[.string ⟨#[]⟩, .bool false, .bool false, .bool false, .bool false, .bool false, .bool false, .slice none 0 0, .slice none 0 0, .bool false, .slice none 0 0] 25)) := ba (ba (b0 w) _) _
  have k0 : Blk ((w.alloc (.cells #[.string mac, .bool pr, .bool au, .bool am, .bool nu, .bool nm, .bool na, .slice U us.length uc, .slice M ms.length mc, .bool vo, .slice V vs.length vc] 25)).alloc (.cells #[.string ⟨#[]⟩, .bool false, .bool false, .bool false, .bool false, .bool false, .bool false, .slice none 0 0, .slice none 0 0, .bool false, .slice none 0 0] 25)) w.heap.size 25 #[.string mac, .bool pr, .bool au, .bool am, .bool nu, .bool nm, .bool na, .slice U us.length uc, .slice M ms.length mc, .bool vo, .slice V vs.length vc] := (Blk.new w 25 _).alloc _
  have z0 : Blk ((w.alloc (.cells #[.string mac, .bool pr, .bool au, .bool am, .bool nu, .bool nm, .bool na, .slice U us.length uc, .slice M ms.length mc, .bool vo, .slice V vs.length vc] 25)).alloc (.cells #[.string ⟨#[]⟩, .bool false, .bool false, .bool false, .bool false, .bool false, .bool false, .slice none 0 0, .slice none 0 0, .bool false, .slice none 0 0] 25)) (w.heap.size + 1) 25 #[.string ⟨#[]⟩, .bool false, .bool false, .bool false, .bool false, .bool false, .bool false, .slice none 0 0, .slice none 0 0, .bool false, .slice none 0 0] := by
    have := Blk.new (w.alloc (.cells #[.string mac, .bool pr, .bool au, .bool am, .bool nu, .bool nm, .bool na, .slice U us.length uc, .slice M ms.length mc, .bool vo, .slice V vs.length vc] 25)) 25 #[.string ⟨#[]⟩, .bool false, .bool false, .bool false, .bool false, .bool false, .bool false, .slice none 0 0, .slice none 0 0, .bool false, .slice none 0 0]
    simpa using this
  have hs0 : ((w.alloc (.cells #[.string mac, .bool pr, .bool au, .bool am, .bool nu, .bool nm, .bool na, .slice U us.length uc, .slice M ms.length mc, .bool vo, .slice V vs.length vc] 25)).alloc (.cells #[.string ⟨#[]⟩, .bool false, .bool false, .bool false, .bool false, .bool false, .bool false, .slice none 0 0, .slice none 0 0, .bool false, .slice none 0 0] 25)).heap.size = w.heap.size + 2 := by simp
  have HB0 := Lib.hid hb0
  have K0 := Lib.hid k0
  have Z0 := Lib.hid z0
  have S0 := Lib.hid hs0
  clear hb0 k0 z0 hs0
  go_enter Try.func67, Try.ntmps67
  go_wp2_with (first | (go_at_call 62; ((with_reducible refine (H1.out _).mono ?_); rintro e w' ⟨rfl, rfl⟩)) | (go_at_call 44; ((with_reducible refine (H2.out _ HB0.out).mono ?_); rintro e w' ⟨rfl, rfl⟩)))
  refine (H3.out _ HB0.out).mono ?_
  rintro e w1 ⟨G, hS, rfl, hO, hq⟩
  rw [S0.out] at hO
  have k1 := K0.out.next hq
  have z1 := Z0.out.next hq
  have hb1 := bt2 HB0.out hq
  obtain ⟨mac', pr', au', am', nu', nm', na', U', us', uc', M', ms', mc', vo', V', vs', vc'⟩ := G
  obtain ⟨e0, e1, e2, e3, e4, e5, e6, e7, e8, e9, e10⟩ := hS
  simp only at e0 e1 e2 e3 e4 e5 e6 e7 e8 e9 e10
  replace e0 := e0.symm; replace e1 := e1.symm; replace e2 := e2.symm; replace e3 := e3.symm; replace e4 := e4.symm; replace e5 := e5.symm; replace e6 := e6.symm; replace e7 := e7.symm; replace e8 := e8.symm; replace e9 := e9.symm; replace e10 := e10.symm
  subst e0 e1 e2 e3 e4 e5 e6 e7 e8 e9 e10
  obtain ⟨ho1, hm1, hv1⟩ := hO
  simp only at ho1 hm1 hv1
  clear hq HB0 K0 Z0 S0
  have c0 := k1.cell 0
  have c1 := k1.cell 1
  have c2 := k1.cell 2
  have c3 := k1.cell 3
  have c4 := k1.cell 4
  have c5 := k1.cell 5
  have c6 := k1.cell 6
  have c7 := k1.cell 7
  have c8 := k1.cell 8
  have c9 := k1.cell 9
  have c10 := k1.cell 10
  simp only [List.getElem?_toArray, List.getElem?_cons_zero, List.getElem?_cons_succ] at c0 c1 c2 c3 c4 c5 c6 c7 c8 c9 c10
  have f0 := k1.frozen 0
  have f1 := k1.frozen 1
  have f2 := k1.frozen 2
  have f3 := k1.frozen 3
  have f4 := k1.frozen 4
  have f5 := k1.frozen 5
  have f6 := k1.frozen 6
  have f7 := k1.frozen 7
  have f8 := k1.frozen 8
  have f9 := k1.frozen 9
  have f10 := k1.frozen 10
  have hs1 := z1.lt
  have k2 := k1.set11 (.string mac) (.bool pr) (.bool au) (.bool am) (.bool nu) (.bool nm) (.bool na) (.slice U' us.length uc') (.slice M' ms.length mc') (.bool vo) (.slice V' vs.length vc')
  have z2 := z1.far11 (g := w.heap.size) (by omega) (.string mac) (.bool pr) (.bool au) (.bool am) (.bool nu) (.bool nm) (.bool na) (.slice U' us.length uc') (.slice M' ms.length mc') (.bool vo) (.slice V' vs.length vc')
  have hb2 := below_set11 hb1 (g := w.heap.size) (Nat.le_refl _) (.string mac) (.bool pr) (.bool au) (.bool am) (.bool nu) (.bool nm) (.bool na) (.slice U' us.length uc') (.slice M' ms.length mc') (.bool vo) (.slice V' vs.length vc')
  have ho2 := own_set11 ho1 (g := w.heap.size) (by omega) (.string mac) (.bool pr) (.bool au) (.bool am) (.bool nu) (.bool nm) (.bool na) (.slice U' us.length uc') (.slice M' ms.length mc') (.bool vo) (.slice V' vs.length vc')
  have hm2 := own_set11 hm1 (g := w.heap.size) (by omega) (.string mac) (.bool pr) (.bool au) (.bool am) (.bool nu) (.bool nm) (.bool na) (.slice U' us.length uc') (.slice M' ms.length mc') (.bool vo) (.slice V' vs.length vc')
  have hv2 := own_set11 hv1 (g := w.heap.size) (by omega) (.string mac) (.bool pr) (.bool au) (.bool am) (.bool nu) (.bool nm) (.bool na) (.slice U' us.length uc') (.slice M' ms.length mc') (.bool vo) (.slice V' vs.length vc')
  obtain ⟨w2, hw2⟩ : ∃ w2, (((((((((((w1.setCell ⟨w.heap.size, 0, none⟩ (.string mac)).setCell ⟨w.heap.size, 1, none⟩ (.bool pr)).setCell ⟨w.heap.size, 2, none⟩ (.bool au)).setCell ⟨w.heap.size, 3, none⟩ (.bool am)).setCell ⟨w.heap.size, 4, none⟩ (.bool nu)).setCell ⟨w.heap.size, 5, none⟩ (.bool nm)).setCell ⟨w.heap.size, 6, none⟩ (.bool na)).setCell ⟨w.heap.size, 7, none⟩ (.slice U' us.length uc')).setCell ⟨w.heap.size, 8, none⟩ (.slice M' ms.length mc')).setCell ⟨w.heap.size, 9, none⟩ (.bool vo)).setCell ⟨w.heap.size, 10, none⟩ (.slice V' vs.length vc')) = w2 := ⟨_, rfl⟩
  rw [hw2] at k2 z2 hb2 ho2 hm2 hv2
  have HW := Lib.hid hw2
  clear hw2 k1 z1 hb1 ho1 hm1 hv1
  have d0 := k2.cell 0
  have d1 := k2.cell 1
  have d2 := k2.cell 2
  have d3 := k2.cell 3
  have d4 := k2.cell 4
  have d5 := k2.cell 5
  have d6 := k2.cell 6
  have d7 := k2.cell 7
  have d8 := k2.cell 8
  have d9 := k2.cell 9
  have d10 := k2.cell 10
  simp only [List.getElem?_toArray, List.getElem?_cons_zero, List.getElem?_cons_succ] at d0 d1 d2 d3 d4 d5 d6 d7 d8 d9 d10
  go_wp2_with (rw [HW.out]; clear c0 c1 c2 c3 c4 c5 c6 c7 c8 c9 c10 f0 f1 f2 f3 f4 f5 f6 f7 f8 f9 f10 HW)
  refine (H4.out _ _ _ _ hv2).mono ?_
  rintro e w3 ⟨rfl, q, rfl⟩
  have hs2 := z2.lt
  have hcn : (cnt vs n : Int) + 1 ≤ 401 := by have := HC.out; have := HV.out; omega
  have hcn2 : (0 : Int) ≤ cnt vs n := by omega
  go_wp2_with fail
  have k3 : Blk (w2.drewN q) w.heap.size 25 _ := k2
  have z3 : Blk (w2.drewN q) (w.heap.size + 1) 25 _ := z2
  have ho3 := own_drewN ho2 q
  have hm3 := own_drewN hm2 q
  have hv3 := own_drewN hv2 q
  have hb3 := below_drewN hb2 q
  have hsz : w.heap.size + 2 ≤ (w2.drewN q).heap.size := by show _ ≤ w2.heap.size; omega
  refine (delete_any _ _ _ _ _ _ hv3 HC.out).mono ?_
  rintro e w4 ⟨rfl, hv4, hg⟩
  have k4 := blk_grown k3 hv3 (by omega) hg
  have z4 := blk_grown z3 hv3 (by omega) hg
  have ho4 := own_grown ho3 hv3 (by decide) hg
  have hm4 := own_grown hm3 hv3 (by decide) hg
  have hb4 := hb3.grown hg (by omega) (fun k hk => by have := own_ge hv3 k hk; omega)
  clear k2 z2 ho2 hm2 hv2 hb2 d0 d1 d2 d3 d4 d5 d6 d7 d8 d9 d10
  have c0 := k4.cell 0
  have c1 := k4.cell 1
  have c2 := k4.cell 2
  have c3 := k4.cell 3
  have c4 := k4.cell 4
  have c5 := k4.cell 5
  have c6 := k4.cell 6
  have c7 := k4.cell 7
  have c8 := k4.cell 8
  have c9 := k4.cell 9
  have c10 := k4.cell 10
  simp only [List.getElem?_toArray, List.getElem?_cons_zero, List.getElem?_cons_succ] at c0 c1 c2 c3 c4 c5 c6 c7 c8 c9 c10
  have f0 := k4.frozen 0
  have f1 := k4.frozen 1
  have f2 := k4.frozen 2
  have f3 := k4.frozen 3
  have f4 := k4.frozen 4
  have f5 := k4.frozen 5
  have f6 := k4.frozen 6
  have f7 := k4.frozen 7
  have f8 := k4.frozen 8
  have f9 := k4.frozen 9
  have f10 := k4.frozen 10
  have y0 := z4.cell 0
  have y1 := z4.cell 1
  have y2 := z4.cell 2
  have y3 := z4.cell 3
  have y4 := z4.cell 4
  have y5 := z4.cell 5
  have y6 := z4.cell 6
  have y7 := z4.cell 7
  have y8 := z4.cell 8
  have y9 := z4.cell 9
  have y10 := z4.cell 10
  simp only [List.getElem?_toArray, List.getElem?_cons_zero, List.getElem?_cons_succ] at y0 y1 y2 y3 y4 y5 y6 y7 y8 y9 y10
  have g0 := z4.frozen 0
  have g1 := z4.frozen 1
  have g2 := z4.frozen 2
  have g3 := z4.frozen 3
  have g4 := z4.frozen 4
  have g5 := z4.frozen 5
  have g6 := z4.frozen 6
  have g7 := z4.frozen 7
  have g8 := z4.frozen 8
  have g9 := z4.frozen 9
  have g10 := z4.frozen 10
  have hs4 := z4.lt
  have k5 := k4.put 10 (.slice V' (vs.length - 1) vc')
  simp at k5
  have z5 := z4.other (k := w.heap.size) (by omega) 10 (.slice V' (vs.length - 1) vc')
  have ho5 := own_set ho4 (g := w.heap.size) (by omega) 10 (.slice V' (vs.length - 1) vc')
  have hm5 := own_set hm4 (g := w.heap.size) (by omega) 10 (.slice V' (vs.length - 1) vc')
  have hv5 := own_set hv4 (g := w.heap.size) (by omega) 10 (.slice V' (vs.length - 1) vc')
  have hb5 := hb4.setCell (p := ⟨w.heap.size, 10, none⟩) (Nat.le_refl _) (.slice V' (vs.length - 1) vc')
  go_wp2_with fail
  refine bodyPost_ret (v := .tuple #[.agg #[.string mac, .bool pr, .bool au, .bool am, .bool nu, .bool nm, .bool na, .slice U' us.length uc', .slice M' ms.length mc', .bool vo, .slice V' (vs.length - 1) vc'], .int .i64 0]) ?_ rfl ?_
  · exact del_results _ _ _ _ rfl rfl (z5.set11 (.string mac) (.bool pr) (.bool au) (.bool am) (.bool nu) (.bool nm) (.bool na) (.slice U' us.length uc') (.slice M' ms.length mc') (.bool vo) (.slice V' (vs.length - 1) vc'))
  · refine ⟨⟨mac, pr, au, am, nu, nm, na, U', us, uc', M', ms, mc', vo, V', cutL vs (cnt vs n), vc'⟩, ⟨rfl, rfl, rfl, rfl, rfl, rfl, rfl, rfl, rfl, rfl, rfl⟩, ?_,
      ⟨own_less (own_set11 ho5 (g := w.heap.size + 1) (by omega) (.string mac) (.bool pr) (.bool au) (.bool am) (.bool nu) (.bool nm) (.bool na) (.slice U' us.length uc') (.slice M' ms.length mc') (.bool vo) (.slice V' (vs.length - 1) vc')) (by omega), own_less (own_set11 hm5 (g := w.heap.size + 1) (by omega) (.string mac) (.bool pr) (.bool au) (.bool am) (.bool nu) (.bool nm) (.bool na) (.slice U' us.length uc') (.slice M' ms.length mc') (.bool vo) (.slice V' (vs.length - 1) vc')) (by omega), own_less (own_set11 hv5 (g := w.heap.size + 1) (by omega) (.string mac) (.bool pr) (.bool au) (.bool am) (.bool nu) (.bool nm) (.bool na) (.slice U' us.length uc') (.slice M' ms.length mc') (.bool vo) (.slice V' (vs.length - 1) vc')) (by omega)⟩,
      below_set11 hb5 (by omega) (.string mac) (.bool pr) (.bool au) (.bool am) (.bool nu) (.bool nm) (.bool na) (.slice U' us.length uc') (.slice M' ms.length mc') (.bool vo) (.slice V' (vs.length - 1) vc')⟩
    show Ending.returned (.tuple #[.agg #[_, _, _, _, _, _, _, _, _, _, _], _]) = Ending.returned (.tuple #[.agg #[_, _, _, _, _, _, _, _, _, _, .slice V' (cutL vs (cnt vs n)).length vc'], _])
    rw [cutL_length _ _ HC.out]
set_option maxHeartbeats 2000000 in
theorem del_new (F : Fl) (n : Int) (B : Nat) (w : World) (hF : F.At B w) (hB : B ≤ w.heap.size) (hl : F.Few) (hn : isV n = true) (ha : ascB F.vs = true) (hh : hasI F.vs n = false) :
    Calls Try.prog 67 #[F.val, .int .i64 n] w (SetP F F.vs w) := by
  have A1 := fun W => isV_any n W
  have A2 := fun W (hb : Below w.heap.size w W) => asc_any B F.V F.vc F.vs W (hF.v.far hB hb) hl.v
  have A3 := fun W (hb : Below w.heap.size w W) => clone_any F B W (hF.far hB hb) (Nat.le_trans hB hb.size) hl
  have A4 := fun (V' : Option Addr) (vc' base : Nat) W (hr : OwnI base V' vc' F.vs W) => search_any W.heap.size V' vc' F.vs n W (Rd.of_own hr) hl.v ((ascB_iff F.vs).1 ha).2
  have hcl := cnt_le F.vs n
  have hvl := hl.v
  rw [hn] at A1
  rw [ha] at A2
  rw [hh] at A4
  obtain ⟨mac, pr, au, am, nu, nm, na, U, us, uc, M, ms, mc, vo, V, vs, vc⟩ := F
  clear hF hl hh ha
  simp only at A2 A3 A4 hcl hvl ⊢
  have H1 := Lib.hid A1
  have H2 := Lib.hid A2
  have H3 := Lib.hid A3
  have H4 := Lib.hid A4
  have HC := Lib.hid hcl
  have HV := Lib.hid hvl
  clear A1 A2 A3 A4 hcl hvl hn
  show Calls Try.prog 67 #[.agg #[.string mac, .bool pr, .bool au, .bool am, .bool nu, .bool nm, .bool na, .slice U us.length uc, .slice M ms.length mc, .bool vo, .slice V vs.length vc], .int .i64 n] w _
  have hb0 : Below w.heap.size w ((w.alloc (.cells #[.string mac, .bool pr, .bool au, .bool am, .bool nu, .bool nm, .bool na, .slice U us.length uc, .slice M ms.length mc, .bool vo, .slice V vs.length vc] 25)).alloc (.cells #[.string ⟨#[]⟩, .bool false, .bool false, .bool false, .bool false, .bool false, .bool false, .slice none 0 0, .slice none 0 0, .bool false, .slice none 0 0] 25)) := ba (ba (b0 w) _) _
  have k0 : Blk ((w.alloc (.cells #[.string mac, .bool pr, .bool au, .bool am, .bool nu, .bool nm, .bool na, .slice U us.length uc, .slice M ms.length mc, .bool vo, .slice V vs.length vc] 25)).alloc (.cells #[.string ⟨#[]⟩, .bool false, .bool false, .bool false, .bool false, .bool false, .bool false, .slice none 0 0, .slice none 0 0, .bool false, .slice none 0 0] 25)) w.heap.size 25 #[.string mac, .bool pr, .bool au, .bool am, .bool nu, .bool nm, .bool na, .slice U us.length uc, .slice M ms.length mc, .bool vo, .slice V vs.length vc] := (Blk.new w 25 _).alloc _
  have z0 : Blk ((w.alloc (.cells #[.string mac, .bool pr, .bool au, .bool am, .bool nu, .bool nm, .bool na, .slice U us.length uc, .slice M ms.length mc, .bool vo, .slice V vs.length vc] 25)).alloc (.cells #[.string ⟨#[]⟩, .bool false, .bool false, .bool false, .bool false, .bool false, .bool false, .slice none 0 0, .slice none 0 0, .bool false, .slice none 0 0] 25)) (w.heap.size + 1) 25 #[.string ⟨#[]⟩, .bool false, .bool false, .bool false, .bool false, .bool false, .bool false, .slice none 0 0, .slice none 0 0, .bool false, .slice none 0 0] := by
    have := Blk.new (w.alloc (.cells #[.string mac, .bool pr, .bool au, .bool am, .bool nu, .bool nm, .bool na, .slice U us.length uc, .slice M ms.length mc, .bool vo, .slice V vs.length vc] 25)) 25 #[.string ⟨#[]⟩, .bool false, .bool false, .bool false, .bool false, .bool false, .bool false, .slice none 0 0, .slice none 0 0, .bool false, .slice none 0 0]
    simpa using this
  have hs0 : ((w.alloc (.cells #[.string mac, .bool pr, .bool au, .bool am, .bool nu, .bool nm, .bool na, .slice U us.length uc, .slice M ms.length mc, .bool vo, .slice V vs.length vc] 25)).alloc (.cells #[.string ⟨#[]⟩, .bool false, .bool false, .bool false, .bool false, .bool false, .bool false, .slice none 0 0, .slice none 0 0, .bool false, .slice none 0 0] 25)).heap.size = w.heap.size + 2 := by simp
  have HB0 := Lib.hid hb0
  have K0 := Lib.hid k0
  have Z0 := Lib.hid z0
  have S0 := Lib.hid hs0
  clear hb0 k0 z0 hs0
  go_enter Try.func67, Try.ntmps67
  go_wp2_with (first | (go_at_call 62; ((with_reducible refine (H1.out _).mono ?_); rintro e w' ⟨rfl, rfl⟩)) | (go_at_call 44; ((with_reducible refine (H2.out _ HB0.out).mono ?_); rintro e w' ⟨rfl, rfl⟩)))
  refine (H3.out _ HB0.out).mono ?_
  rintro e w1 ⟨G, hS, rfl, hO, hq⟩
  rw [S0.out] at hO
  have k1 := K0.out.next hq
  have z1 := Z0.out.next hq
  have hb1 := bt2 HB0.out hq
  obtain ⟨mac', pr', au', am', nu', nm', na', U', us', uc', M', ms', mc', vo', V', vs', vc'⟩ := G
  obtain ⟨e0, e1, e2, e3, e4, e5, e6, e7, e8, e9, e10⟩ := hS
  simp only at e0 e1 e2 e3 e4 e5 e6 e7 e8 e9 e10
  replace e0 := e0.symm; replace e1 := e1.symm; replace e2 := e2.symm; replace e3 := e3.symm; replace e4 := e4.symm; replace e5 := e5.symm; replace e6 := e6.symm; replace e7 := e7.symm; replace e8 := e8.symm; replace e9 := e9.symm; replace e10 := e10.symm
  subst e0 e1 e2 e3 e4 e5 e6 e7 e8 e9 e10
  obtain ⟨ho1, hm1, hv1⟩ := hO
  simp only at ho1 hm1 hv1
  clear hq HB0 K0 Z0 S0
  have c0 := k1.cell 0
  have c1 := k1.cell 1
  have c2 := k1.cell 2
  have c3 := k1.cell 3
  have c4 := k1.cell 4
  have c5 := k1.cell 5
  have c6 := k1.cell 6
  have c7 := k1.cell 7
  have c8 := k1.cell 8
  have c9 := k1.cell 9
  have c10 := k1.cell 10
  simp only [List.getElem?_toArray, List.getElem?_cons_zero, List.getElem?_cons_succ] at c0 c1 c2 c3 c4 c5 c6 c7 c8 c9 c10
  have f0 := k1.frozen 0
  have f1 := k1.frozen 1
  have f2 := k1.frozen 2
  have f3 := k1.frozen 3
  have f4 := k1.frozen 4
  have f5 := k1.frozen 5
  have f6 := k1.frozen 6
  have f7 := k1.frozen 7
  have f8 := k1.frozen 8
  have f9 := k1.frozen 9
  have f10 := k1.frozen 10
  have hs1 := z1.lt
  have k2 := k1.set11 (.string mac) (.bool pr) (.bool au) (.bool am) (.bool nu) (.bool nm) (.bool na) (.slice U' us.length uc') (.slice M' ms.length mc') (.bool vo) (.slice V' vs.length vc')
  have z2 := z1.far11 (g := w.heap.size) (by omega) (.string mac) (.bool pr) (.bool au) (.bool am) (.bool nu) (.bool nm) (.bool na) (.slice U' us.length uc') (.slice M' ms.length mc') (.bool vo) (.slice V' vs.length vc')
  have hb2 := below_set11 hb1 (g := w.heap.size) (Nat.le_refl _) (.string mac) (.bool pr) (.bool au) (.bool am) (.bool nu) (.bool nm) (.bool na) (.slice U' us.length uc') (.slice M' ms.length mc') (.bool vo) (.slice V' vs.length vc')
  have ho2 := own_set11 ho1 (g := w.heap.size) (by omega) (.string mac) (.bool pr) (.bool au) (.bool am) (.bool nu) (.bool nm) (.bool na) (.slice U' us.length uc') (.slice M' ms.length mc') (.bool vo) (.slice V' vs.length vc')
  have hm2 := own_set11 hm1 (g := w.heap.size) (by omega) (.string mac) (.bool pr) (.bool au) (.bool am) (.bool nu) (.bool nm) (.bool na) (.slice U' us.length uc') (.slice M' ms.length mc') (.bool vo) (.slice V' vs.length vc')
  have hv2 := own_set11 hv1 (g := w.heap.size) (by omega) (.string mac) (.bool pr) (.bool au) (.bool am) (.bool nu) (.bool nm) (.bool na) (.slice U' us.length uc') (.slice M' ms.length mc') (.bool vo) (.slice V' vs.length vc')
  obtain ⟨w2, hw2⟩ : ∃ w2, (((((((((((w1.setCell ⟨w.heap.size, 0, none⟩ (.string mac)).setCell ⟨w.heap.size, 1, none⟩ (.bool pr)).setCell ⟨w.heap.size, 2, none⟩ (.bool au)).setCell ⟨w.heap.size, 3, none⟩ (.bool am)).setCell ⟨w.heap.size, 4, none⟩ (.bool nu)).setCell ⟨w.heap.size, 5, none⟩ (.bool nm)).setCell ⟨w.heap.size, 6, none⟩ (.bool na)).setCell ⟨w.heap.size, 7, none⟩ (.slice U' us.length uc')).setCell ⟨w.heap.size, 8, none⟩ (.slice M' ms.length mc')).setCell ⟨w.heap.size, 9, none⟩ (.bool vo)).setCell ⟨w.heap.size, 10, none⟩ (.slice V' vs.length vc')) = w2 := ⟨_, rfl⟩
  rw [hw2] at k2 z2 hb2 ho2 hm2 hv2
  have HW := Lib.hid hw2
  clear hw2 k1 z1 hb1 ho1 hm1 hv1
  have d0 := k2.cell 0
  have d1 := k2.cell 1
  have d2 := k2.cell 2
  have d3 := k2.cell 3
  have d4 := k2.cell 4
  have d5 := k2.cell 5
  have d6 := k2.cell 6
  have d7 := k2.cell 7
  have d8 := k2.cell 8
  have d9 := k2.cell 9
  have d10 := k2.cell 10
  simp only [List.getElem?_toArray, List.getElem?_cons_zero, List.getElem?_cons_succ] at d0 d1 d2 d3 d4 d5 d6 d7 d8 d9 d10
  go_wp2_with (rw [HW.out]; clear c0 c1 c2 c3 c4 c5 c6 c7 c8 c9 c10 f0 f1 f2 f3 f4 f5 f6 f7 f8 f9 f10 HW)
  refine (H4.out _ _ _ _ hv2).mono ?_
  rintro e w3 ⟨rfl, q, rfl⟩
  have y0 := z2.cell 0
  have y1 := z2.cell 1
  have y2 := z2.cell 2
  have y3 := z2.cell 3
  have y4 := z2.cell 4
  have y5 := z2.cell 5
  have y6 := z2.cell 6
  have y7 := z2.cell 7
  have y8 := z2.cell 8
  have y9 := z2.cell 9
  have y10 := z2.cell 10
  simp only [List.getElem?_toArray, List.getElem?_cons_zero, List.getElem?_cons_succ] at y0 y1 y2 y3 y4 y5 y6 y7 y8 y9 y10
  have f0 := z2.frozen 0
  have f1 := z2.frozen 1
  have f2 := z2.frozen 2
  have f3 := z2.frozen 3
  have f4 := z2.frozen 4
  have f5 := z2.frozen 5
  have f6 := z2.frozen 6
  have f7 := z2.frozen 7
  have f8 := z2.frozen 8
  have f9 := z2.frozen 9
  have f10 := z2.frozen 10
  have hs2 := z2.lt
  go_wp2_with fail
  have z4 : Blk (w2.drewN q) (w.heap.size + 1) 25 _ := z2
  have hb4 : Below w.heap.size w (w2.drewN q) := below_drewN hb2 q
  refine bodyPost_ret (v := .tuple #[.agg #[.string mac, .bool pr, .bool au, .bool am, .bool nu, .bool nm, .bool na, .slice U' us.length uc', .slice M' ms.length mc', .bool vo, .slice V' vs.length vc'], .int .i64 0]) ?_ rfl ?_
  · exact del_results _ _ _ _ rfl rfl (z4.set11 (.string mac) (.bool pr) (.bool au) (.bool am) (.bool nu) (.bool nm) (.bool na) (.slice U' us.length uc') (.slice M' ms.length mc') (.bool vo) (.slice V' vs.length vc'))
  · exact ⟨⟨mac, pr, au, am, nu, nm, na, U', us, uc', M', ms, mc', vo, V', vs, vc'⟩, ⟨rfl, rfl, rfl, rfl, rfl, rfl, rfl, rfl, rfl, rfl, rfl⟩, rfl,
      ⟨own_less (own_set11 (own_drewN ho2 q) (g := w.heap.size + 1) (by omega) (.string mac) (.bool pr) (.bool au) (.bool am) (.bool nu) (.bool nm) (.bool na) (.slice U' us.length uc') (.slice M' ms.length mc') (.bool vo) (.slice V' vs.length vc')) (by omega), own_less (own_set11 (own_drewN hm2 q) (g := w.heap.size + 1) (by omega) (.string mac) (.bool pr) (.bool au) (.bool am) (.bool nu) (.bool nm) (.bool na) (.slice U' us.length uc') (.slice M' ms.length mc') (.bool vo) (.slice V' vs.length vc')) (by omega), own_less (own_set11 (own_drewN hv2 q) (g := w.heap.size + 1) (by omega) (.string mac) (.bool pr) (.bool au) (.bool am) (.bool nu) (.bool nm) (.bool na) (.slice U' us.length uc') (.slice M' ms.length mc') (.bool vo) (.slice V' vs.length vc')) (by omega)⟩,
      below_set11 hb4 (by omega) (.string mac) (.bool pr) (.bool au) (.bool am) (.bool nu) (.bool nm) (.bool na) (.slice U' us.length uc') (.slice M' ms.length mc') (.bool vo) (.slice V' vs.length vc')⟩
theorem add_any (F : Fl) (n : Int) (B : Nat) (w : World) (hF : F.At B w) (hB : B ≤ w.heap.size) (hl : F.Few) (hn : isV n = true) (ha : ascB F.vs = true) :
    Calls Try.prog 66 #[F.val, .int .i64 n] w (SetP F (addL F.vs n) w) := by
  unfold addL
  cases hh : hasI F.vs n
  · exact add_new F n B w hF hB hl hn ha hh
  · exact add_found F n B w hF hB hl hn ha hh
theorem del_any (F : Fl) (n : Int) (B : Nat) (w : World) (hF : F.At B w) (hB : B ≤ w.heap.size) (hl : F.Few) (hn : isV n = true) (ha : ascB F.vs = true) :
    Calls Try.prog 67 #[F.val, .int .i64 n] w (SetP F (delL F.vs n) w) := by
  unfold delL
  cases hh : hasI F.vs n
  · exact del_new F n B w hF hB hl hn ha hh
  · exact del_found F n B w hF hB hl hn ha hh
end Go.Proofs.Ytongkfimgohhbaa
