/-
  What ip.Parse answers, for every string: the packet, or why there is none.
-/
import Derived.Test.YtpjndjmneficbaaIp6
namespace Go.Proofs.Ytpjndjmneficbaa
open Go.RowKit

theorem set12 {w : World} {g : Nat} {t : TypeId} {c0 c1 c2 c3 c4 c5 c6 c7 c8 c9 c10 c11 : Value} (h : Blk w g t #[c0, c1, c2, c3, c4, c5, c6, c7, c8, c9, c10, c11]) (x0 x1 x2 x3 x4 x5 x6 x7 x8 x9 x10 x11 : Value) : Blk ((((((((((((w.setCell ⟨g, 0, none⟩ x0).setCell ⟨g, 1, none⟩ x1).setCell ⟨g, 2, none⟩ x2).setCell ⟨g, 3, none⟩ x3).setCell ⟨g, 4, none⟩ x4).setCell ⟨g, 5, none⟩ x5).setCell ⟨g, 6, none⟩ x6).setCell ⟨g, 7, none⟩ x7).setCell ⟨g, 8, none⟩ x8).setCell ⟨g, 9, none⟩ x9).setCell ⟨g, 10, none⟩ x10).setCell ⟨g, 11, none⟩ x11) g t #[x0, x1, x2, x3, x4, x5, x6, x7, x8, x9, x10, x11] :=
  ((((((((((((h.put' 0 x0 (cs' := #[x0, c1, c2, c3, c4, c5, c6, c7, c8, c9, c10, c11]) rfl).put' 1 x1 (cs' := #[x0, x1, c2, c3, c4, c5, c6, c7, c8, c9, c10, c11]) rfl).put' 2 x2 (cs' := #[x0, x1, x2, c3, c4, c5, c6, c7, c8, c9, c10, c11]) rfl).put' 3 x3 (cs' := #[x0, x1, x2, x3, c4, c5, c6, c7, c8, c9, c10, c11]) rfl).put' 4 x4 (cs' := #[x0, x1, x2, x3, x4, c5, c6, c7, c8, c9, c10, c11]) rfl).put' 5 x5 (cs' := #[x0, x1, x2, x3, x4, x5, c6, c7, c8, c9, c10, c11]) rfl).put' 6 x6 (cs' := #[x0, x1, x2, x3, x4, x5, x6, c7, c8, c9, c10, c11]) rfl).put' 7 x7 (cs' := #[x0, x1, x2, x3, x4, x5, x6, x7, c8, c9, c10, c11]) rfl).put' 8 x8 (cs' := #[x0, x1, x2, x3, x4, x5, x6, x7, x8, c9, c10, c11]) rfl).put' 9 x9 (cs' := #[x0, x1, x2, x3, x4, x5, x6, x7, x8, x9, c10, c11]) rfl).put' 10 x10 (cs' := #[x0, x1, x2, x3, x4, x5, x6, x7, x8, x9, x10, c11]) rfl).put' 11 x11 (cs' := #[x0, x1, x2, x3, x4, x5, x6, x7, x8, x9, x10, x11]) rfl)
theorem other12 {w : World} {g k : Nat} {t : TypeId} {cs : Array Value} (h : Blk w k t cs) (hk : k ≠ g) (x0 x1 x2 x3 x4 x5 x6 x7 x8 x9 x10 x11 : Value) : Blk ((((((((((((w.setCell ⟨g, 0, none⟩ x0).setCell ⟨g, 1, none⟩ x1).setCell ⟨g, 2, none⟩ x2).setCell ⟨g, 3, none⟩ x3).setCell ⟨g, 4, none⟩ x4).setCell ⟨g, 5, none⟩ x5).setCell ⟨g, 6, none⟩ x6).setCell ⟨g, 7, none⟩ x7).setCell ⟨g, 8, none⟩ x8).setCell ⟨g, 9, none⟩ x9).setCell ⟨g, 10, none⟩ x10).setCell ⟨g, 11, none⟩ x11) k t cs :=
  ((((((((((((h.other hk 0 x0).other hk 1 x1).other hk 2 x2).other hk 3 x3).other hk 4 x4).other hk 5 x5).other hk 6 x6).other hk 7 x7).other hk 8 x8).other hk 9 x9).other hk 10 x10).other hk 11 x11)
theorem below12 {B : Nat} {w0 w : World} {g : Nat} (h : Below B w0 w) (hB : B ≤ g) (x0 x1 x2 x3 x4 x5 x6 x7 x8 x9 x10 x11 : Value) : Below B w0 ((((((((((((w.setCell ⟨g, 0, none⟩ x0).setCell ⟨g, 1, none⟩ x1).setCell ⟨g, 2, none⟩ x2).setCell ⟨g, 3, none⟩ x3).setCell ⟨g, 4, none⟩ x4).setCell ⟨g, 5, none⟩ x5).setCell ⟨g, 6, none⟩ x6).setCell ⟨g, 7, none⟩ x7).setCell ⟨g, 8, none⟩ x8).setCell ⟨g, 9, none⟩ x9).setCell ⟨g, 10, none⟩ x10).setCell ⟨g, 11, none⟩ x11) :=
  ((((((((((((h.setCell hB x0).setCell hB x1).setCell hB x2).setCell hB x3).setCell hB x4).setCell hB x5).setCell hB x6).setCell hB x7).setCell hB x8).setCell hB x9).setCell hB x10).setCell hB x11)
theorem assert_shortI (W : World) : (Instr.typeAssert (.iface 71 (.agg #[])) 20 71 true).run Try.prog W = .ok (.tuple #[.agg #[], .bool true]) W := by kernel_rfl
set_option maxHeartbeats 1600000 in
theorem catchI_panicking (B gf ge : Nat) (older : List PanicEntry) (w0 w : World) (hne : gf ≠ ge) (hB : B ≤ gf) (hB' : B ≤ ge) (c0 c1 c2 c3 c4 c5 c6 c7 c8 c9 c10 c11 c12 : Value)
    (hF : Blk w gf 56 #[c0, c1, c2, c3, c4, c5, c6, c7, c8, c9, c10, c11]) (hE : Blk w ge 28 #[c12]) (hb : Below B w0 w) :
    CallsD Try.prog 48 #[.pointer (some ⟨gf, 0, none⟩), .pointer (some ⟨ge, 0, none⟩)] (.panicking ({ v := shortI, recovered := false } :: older)) w fun e u' w' =>
      e = .returned (.tuple #[]) ∧ u' = .panicking ({ v := shortI, recovered := true } :: older) ∧ Blk w' gf 56 pkZ ∧ Blk w' ge 28 #[.int .i64 70] ∧ Below B w0 w' := by
  have hgf := hF.lt
  have hge := hE.lt
  have h0 := hF.cell 0
  have h1 := hF.cell 1
  have h2 := hF.cell 2
  have h3 := hF.cell 3
  have h4 := hF.cell 4
  have h5 := hF.cell 5
  have h6 := hF.cell 6
  have h7 := hF.cell 7
  have h8 := hF.cell 8
  have h9 := hF.cell 9
  have h10 := hF.cell 10
  have h11 := hF.cell 11
  have hE0 := hE.cell 0
  have f0 := hF.frozen
  have f1 := hE.frozen 0
  have hn : w.heap.size ≠ gf := by omega
  have hm : w.heap.size ≠ ge := by omega
  have KF := Lib.hid hF
  have KE := Lib.hid hE
  have KB := Lib.hid hb
  clear hF hE hb
  refine callsD_of_wpS Try.func48 rfl fun c₀ cs hu => ?_
  unfold shortI at *
  apply wpS_seq
  apply wpS_region
  simp [wpOpsS, go_sem, recoverD, hu, Try.ntmps48, Exit.thenS]
  refine wpS_of_wp ?_
  change Code.wp _ _ _ { tmps := #[Value.pointer (some { block := gf, off := 0 }), Value.pointer (some { block := ge, off := 0 }), Value.iface 71 (Value.agg #[]), undef, undef, Value.iface 71 (Value.agg #[]), undef, undef, undef, undef, undef, undef, undef, undef, undef, undef, undef], defers := [] } w
  have ha := assert_shortI
  go_wp2
  refine ⟨rfl, _, rfl, .tuple #[], by simp [results, Try.results48], rfl, rfl, ?_, ?_, ?_⟩
  · exact ((set12 KF.out (.int .i64 0) (.string ⟨#[]⟩) (.string ⟨#[]⟩) (.int .i64 0) (.int .i64 0) (.int .i64 0) (.int .i64 0) (.int .i64 0) (.int .i64 0) (.int .i64 0) (.string ⟨#[]⟩) (.string ⟨#[]⟩)).other hne 0 (.int .i64 70)).alloc _
  · exact ((other12 KE.out hne.symm (.int .i64 0) (.string ⟨#[]⟩) (.string ⟨#[]⟩) (.int .i64 0) (.int .i64 0) (.int .i64 0) (.int .i64 0) (.int .i64 0) (.int .i64 0) (.int .i64 0) (.string ⟨#[]⟩) (.string ⟨#[]⟩)).put 0 (.int .i64 70)).alloc _
  · exact ((below12 KB.out hB (.int .i64 0) (.string ⟨#[]⟩) (.string ⟨#[]⟩) (.int .i64 0) (.int .i64 0) (.int .i64 0) (.int .i64 0) (.int .i64 0) (.int .i64 0) (.int .i64 0) (.string ⟨#[]⟩) (.string ⟨#[]⟩)).setCell hB' _).alloc (by simp; omega) _
theorem catchI_idle (gf ge : Nat) (w : World) :
    CallsD Try.prog 48 #[.pointer (some ⟨gf, 0, none⟩), .pointer (some ⟨ge, 0, none⟩)] .returning w fun e u' w' => e = .returned (.tuple #[]) ∧ u' = .returning ∧ w' = w := by
  refine callsD_of_wpS Try.func48 rfl fun c₀ cs hu => ?_
  apply wpS_seq
  apply wpS_region
  simp [wpOpsS, go_sem, recoverD, hu, Try.ntmps48, Exit.thenS]
  refine wpS_of_wp ?_
  change Code.wp _ _ _ { tmps := #[Value.pointer (some { block := gf, off := 0 }), Value.pointer (some { block := ge, off := 0 }), Value.nilIface, undef, undef, Value.nilIface, undef, undef, undef, undef, undef, undef, undef, undef, undef, undef, undef], defers := [] } w
  go_wp2
  cases c₀
  simp_all [bodyPostS, results, Try.results48]
/-- Parse under way. -/
structure PP (w0 w : World) : Prop where
  res : Blk w w0.heap.size 56 pkZ
  er : Blk w (w0.heap.size + 1) 28 #[.int .i64 0]
  below : Below w0.heap.size w0 w
theorem PP.next {w0 w w' : World} (h : PP w0 w) (hb : Below w.heap.size w w') : PP w0 w' :=
  ⟨h.res.same (hb.block _ h.res.lt), h.er.same (hb.block _ h.er.lt), h.below.trans (hb.mono (by have := h.er.lt; omega))⟩
theorem PP.box {w0 w : World} (h : PP w0 w) (x : Value) : PP w0 (w.setCell ⟨w0.heap.size + 1 + 1, 0, none⟩ x) :=
  ⟨h.res.other (by omega) _ _, h.er.other (by omega) _ _, h.below.setCell (by show _ ≤ w0.heap.size + 1 + 1; omega) _⟩
theorem PP.new (w : World) (s : ByteArray) : PP w (((w.alloc (.cells pkZ 56)).alloc (.cells #[.int .i64 0] 28)).alloc (.cells #[.string s] 9)) := by
  refine ⟨((Blk.new w 56 _).alloc _).alloc _, ?_, (((Below.refl _ _).alloc (Nat.le_refl _) _).alloc (by simp) _).alloc (by simp; omega) _⟩
  have := (Blk.new (w.alloc (.cells pkZ 56)) 28 #[.int .i64 0]).alloc (.cells #[.string s] 9)
  simpa using this
theorem PP.cells {w0 w : World} (h : PP w0 w) : (w.cell? ⟨w0.heap.size, 0, none⟩ = some (.int .i64 0) ∧ w.cell? ⟨w0.heap.size, 1, none⟩ = some (.string ⟨#[]⟩) ∧ w.cell? ⟨w0.heap.size, 2, none⟩ = some (.string ⟨#[]⟩) ∧ w.cell? ⟨w0.heap.size, 3, none⟩ = some (.int .i64 0) ∧ w.cell? ⟨w0.heap.size, 4, none⟩ = some (.int .i64 0) ∧ w.cell? ⟨w0.heap.size, 5, none⟩ = some (.int .i64 0) ∧ w.cell? ⟨w0.heap.size, 6, none⟩ = some (.int .i64 0) ∧ w.cell? ⟨w0.heap.size, 7, none⟩ = some (.int .i64 0) ∧ w.cell? ⟨w0.heap.size, 8, none⟩ = some (.int .i64 0) ∧ w.cell? ⟨w0.heap.size, 9, none⟩ = some (.int .i64 0) ∧ w.cell? ⟨w0.heap.size, 10, none⟩ = some (.string ⟨#[]⟩) ∧ w.cell? ⟨w0.heap.size, 11, none⟩ = some (.string ⟨#[]⟩)) ∧ w.cell? ⟨w0.heap.size + 1, 0, none⟩ = some (.int .i64 0) ∧ (∀ i, w.frozen? ⟨w0.heap.size, i, none⟩ = false) ∧ w.frozen? ⟨w0.heap.size + 1, 0, none⟩ = false :=
  ⟨⟨h.res.cell 0, h.res.cell 1, h.res.cell 2, h.res.cell 3, h.res.cell 4, h.res.cell 5, h.res.cell 6, h.res.cell 7, h.res.cell 8, h.res.cell 9, h.res.cell 10, h.res.cell 11⟩, h.er.cell 0, h.res.frozen, h.er.frozen 0⟩
theorem PP.ret {w0 w : World} (h : PP w0 w) (a0 : Int) (a1 a2 : ByteArray) (a3 a4 a5 a6 a7 a8 a9 : Int) (a10 a11 : ByteArray) (n : Int) :
    Blk (((((((((((((w.setCell ⟨w0.heap.size, 0, none⟩ (.int .i64 a0)).setCell ⟨w0.heap.size, 1, none⟩ (.string a1)).setCell ⟨w0.heap.size, 2, none⟩ (.string a2)).setCell ⟨w0.heap.size, 3, none⟩ (.int .i64 a3)).setCell ⟨w0.heap.size, 4, none⟩ (.int .i64 a4)).setCell ⟨w0.heap.size, 5, none⟩ (.int .i64 a5)).setCell ⟨w0.heap.size, 6, none⟩ (.int .i64 a6)).setCell ⟨w0.heap.size, 7, none⟩ (.int .i64 a7)).setCell ⟨w0.heap.size, 8, none⟩ (.int .i64 a8)).setCell ⟨w0.heap.size, 9, none⟩ (.int .i64 a9)).setCell ⟨w0.heap.size, 10, none⟩ (.string a10)).setCell ⟨w0.heap.size, 11, none⟩ (.string a11)).setCell ⟨w0.heap.size + 1, 0, none⟩ (.int .i64 n)) w0.heap.size 56 (pkL a0 a1 a2 a3 a4 a5 a6 a7 a8 a9 a10 a11) ∧ Blk (((((((((((((w.setCell ⟨w0.heap.size, 0, none⟩ (.int .i64 a0)).setCell ⟨w0.heap.size, 1, none⟩ (.string a1)).setCell ⟨w0.heap.size, 2, none⟩ (.string a2)).setCell ⟨w0.heap.size, 3, none⟩ (.int .i64 a3)).setCell ⟨w0.heap.size, 4, none⟩ (.int .i64 a4)).setCell ⟨w0.heap.size, 5, none⟩ (.int .i64 a5)).setCell ⟨w0.heap.size, 6, none⟩ (.int .i64 a6)).setCell ⟨w0.heap.size, 7, none⟩ (.int .i64 a7)).setCell ⟨w0.heap.size, 8, none⟩ (.int .i64 a8)).setCell ⟨w0.heap.size, 9, none⟩ (.int .i64 a9)).setCell ⟨w0.heap.size, 10, none⟩ (.string a10)).setCell ⟨w0.heap.size, 11, none⟩ (.string a11)).setCell ⟨w0.heap.size + 1, 0, none⟩ (.int .i64 n)) (w0.heap.size + 1) 28 #[.int .i64 n] ∧ Below w0.heap.size w0 (((((((((((((w.setCell ⟨w0.heap.size, 0, none⟩ (.int .i64 a0)).setCell ⟨w0.heap.size, 1, none⟩ (.string a1)).setCell ⟨w0.heap.size, 2, none⟩ (.string a2)).setCell ⟨w0.heap.size, 3, none⟩ (.int .i64 a3)).setCell ⟨w0.heap.size, 4, none⟩ (.int .i64 a4)).setCell ⟨w0.heap.size, 5, none⟩ (.int .i64 a5)).setCell ⟨w0.heap.size, 6, none⟩ (.int .i64 a6)).setCell ⟨w0.heap.size, 7, none⟩ (.int .i64 a7)).setCell ⟨w0.heap.size, 8, none⟩ (.int .i64 a8)).setCell ⟨w0.heap.size, 9, none⟩ (.int .i64 a9)).setCell ⟨w0.heap.size, 10, none⟩ (.string a10)).setCell ⟨w0.heap.size, 11, none⟩ (.string a11)).setCell ⟨w0.heap.size + 1, 0, none⟩ (.int .i64 n)) :=
  ⟨(set12 h.res (.int .i64 a0) (.string a1) (.string a2) (.int .i64 a3) (.int .i64 a4) (.int .i64 a5) (.int .i64 a6) (.int .i64 a7) (.int .i64 a8) (.int .i64 a9) (.string a10) (.string a11)).other (by omega) 0 _, (other12 h.er (by omega) (.int .i64 a0) (.string a1) (.string a2) (.int .i64 a3) (.int .i64 a4) (.int .i64 a5) (.int .i64 a6) (.int .i64 a7) (.int .i64 a8) (.int .i64 a9) (.string a10) (.string a11)).put 0 _, (below12 h.below (Nat.le_refl _) (.int .i64 a0) (.string a1) (.string a2) (.int .i64 a3) (.int .i64 a4) (.int .i64 a5) (.int .i64 a6) (.int .i64 a7) (.int .i64 a8) (.int .i64 a9) (.string a10) (.string a11)).setCell (by show _ ≤ w0.heap.size + 1; omega) _⟩
theorem parseI_results (w : World) (tmps : Array Value) (gf ge : Nat) {n : Int} (h2 : tmps[2]?.getD undef = .pointer (some ⟨gf, 0, none⟩)) (h3 : tmps[3]?.getD undef = .pointer (some ⟨ge, 0, none⟩)) {v : Int} {src dst : ByteArray} {proto hops cls id flags off label : Int} {opt body : ByteArray}
    (hF : Blk w gf 56 (pkL v src dst proto hops cls id flags off label opt body)) (hE : Blk w ge 28 #[.int .i64 n]) : (results Try.f32 tmps).run Try.prog w = .ok (.tuple #[.agg (pkL v src dst proto hops cls id flags off label opt body), .int .i64 n]) w := by
  have c0 := hF.cell 0
  have c1 := hF.cell 1
  have c2 := hF.cell 2
  have c3 := hF.cell 3
  have c4 := hF.cell 4
  have c5 := hF.cell 5
  have c6 := hF.cell 6
  have c7 := hF.cell 7
  have c8 := hF.cell 8
  have c9 := hF.cell 9
  have c10 := hF.cell 10
  have c11 := hF.cell 11
  have c12 := hE.cell 0
  simp only [pkL] at c0 c1 c2 c3 c4 c5 c6 c7 c8 c9 c10 c11
  simp [results, Try.results32, go_sem, h2, h3, c0, c1, c2, c3, c4, c5, c6, c7, c8, c9, c10, c11, c12, pkL]
theorem doorI_panic (w w1 : World) (tmps : Array Value) (h2 : tmps[2]?.getD undef = .pointer (some ⟨w.heap.size, 0, none⟩)) (h3 : tmps[3]?.getD undef = .pointer (some ⟨w.heap.size + 1, 0, none⟩)) (h : PP w w1) {R : Ending → World → Prop} (hR : ∀ e w', Answers w pkZ 70 e w' → R e w') :
    bodyPostD Try.prog Try.f32 R (.panic [{ v := shortI, recovered := false }])
      { tmps := tmps, defers := [{ target := .fn (.func 48) #[.pointer (some ⟨w.heap.size, 0, none⟩), .pointer (some ⟨w.heap.size + 1, 0, none⟩)], args := #[] }] } w1 := by
  refine leaves_cons (f := 48) (args := #[.pointer (some ⟨w.heap.size, 0, none⟩), .pointer (some ⟨w.heap.size + 1, 0, none⟩)]) (by simp) (by simp [go_sem]) ?_
  refine (catchI_panicking w.heap.size w.heap.size (w.heap.size + 1) [] w w1 (by omega) (Nat.le_refl _) (by omega) _ _ _ _ _ _ _ _ _ _ _ _ _ h.res h.er h.below).mono ?_
  rintro e u' w'' ⟨rfl, rfl, hF, hE, hb⟩
  exact ⟨_, parseI_results w'' tmps _ _ h2 h3 hF hE, hR _ _ ⟨rfl, hb⟩⟩
theorem doorI_ret (w w1 : World) (tmps : Array Value) (h2 : tmps[2]?.getD undef = .pointer (some ⟨w.heap.size, 0, none⟩)) (h3 : tmps[3]?.getD undef = .pointer (some ⟨w.heap.size + 1, 0, none⟩)) {v : Int} {src dst : ByteArray} {proto hops cls id flags off label : Int} {opt body : ByteArray} {n : Int}
    (h : Blk w1 w.heap.size 56 (pkL v src dst proto hops cls id flags off label opt body) ∧ Blk w1 (w.heap.size + 1) 28 #[.int .i64 n] ∧ Below w.heap.size w w1) {R : Ending → World → Prop} (hR : ∀ e w', Answers w (pkL v src dst proto hops cls id flags off label opt body) n e w' → R e w') :
    bodyPostD Try.prog Try.f32 R .ret
      { tmps := tmps, defers := [{ target := .fn (.func 48) #[.pointer (some ⟨w.heap.size, 0, none⟩), .pointer (some ⟨w.heap.size + 1, 0, none⟩)], args := #[] }] } w1 := by
  refine leaves_cons (f := 48) (args := #[.pointer (some ⟨w.heap.size, 0, none⟩), .pointer (some ⟨w.heap.size + 1, 0, none⟩)]) (by simp) (by simp [go_sem]) ?_
  refine (catchI_idle w.heap.size (w.heap.size + 1) w1).mono ?_
  rintro e u' w'' ⟨rfl, rfl, rfl⟩
  exact ⟨_, parseI_results w'' tmps _ _ h2 h3 h.1 h.2.1, hR _ _ ⟨rfl, h.2.2⟩⟩

instance (s : ByteArray) : Decidable (short4 s) := by unfold short4; exact inferInstance
instance (s : ByteArray) : Decidable (form4 s) := by unfold form4; exact inferInstance
instance (s : ByteArray) : Decidable (sum4 s) := by unfold sum4; exact inferInstance
instance (s : ByteArray) : Decidable (form6 s) := by unfold form6; exact inferInstance
/-- what Parse answers -/
def ipE (s : ByteArray) : Int :=
  if s.size < 1 then 70 else
  if nat s 0 1 / 16 = 4 then (if short4 s then 70 else if form4 s then (if sum4 s then 0 else 72) else 71) else
  if nat s 0 1 / 16 = 6 then (if s.size < 40 then 70 else if form6 s then 0 else 71) else 71
def ipP (s : ByteArray) : Pk := if ipE s = 0 then (if nat s 0 1 / 16 = 4 then pk4 s else pk6 s) else .zero
theorem one_is (s : ByteArray) (h : 1 ≤ s.size) : nat s 0 1 = s[0].toNat := by
  have hl := cutl_length s 0 1 h
  have e : cutl s 0 1 = [s[0]] := by
    apply List.ext_getElem (by rw [hl]; rfl)
    intro i h1 h2
    rw [hl] at h1
    rw [cutl_get s 0 1 i h h1]
    match i, h1 with
    | 0, _ => rfl
  rw [nat, e]
  simp [dec, val]
theorem Answers.to {w : World} {p q : Array Value} {n m : Int} {e : Ending} {w' : World} (h : Answers w p n e w') (h1 : p = q) (h2 : n = m) : Answers w q m e w' := h1 ▸ h2 ▸ h
set_option maxRecDepth 100000 in
set_option maxHeartbeats 3200000 in
theorem parseI_walk (s T : ByteArray) (C : Nat) (w : World) (hsz : s.size ≤ 281474976710656) (h1 : 1 ≤ s.size) (eT : s.extract 0 1 = T) (hT : T.size = 1) (hC : (T[0]'(by omega)).toNat = C) :
    Calls Try.prog 32 #[.string s] w fun e w' => (C / 16 = 4 ∧ (short4 s ∧ Answers w pkZ 70 e w' ∨ ¬ short4 s ∧ ¬ form4 s ∧ Answers w pkZ 71 e w' ∨ ¬ short4 s ∧ form4 s ∧ ¬ sum4 s ∧ Answers w pkZ 72 e w' ∨ ¬ short4 s ∧ form4 s ∧ sum4 s ∧ Answers w (pkC (pk4 s)) 0 e w')) ∨
      (C / 16 = 6 ∧ (s.size < 40 ∧ Answers w pkZ 70 e w' ∨ 40 ≤ s.size ∧ ¬ form6 s ∧ Answers w pkZ 71 e w' ∨ 40 ≤ s.size ∧ form6 s ∧ Answers w (pkC (pk6 s)) 0 e w')) ∨ (C / 16 ≠ 4 ∧ C / 16 ≠ 6 ∧ Answers w pkZ 71 e w') := by
  have hmf := make_func
  have H0 := Lib.hid (PP.new w s)
  have hlt : C < 256 := by rw [← hC]; exact UInt8.toNat_lt _
  go_enter_defers Try.func32, Try.ntmps32
  go_wp2_with fail
  refine (reader_any _ _).mono ?_
  rintro e w0 ⟨rfl, rfl⟩
  go_wp2_with fail
  have N : Calls Try.prog 65 #[.int .i64 1, .pointer (some ⟨w.heap.size + 1 + 1, 0, none⟩)] (((w.alloc (.cells pkZ 56)).alloc (.cells #[.int .i64 0] 28)).alloc (.cells #[.string s] 9)) fun e w' => e = .returned (.string T) ∧ PP w w' := by
    have hbx : Blk (((w.alloc (.cells pkZ 56)).alloc (.cells #[.int .i64 0] 28)).alloc (.cells #[.string s] 9)) (w.heap.size + 1 + 1) 9 #[.string s] := by
      have := Blk.new ((w.alloc (.cells pkZ 56)).alloc (.cells #[.int .i64 0] 28)) 9 #[.string s]
      simpa using this
    refine (next_ok (w.heap.size + 1 + 1) s 1 _ h1 (hbx.cell 0) (hbx.frozen 0)).mono fun e w' ⟨he, hw⟩ => ⟨by rw [he, eT], hw ▸ H0.out.box _⟩
  refine N.mono ?_
  clear N
  rintro e w1 ⟨rfl, h1'⟩
  obtain ⟨⟨r0, r1, r2, r3, r4, r5, r6, r7, r8, r9, r10, r11⟩, re, fr, fe⟩ := h1'.cells
  by_cases q4 : C / 16 = 4
  · have q4' : ((C : Int) / 16 == 4) = true := by simpa using (by omega : (C : Int) / 16 = 4)
    have A' : ∀ W, Calls Try.prog 50 #[.string s] W fun e w' => P4 s W e w' := fun W => parse4_any s W hsz
    simp only [P4, Answers, pkZ, pkL, pkC, pk4] at A'
    have A := Lib.hid A'
    clear A'
    go_wp2_with fail
    refine (A.out _).mono ?_
    rintro e w2 (⟨hs, rfl, hq⟩ | ⟨hs, hf, rfl, hq⟩ | ⟨hs, hf, hm, rfl, hq⟩ | ⟨hs, hf, hm, rfl, hq⟩)
    · refine doorI_panic w w2 _ ?_ ?_ (h1'.next hq) ?_
      · rfl
      · rfl
      · exact fun e w' h => .inl ⟨q4, .inl ⟨hs, h⟩⟩
    · have h2 := h1'.next hq
      clear hq
      clear r0 r1 r2 r3 r4 r5 r6 r7 r8 r9 r10 r11 re fr fe
      obtain ⟨⟨r0, r1, r2, r3, r4, r5, r6, r7, r8, r9, r10, r11⟩, re, fr, fe⟩ := h2.cells
      go_wp2_with fail
      refine doorI_ret w _ _ ?_ ?_ (h2.ret 0 ⟨#[]⟩ ⟨#[]⟩ 0 0 0 0 0 0 0 ⟨#[]⟩ ⟨#[]⟩ 71) ?_
      · rfl
      · rfl
      · exact fun e w' h => .inl ⟨q4, .inr (.inl ⟨hs, hf, h⟩)⟩
    · have h2 := h1'.next hq
      clear hq
      clear r0 r1 r2 r3 r4 r5 r6 r7 r8 r9 r10 r11 re fr fe
      obtain ⟨⟨r0, r1, r2, r3, r4, r5, r6, r7, r8, r9, r10, r11⟩, re, fr, fe⟩ := h2.cells
      go_wp2_with fail
      refine doorI_ret w _ _ ?_ ?_ (h2.ret 0 ⟨#[]⟩ ⟨#[]⟩ 0 0 0 0 0 0 0 ⟨#[]⟩ ⟨#[]⟩ 72) ?_
      · rfl
      · rfl
      · exact fun e w' h => .inl ⟨q4, .inr (.inr (.inl ⟨hs, hf, hm, h⟩))⟩
    · have h2 := h1'.next hq
      clear hq
      clear r0 r1 r2 r3 r4 r5 r6 r7 r8 r9 r10 r11 re fr fe
      obtain ⟨⟨r0, r1, r2, r3, r4, r5, r6, r7, r8, r9, r10, r11⟩, re, fr, fe⟩ := h2.cells
      go_wp2_with fail
      refine doorI_ret w _ _ ?_ ?_ (h2.ret 4 (s.extract 12 16) (s.extract 16 20) (nat s 9 1) (nat s 8 1) (nat s 1 1) (nat s 4 2) (nat s 6 2 / 8192) (nat s 6 2 % 8192) 0 (s.extract 20 (n4 s)) (s.extract (n4 s) s.size) 0) ?_
      · rfl
      · rfl
      · exact fun e w' h => .inl ⟨q4, .inr (.inr (.inr ⟨hs, hf, hm, h⟩))⟩
  · have q4' : ((C : Int) / 16 == 4) = false := by simpa using (by omega : (C : Int) / 16 ≠ 4)
    by_cases q6 : C / 16 = 6
    · have q6' : ((C : Int) / 16 == 6) = true := by simpa using (by omega : (C : Int) / 16 = 6)
      have A' : ∀ W, Calls Try.prog 51 #[.string s] W fun e w' => P6 s W e w' := fun W => parse6_any s W hsz
      simp only [P6, Answers, pkZ, pkL, pkC, pk6] at A'
      have A := Lib.hid A'
      clear A'
      go_wp2_with fail
      refine (A.out _).mono ?_
      rintro e w2 (⟨hs, rfl, hq⟩ | ⟨hs, hf, rfl, hq⟩ | ⟨hs, hf, rfl, hq⟩)
      · refine doorI_panic w w2 _ ?_ ?_ (h1'.next hq) ?_
        · rfl
        · rfl
        · exact fun e w' h => .inr (.inl ⟨q6, .inl ⟨hs, h⟩⟩)
      · have h2 := h1'.next hq
        clear hq
        clear r0 r1 r2 r3 r4 r5 r6 r7 r8 r9 r10 r11 re fr fe
        obtain ⟨⟨r0, r1, r2, r3, r4, r5, r6, r7, r8, r9, r10, r11⟩, re, fr, fe⟩ := h2.cells
        go_wp2_with fail
        refine doorI_ret w _ _ ?_ ?_ (h2.ret 0 ⟨#[]⟩ ⟨#[]⟩ 0 0 0 0 0 0 0 ⟨#[]⟩ ⟨#[]⟩ 71) ?_
        · rfl
        · rfl
        · exact fun e w' h => .inr (.inl ⟨q6, .inr (.inl ⟨hs, hf, h⟩)⟩)
      · have h2 := h1'.next hq
        clear hq
        clear r0 r1 r2 r3 r4 r5 r6 r7 r8 r9 r10 r11 re fr fe
        obtain ⟨⟨r0, r1, r2, r3, r4, r5, r6, r7, r8, r9, r10, r11⟩, re, fr, fe⟩ := h2.cells
        go_wp2_with fail
        refine doorI_ret w _ _ ?_ ?_ (h2.ret 6 (s.extract 8 24) (s.extract 24 40) (nat s 6 1) (nat s 7 1) ((nat s 0 4 : Int) / 1048576 % 256) 0 0 0 ((nat s 0 4 : Int) % 1048576) ⟨#[]⟩ (s.extract 40 s.size) 0) ?_
        · rfl
        · rfl
        · exact fun e w' h => .inr (.inl ⟨q6, .inr (.inr ⟨hs, hf, h⟩)⟩)
    · have q6' : ((C : Int) / 16 == 6) = false := by simpa using (by omega : (C : Int) / 16 ≠ 6)
      go_wp2_with fail
      refine doorI_ret w _ _ ?_ ?_ (h1'.ret 0 ⟨#[]⟩ ⟨#[]⟩ 0 0 0 0 0 0 0 ⟨#[]⟩ ⟨#[]⟩ 71) ?_
      · rfl
      · rfl
      · exact fun e w' h => .inr (.inr ⟨q4, q6, h⟩)
set_option maxRecDepth 100000 in
set_option maxHeartbeats 1600000 in
theorem parseI_empty (s : ByteArray) (w : World) (h1 : s.size < 1) : Calls Try.prog 32 #[.string s] w (Answers w pkZ 70) := by
  have hmf := make_func
  have H0 := Lib.hid (PP.new w s)
  go_enter_defers Try.func32, Try.ntmps32
  go_wp2_with fail
  refine (reader_any _ _).mono ?_
  rintro e w0 ⟨rfl, rfl⟩
  go_wp2_with fail
  have N : Calls Try.prog 65 #[.int .i64 1, .pointer (some ⟨w.heap.size + 1 + 1, 0, none⟩)] (((w.alloc (.cells pkZ 56)).alloc (.cells #[.int .i64 0] 28)).alloc (.cells #[.string s] 9)) fun e w' => e = .panicked [{ v := shortI, recovered := false }] ∧ PP w w' := by
    have hbx : Blk (((w.alloc (.cells pkZ 56)).alloc (.cells #[.int .i64 0] 28)).alloc (.cells #[.string s] 9)) (w.heap.size + 1 + 1) 9 #[.string s] := by
      have := Blk.new ((w.alloc (.cells pkZ 56)).alloc (.cells #[.int .i64 0] 28)) 9 #[.string s]
      simpa using this
    exact (next_short (w.heap.size + 1 + 1) s 1 _ h1 (hbx.cell 0)).mono fun e w' ⟨he, hw⟩ => ⟨he, hw ▸ H0.out⟩
  refine N.mono ?_
  rintro e w1 ⟨rfl, h1'⟩
  refine doorI_panic w w1 _ ?_ ?_ h1' ?_
  · rfl
  · rfl
  · exact fun e w' h => h
theorem ip_say {w : World} {s : ByteArray} {p : Pk} {n : Int} {e : Ending} {w' : World} (h : Answers w (pkC p) n e w') (hp : ipP s = p) (hn : ipE s = n) : e = .returned (.tuple #[(ipP s).val, .int .i64 (ipE s)]) ∧ Below w.heap.size w w' := by
  rw [hp, hn]; exact h
theorem parseI_any (s : ByteArray) (w : World) (hsz : s.size ≤ 281474976710656) :
    Calls Try.prog 32 #[.string s] w fun e w' => e = .returned (.tuple #[(ipP s).val, .int .i64 (ipE s)]) ∧ Below w.heap.size w w' := by
  by_cases h1 : s.size < 1
  · have e1 : ipE s = 70 := by rw [ipE, if_pos h1]
    exact (parseI_empty s w h1).mono fun e w' h => ip_say (p := .zero) h (by rw [ipP, e1]; rfl) e1
  · have hT : (s.extract 0 1).size = 1 := by simp [ByteArray.size_extract]; omega
    have hb : ((s.extract 0 1)[0]'(by omega)).toNat = s[0].toNat := by rw [ByteArray.getElem_extract]
    refine (parseI_walk s _ s[0].toNat w hsz (by omega) rfl hT hb).mono fun e w' h => ?_
    have hC := one_is s (by omega)
    rcases h with ⟨q, ⟨a, h⟩ | ⟨a, b, h⟩ | ⟨a, b, c, h⟩ | ⟨a, b, c, h⟩⟩ | ⟨q, ⟨a, h⟩ | ⟨a, b, h⟩ | ⟨a, b, h⟩⟩ | ⟨q, q', h⟩
    · have e1 : ipE s = 70 := by rw [ipE, if_neg h1, hC, if_pos q, if_pos a]
      exact ip_say (p := .zero) h (by rw [ipP, e1]; rfl) e1
    · have e1 : ipE s = 71 := by rw [ipE, if_neg h1, hC, if_pos q, if_neg a, if_neg b]
      exact ip_say (p := .zero) h (by rw [ipP, e1]; rfl) e1
    · have e1 : ipE s = 72 := by rw [ipE, if_neg h1, hC, if_pos q, if_neg a, if_pos b, if_neg c]
      exact ip_say (p := .zero) h (by rw [ipP, e1]; rfl) e1
    · have e1 : ipE s = 0 := by rw [ipE, if_neg h1, hC, if_pos q, if_neg a, if_pos b, if_pos c]
      exact ip_say h (by rw [ipP, if_pos e1, hC, if_pos q]) e1
    · have e1 : ipE s = 70 := by rw [ipE, if_neg h1, hC, if_neg (by omega), if_pos q, if_pos a]
      exact ip_say (p := .zero) h (by rw [ipP, e1]; rfl) e1
    · have e1 : ipE s = 71 := by rw [ipE, if_neg h1, hC, if_neg (by omega), if_pos q, if_neg (by omega), if_neg b]
      exact ip_say (p := .zero) h (by rw [ipP, e1]; rfl) e1
    · have e1 : ipE s = 0 := by rw [ipE, if_neg h1, hC, if_neg (by omega), if_pos q, if_neg (by omega), if_pos b]
      exact ip_say h (by rw [ipP, if_pos e1, hC, if_neg (by omega)]) e1
    · have e1 : ipE s = 71 := by rw [ipE, if_neg h1, hC, if_neg q, if_neg q']
      exact ip_say (p := .zero) h (by rw [ipP, e1]; rfl) e1
end Go.Proofs.Ytpjndjmneficbaa
