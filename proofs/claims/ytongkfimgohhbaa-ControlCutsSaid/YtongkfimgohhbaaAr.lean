/-
  control.areRules: may rules be, and are their queues there? no condition.
-/
import Derived.Test.YtongkfimgohhbaaSck
import Derived.Shelf.SlicesE.IndexFunc
import Derived.BigQuiet
namespace Go.Proofs.Ytongkfimgohhbaa
open Go.RowKit Go.Shelf

def lcont_ren : Go.Shelf.Ren := ⟨fun | 8 => 83 | 6 => 93 | n => n, fun | 22 => 23 | 23 => 3 | 25 => 98 | 4 => 4 | 3 => 3 | 0 => 0 | n => n, fun | n => n⟩
theorem lcont : Go.Proofs.SlLaysH.n8 Try.prog lcont_ren := {
  mixed := by kernel_rfl
  f6 := ⟨Try.f93.name, by decide, Try.func93.trans (congrArg some (by kernel_rfl))⟩
  f8 := ⟨Try.f83.name, by decide, Try.func83.trans (congrArg some (by kernel_rfl))⟩
  t0 := Try.underlying0
  a0 := Try.isAgg0
  z0 := Try.sizeOf0
  v0 := Try.zeroValue0
  t3 := Try.underlying3
  a3 := Try.isAgg3
  z3 := Try.sizeOf3
  v3 := Try.zeroValue3
  t4 := Try.underlying4
  a4 := Try.isAgg4
  z4 := Try.sizeOf4
  v4 := Try.zeroValue4
  t22 := Try.underlying23
  a22 := Try.isAgg23
  z22 := Try.sizeOf23
  v22 := Try.zeroValue23
  a23 := Try.isAgg3
  z23 := Try.sizeOf3
  t25 := Try.underlying98
  a25 := Try.isAgg98
  z25 := Try.sizeOf98
  v25 := Try.zeroValue98 }

theorem Rd.tab {B : Nat} {A : Option Addr} {L : List Int} {w : World} (h : Rd B A (L.map intV) w) (hB : B ≤ w.heap.size) : Rs.Tab A L w := by
  intro hn
  obtain ⟨b, off, hA, hlt, hc⟩ := h (by rw [List.length_map]; exact hn)
  refine ⟨b, off, hA, by omega, fun i hi => ?_⟩
  have := hc i (by rw [List.length_map]; exact hi)
  simpa [intV] using this
theorem great_at (m : Int) (B : Nat) (w : World) (hB : B < w.heap.size) (hcell : w.cell? ⟨B, 0, none⟩ = some (.int .i64 m)) :
    PredAt Try.prog 81 #[.pointer (some ⟨B, 0, none⟩)] (Value.int .i64) (fun x => decide (m ≤ x)) w := fun W x hb => by
  have hc : W.cell? ⟨B, 0, none⟩ = some (.int .i64 m) := (hb.cell (p := ⟨B, 0, none⟩) hB).trans hcell
  show Calls Try.prog 81 #[.int .i64 x, .pointer (some ⟨B, 0, none⟩)] W fun e w' => e = .returned (.bool (decide (m ≤ x))) ∧ ∃ q, w' = W.drewN q
  clear hb hcell
  by_cases h : m ≤ x
  · have e : decide (m ≤ x) = true := by simpa using h
    rw [e]
    go_enter Try.func81, Try.ntmps81
    go_wp2
    go_ret
    exact ⟨rfl, 0, rfl⟩
  · have e : decide (m ≤ x) = false := by simpa using h
    rw [e]
    go_enter Try.func81, Try.ntmps81
    go_wp2
    go_ret
    exact ⟨rfl, 0, rfl⟩
theorem cont_any (m : Int) (g : Nat) (A : Option Addr) (c : Nat) (L : List Int) (w : World) (hg : g < w.heap.size) (hcell : w.cell? ⟨g, 0, none⟩ = some (.int .i64 m)) (h : Rs.Tab A L w) (hl : L.length ≤ 600) :
    Calls Try.prog 83 #[.slice A L.length c, .func (.func 81) #[] #[.pointer (some ⟨g, 0, none⟩)]] w fun e w' => e = .returned (.bool (L.any fun x => decide (m ≤ x))) ∧ Below w.heap.size w w' := by
  by_cases h0 : 0 < L.length
  · obtain ⟨b, off, rfl, hlt, hc⟩ := h h0
    have eg : ∀ args w, (callFunc 81 args).run Try.prog w = .ok (.enter 81 args) w := enters_of Try.func81 (by kernel_rfl) rfl
    have := AnyE.slices_ContainsFunc lcont (Value.int .i64) (fun x => decide (m ≤ x)) 81 #[.pointer (some ⟨g, 0, none⟩)] eg b off L.length c L w (great_at m g w hg hcell) (Nat.le_refl _) (by omega) (fun j hj => by
      have := hc j hj
      rw [this]
      simp [hj])
    rw [List.take_length] at this
    exact this.mono fun e w' ⟨he, q, hw⟩ => ⟨he, hw ▸ below_drewN (Below.refl _ _) q⟩
  · obtain rfl : L = [] := List.eq_nil_of_length_eq_zero (by omega)
    exact (AnyE.slices_ContainsFunc_empty lcont A c _ w).mono fun e w' ⟨he, hw⟩ => ⟨he, hw ▸ Below.refl _ _⟩
theorem great_one (m : Int) (B : Nat) (x : Int) (W : World) (hc : W.cell? ⟨B, 0, none⟩ = some (.int .i64 m)) :
    Calls Try.prog 81 #[.int .i64 x, .pointer (some ⟨B, 0, none⟩)] W fun e w' => e = .returned (.bool (decide (m ≤ x))) ∧ W = w' := by
  by_cases h : m ≤ x
  · have e : decide (m ≤ x) = true := by simpa using h
    rw [e]
    go_enter Try.func81, Try.ntmps81
    go_wp2
    go_ret
    exact ⟨rfl, rfl⟩
  · have e : decide (m ≤ x) = false := by simpa using h
    rw [e]
    go_enter Try.func81, Try.ntmps81
    go_wp2
    go_ret
    exact ⟨rfl, rfl⟩
theorem bt2' {w w1 w2 : World} (h : Below w.heap.size w w1) (g : Below w1.heap.size w1 w2) : Below w.heap.size w w2 := h.trans (g.mono h.size)
theorem Blk.next1 {w w1 : World} {g : Nat} {t : TypeId} {cs : Array Value} (h : Blk w g t cs) (hq : Below w.heap.size w w1) : Blk w1 g t cs := h.same (hq.block _ h.lt)
/-- may rules be, where there are at most so many pairs? -/
def areB (k : Int) (L : List Int) (x : ByteArray) (d m : Int) : Bool := Rs.rulesB k L x d && !(L.any fun q => decide (m ≤ q)) && !decide (m ≤ d)
theorem are_any (k : Int) (A : Option Addr) (c : Nat) (L : List Int) (x : ByteArray) (d m : Int) (w : World) (h : Rs.Tab A L w) (hl : L.length ≤ 600) :
    Calls Try.prog 69 #[.agg #[.int .i64 k, .slice A L.length c, .string x, .int .i64 d], .int .i64 m] w fun e w' => e = .returned (.bool (areB k L x d m)) ∧ Below w.heap.size w w' := by
  have C1 := fun W (hb : Below w.heap.size w W) => Rs.check_any k A c L x d W (h.below hb)
  have C2 := fun g W (hb : Below w.heap.size w W) (hg : g < W.heap.size) (hc : W.cell? ⟨g, 0, none⟩ = some (.int .i64 m)) => cont_any m g A c L W hg hc (h.below hb) hl
  have C3 := fun g W (hc : W.cell? ⟨g, 0, none⟩ = some (.int .i64 m)) => great_one m g d W hc
  have hB1 : Below w.heap.size w ((w.alloc (.cells #[.int .i64 k, .slice A L.length c, .string x, .int .i64 d] 27)).alloc (.cells #[.int .i64 m] 3)) := ba (ba (b0 w) _) _
  have k0 : Blk ((w.alloc (.cells #[.int .i64 k, .slice A L.length c, .string x, .int .i64 d] 27)).alloc (.cells #[.int .i64 m] 3)) w.heap.size 27 #[.int .i64 k, .slice A L.length c, .string x, .int .i64 d] := (Blk.new w 27 _).alloc _
  have k1 : Blk ((w.alloc (.cells #[.int .i64 k, .slice A L.length c, .string x, .int .i64 d] 27)).alloc (.cells #[.int .i64 m] 3)) (w.heap.size + 1) 3 #[.int .i64 m] := by
    have := Blk.new (w.alloc (.cells #[.int .i64 k, .slice A L.length c, .string x, .int .i64 d] 27)) 3 #[.int .i64 m]
    simpa using this
  unfold areB
  unfold Rs.checkV at C1
  have H1 := Lib.hid C1
  have H2 := Lib.hid C2
  have H3 := Lib.hid C3
  have HB := Lib.hid hB1
  have K0 := Lib.hid k0
  have K1 := Lib.hid k1
  clear C1 C2 C3 hB1 h hl k0 k1
  generalize (L.any fun q => decide (m ≤ q)) = any at *
  generalize Rs.rulesB k L x d = ru at *
  generalize hge : decide (m ≤ d) = ge at *
  clear hge
  cases ru
  · go_enter Try.func69, Try.ntmps69
    go_wp2_with (go_at_call 82; (refine (H1.out _ HB.out).mono ?_); rintro e w1 ⟨rfl, hq⟩; have hb1 := Lib.hid (bt2' HB.out hq); clear hq)
    go_ret
    exact ⟨rfl, hb1.out⟩
  · go_enter Try.func69, Try.ntmps69
    go_wp2_with fail
    refine (H1.out _ HB.out).mono ?_
    rintro e w1 ⟨rfl, hq⟩
    have hb1 := bt2' HB.out hq
    have k2 := K0.out.next1 hq
    have k3 := K1.out.next1 hq
    have c1 := k2.cell 1
    have c3 := k2.cell 3
    simp only [List.getElem?_toArray, List.getElem?_cons_zero, List.getElem?_cons_succ] at c1 c3
    have d0 := k3.cell 0
    simp only [List.getElem?_toArray, List.getElem?_cons_zero] at d0
    have hz := k3.lt
    have HD := Lib.hid d0
    have HB1 := Lib.hid hb1
    have K2 := Lib.hid k2
    have K3 := Lib.hid k3
    clear hq hb1 k2 k3 d0 H1 HB K0 K1
    cases any
    · go_wp2_with fail
      refine (H2.out _ _ HB1.out hz HD.out).mono ?_
      rintro e w2 ⟨rfl, hq⟩
      have hb2 := bt2' HB1.out hq
      have k4 := K2.out.next1 hq
      have k5 := K3.out.next1 hq
      have c3 := k4.cell 3
      simp only [List.getElem?_toArray, List.getElem?_cons_zero, List.getElem?_cons_succ] at c3
      have d0 := k5.cell 0
      simp only [List.getElem?_toArray, List.getElem?_cons_zero] at d0
      have HE := Lib.hid d0
      have HB2 := Lib.hid hb2
      clear hq hb2 k4 k5 d0
      go_wp2_with fail
      refine (H3.out _ _ HE.out).mono ?_
      rintro e w3 ⟨rfl, rfl⟩
      cases ge
      · go_wp2
        go_ret
        exact ⟨rfl, HB2.out⟩
      · go_wp2
        go_ret
        exact ⟨rfl, HB2.out⟩
    · go_wp2_with fail
      refine (H2.out _ _ HB1.out hz HD.out).mono ?_
      rintro e w2 ⟨rfl, hq⟩
      have HB2 := Lib.hid (bt2' HB1.out hq)
      clear hq
      go_wp2
      go_ret
      exact ⟨rfl, HB2.out⟩
end Go.Proofs.Ytongkfimgohhbaa
