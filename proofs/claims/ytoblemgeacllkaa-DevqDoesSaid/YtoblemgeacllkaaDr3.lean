/-
  The document's ring: the descriptors of a chain, or too many; no condition beyond the numbers' sizes.
-/
import Derived.Test.YtoblemgeacllkaaDr2
namespace Go.Proofs.Ytoblemgeacllkaa
open Go.RowKit

theorem own_put {w : World} {B e size n : Nat} {v : Value} {xs : List Value} (h : w.ownsRow B e size v n xs) {k : Nat} (hk : ∀ g, v.ownBlock = some g → g ≠ k) (i : Nat) (u : Value) : (w.setCell ⟨k, i, none⟩ u).ownsRow B e size v n xs :=
  own_same h fun g hg => Below.heap_setCell w _ u g (hk g hg)
/-- what a reading call of the document's has made so far: a slice of descriptors, a place -/
structure RL (gx gk : Nat) (q : Qs) (xs : List UInt8) (w : World) (K : Nat) (s : Value) (l : List De) (a : Nat) (v : Bool) (W : World) : Prop where
  rq : Rq gx gk q xs w
  b : Below w.heap.size w W
  own : W.ownsRow w.heap.size 35 4 s l.length (desCells l)
  at_ : Blk W K 46 #[.int .i64 (a : Int), .bool v]
  ge : w.heap.size ≤ K
section
variable {gx gk : Nat} {q : Qs} {xs : List UInt8} {w W W' : World} {K : Nat} {s : Value} {l : List De} {a : Nat} {v : Bool}
theorem RL.next (h : RL gx gk q xs w K s l a v W) (hq : Below W.heap.size W W') : RL gx gk q xs w K s l a v W' :=
  ⟨h.rq, b0 h.b hq, own_same h.own (fun k hk => hq.block k (h.own.lt k hk).2), h.at_.same (hq.block _ h.at_.lt), h.ge⟩
theorem RL.drew (h : RL gx gk q xs w K s l a v W) : RL gx gk q xs w K s l a v W.drew := h.next (Below.refl _ _).drew
theorem RL.alloc (h : RL gx gk q xs w K s l a v W) (o : Obj) : RL gx gk q xs w K s l a v (W.alloc o) := h.next (ba (Below.refl _ _) _)
theorem RL.r (h : RL gx gk q xs w K s l a v W) : Rq gx gk q xs W := h.rq.below h.b
theorem RL.put (h : RL gx gk q xs w K s l a v W) {k : Nat} (hk : w.heap.size ≤ k) (hK : K ≠ k) (hs : ∀ g, s.ownBlock = some g → g ≠ k) (i : Nat) (u : Value) : RL gx gk q xs w K s l a v (W.setCell ⟨k, i, none⟩ u) :=
  ⟨h.rq, h.b.setCell hk u, own_put h.own hs i u, h.at_.other hK i u, h.ge⟩
/-- the place is another one -/
theorem RL.move (h : RL gx gk q xs w K s l a v W) (a' : Nat) (v' : Bool) : RL gx gk q xs w K s l a' v' ((W.setCell ⟨K, 0, none⟩ (.int .i64 (a' : Int))).setCell ⟨K, 1, none⟩ (.bool v')) := by
  obtain ⟨hb, hk⟩ := put2B h.b h.at_ h.ge (.int .i64 (a' : Int)) (.bool v')
  have hne : ∀ g, s.ownBlock = some g → g ≠ K := fun g hg e => own_ne h.own h.at_ (by decide) (e ▸ hg)
  exact ⟨h.rq, hb, own_put (own_put h.own hne 0 _) hne 1 _, hk, h.ge⟩
/-- .. with a descriptor in a variable of the round's -/
structure RD (gx gk : Nat) (q : Qs) (xs : List UInt8) (w : World) (K : Nat) (s : Value) (l : List De) (a : Nat) (v : Bool) (D : Nat) (d : De) (W : World) : Prop where
  rl : RL gx gk q xs w K s l a v W
  blk : Blk W D 35 #[.int .u64 (d.a : Int), .int .u32 (d.n : Int), .int .i64 (d.id : Int), .int .i64 (d.f : Int)]
  ge : w.heap.size ≤ D
def RF (gx gk : Nat) (q : Qs) (xs : List UInt8) (w : World) (K : Nat) (s : Value) (l : List De) (a : Nat) (v : Bool) (W0 W : World) : Prop :=
  (W.cell? ⟨gx, 1, none⟩ = some (.int .i64 (q.ring : Int)) ∧ W.cell? ⟨K, 0, none⟩ = some (.int .i64 (a : Int))) ∧ RL gx gk q xs w K s l a v W ∧ Below W0.heap.size W0 W
theorem RF.of (h : RL gx gk q xs w K s l a v W) {W0 : World} (hb : Below W0.heap.size W0 W) : RF gx gk q xs w K s l a v W0 W := ⟨⟨h.r.blk.cell 1, h.at_.cell 0⟩, h, hb⟩
theorem RF.next {W0 : World} (h : RF gx gk q xs w K s l a v W0 W) (hq : Below W.heap.size W W') : RF gx gk q xs w K s l a v W0 W' := RF.of (h.2.1.next hq) (b0 h.2.2 hq)
theorem RF.alloc {W0 : World} (h : RF gx gk q xs w K s l a v W0 W) (o : Obj) : RF gx gk q xs w K s l a v W0 (W.alloc o) := h.next (ba (Below.refl _ _) _)
theorem RF.drew {W0 : World} (h : RF gx gk q xs w K s l a v W0 W) : RF gx gk q xs w K s l a v W0 W.drew := h.next (Below.refl _ _).drew
theorem RF.rr {W0 : World} (h : RF gx gk q xs w K s l a v W0 W) : Rq gx gk q xs W := h.2.1.r
theorem RF.stored {W0 : World} (h : RF gx gk q xs w K s l a v W0 W) {k : Nat} {a0 a1 a2 a3 : Value} (hk : Blk W k 35 #[a0, a1, a2, a3]) (h0 : W0.heap.size ≤ k) (hw : w.heap.size ≤ W0.heap.size) (hK : K < W0.heap.size) (hs : ∀ g, s.ownBlock = some g → g < W0.heap.size) (b0 b1 b2 b3 : Value) :
    RF gx gk q xs w K s l a v W0 ((((W.setCell ⟨k, 0, none⟩ b0).setCell ⟨k, 1, none⟩ b1).setCell ⟨k, 2, none⟩ b2).setCell ⟨k, 3, none⟩ b3) ∧ Blk ((((W.setCell ⟨k, 0, none⟩ b0).setCell ⟨k, 1, none⟩ b1).setCell ⟨k, 2, none⟩ b2).setCell ⟨k, 3, none⟩ b3) k 35 #[b0, b1, b2, b3] := by
  obtain ⟨hb, hn⟩ := put4B h.2.2 hk h0 b0 b1 b2 b3
  have a1 : K ≠ k := by omega
  have a2 : ∀ g, s.ownBlock = some g → g ≠ k := fun g hg => by have := hs g hg; omega
  exact ⟨RF.of ((((h.2.1.put (by omega) a1 a2 0 b0).put (by omega) a1 a2 1 b1).put (by omega) a1 a2 2 b2).put (by omega) a1 a2 3 b3) hb, hn⟩
theorem RF.store4 {W0 : World} (h : RF gx gk q xs w K s l a v W0 W) {k : Nat} {a0 a1 a2 a3 : Value} (hk : Blk W k 35 #[a0, a1, a2, a3]) (h0 : W0.heap.size ≤ k) (hw : w.heap.size ≤ W0.heap.size) (hK : K < W0.heap.size) (hs : ∀ g, s.ownBlock = some g → g < W0.heap.size) (b0 b1 b2 b3 : Value) :
    RF gx gk q xs w K s l a v W0 ((((W.setCell ⟨k, 0, none⟩ b0).setCell ⟨k, 1, none⟩ b1).setCell ⟨k, 2, none⟩ b2).setCell ⟨k, 3, none⟩ b3) := (h.stored hk h0 hw hK hs b0 b1 b2 b3).1
end
theorem RL.grown {gx gk : Nat} {q : Qs} {xs : List UInt8} {w W W' : World} {K : Nat} {s s' : Value} {l : List De} {a : Nat} {v : Bool} {d : De} (h : RL gx gk q xs w K s l a v W) (hown : W'.ownsRow w.heap.size 35 4 s' (l.length + 1) (desCells l ++ De.cells d)) (hg : W.grownBy W' s.ownBlock) : RL gx gk q xs w K s' (l ++ [d]) a v W' := by
  refine ⟨h.rq, h.b.grown hg h.b.size (fun k hk => (h.own.lt k hk).1), ?_, h.at_.grown h.own hg (by decide), h.ge⟩
  rw [desCells_append, List.length_append]
  have e : desCells [d] = De.cells d := by simp [desCells]
  rw [e]
  exact hown
theorem own_drewN {w : World} {B e size n : Nat} {v : Value} {xs : List Value} (h : w.ownsRow B e size v n xs) (k : Nat) : (w.drewN k).ownsRow B e size v n xs := own_same h fun _ _ => rfl
theorem empty_row (w : World) (B e size : Nat) (hB : B ≤ w.heap.size) : (w.alloc (.cells #[] e)).ownsRow B e size (.slice (some ⟨w.heap.size, 0, none⟩) 0 0) 0 [] :=
  ⟨by simp, .inr ⟨w.heap.size, 0, #[], rfl, hB, heap_alloc_new w _, Nat.le_refl _, Nat.zero_le _, by simp, by simp⟩⟩
theorem empty_row2 (w : World) (o : Obj) (e size : Nat) : ((w.alloc o).alloc (.cells #[] e)).ownsRow w.heap.size e size (.slice (some ⟨w.heap.size + 1, 0, none⟩) 0 0) 0 [] := by
  have := empty_row (w.alloc o) w.heap.size e size (by simp)
  have e : (w.alloc o).heap.size = w.heap.size + 1 := by simp
  rw [e] at this
  exact this
/-- what ring answers -/
def RingP (w : World) (V : Option (List De)) (e : Ending) (w' : World) : Prop :=
  Below w.heap.size w w' ∧ ∃ (A : Option Addr) (cap : Nat) (l : List De), (match V with | some r => e = .returned (.tuple #[.slice A l.length cap, .bool true]) ∧ l = r | none => e = .returned (.tuple #[.slice A l.length cap, .bool false])) ∧ w'.ownsRow w.heap.size 35 4 (.slice A l.length cap) l.length (desCells l)
set_option maxRecDepth 100000 in
set_option maxHeartbeats 3200000 in
theorem ring_any {gx gk : Nat} {q : Qs} {xs : List UInt8} {w : World} (h : Rq gx gk q xs w) (hq : q.Ok xs.length) (hout : q.out < q.size) :
    Calls Try.prog 68 #[.pointer (some ⟨gx, 0, none⟩)] w (RingP w (ringV xs q)) := by
  obtain ⟨i0, hi, hz0, hz1, hz2⟩ := info_parts Try.info35
  have HI := Lib.hid hi
  have HZ0 := Lib.hid hz0
  have HZ1 := Lib.hid hz1
  have HZ2 := Lib.hid hz2
  clear hi hz0 hz1 hz2
  have H := Lib.hid h
  have HQ := Lib.hid hq
  have p5 : w.cell? ⟨gx, 5, none⟩ = some (.int .i64 (q.na : Int)) := h.blk.cell 5
  have p6 : w.cell? ⟨gx, 6, none⟩ = some (.bool q.nw) := h.blk.cell 6
  have hlt := h.lt
  have hne := Nat.ne_of_lt hlt
  obtain ⟨M, hM, hM1, hM2⟩ : ∃ M, allowed q = M ∧ 1 ≤ M ∧ M ≤ 64 := ⟨_, rfl, by unfold allowed; omega, by unfold allowed; omega⟩
  obtain ⟨V, hV⟩ : ∃ V, ringV xs q = V := ⟨_, rfl⟩
  rw [hV]
  have hV0 : ringGo xs q.ring q.size (M - 1) q.na [] (deAt xs (q.ring + 16 * q.na)) = V := by rw [← hV, ← hM]; rfl
  have HV := Lib.hid hV0
  have HM := Lib.hid hM
  have HO := Lib.hid hout
  clear h hq hV hV0 hM hout
  go_enter Try.func68, Try.ntmps68
  go_wp2_with fail
  go_region
  · have R1 : RL gx gk q xs w (w.heap.size + 1) (.slice (some ⟨w.heap.size, 0, none⟩) 0 0) [] q.na q.nw (((w.alloc (.cells #[] 35)).alloc (.cells #[.int .i64 (q.na : Int), .bool q.nw] 46)).drew) :=
      ⟨H.out, (ba (ba (Below.refl _ _) _) _).drew, (((empty_row w w.heap.size 35 4 (Nat.le_refl _)).alloc _).drew : _), (Sp.Blk.new2 w _ 46 _).drew, by omega⟩
    obtain ⟨W1, hW1⟩ : ∃ W1, ((w.alloc (.cells #[] 35)).alloc (.cells #[.int .i64 (q.na : Int), .bool q.nw] 46)).drew = W1 := ⟨_, rfl⟩
    obtain ⟨K, hK⟩ : ∃ K, w.heap.size + 1 = K := ⟨_, rfl⟩
    rw [hW1] at R1 ⊢
    rw [hK] at R1 ⊢
    clear hW1 hK p5 p6 hlt hne
    go_wp2_with fail
    go_loopw [4] (fun s wr => ∃ l f a v, RL gx gk q xs w K s l a v wr ∧ ringGo xs q.ring q.size f a l (deAt xs (q.ring + 16 * a)) = V ∧ l.length + 1 + f = M ∧ a < q.size) (fun s _ => M - lenV s)
    case atStart => exact ⟨[], M - 1, q.na, q.nw, R1, HV.out, by simp; omega, HQ.out.na⟩
    case round =>
      obtain ⟨l, f, a, v, R2, hgo, hsum, hal⟩ := hrel
      obtain ⟨A, cap, rfl⟩ := own_form R2.own
      have hx := R2.rq.len
      have hr := HQ.out.r
      have hs2 := HQ.out.s2
      have hF0 := RF.of R2 (Below.refl wr.heap.size wr)
      have e1 : (16 : Int) * (a : Int) = ((16 * a : Nat) : Int) := by omega
      obtain ⟨b, hb⟩ : ∃ b, 16 * a = b := ⟨_, rfl⟩
      rw [hb] at e1
      have e2 : (q.ring : Int) + (b : Int) = ((q.ring + 16 * a : Nat) : Int) := by omega
      obtain ⟨n, hn⟩ : ∃ n, q.ring + 16 * a = n := ⟨_, rfl⟩
      rw [hn] at e2 hgo
      have v1 : IntKind.i64.wrap (b : Int) = (b : Int) := by rw [IntKind.wrap_i64]; omega
      have v2 : IntKind.i64.wrap (n : Int) = (n : Int) := by rw [IntKind.wrap_i64]; omega
      have HX := fun W (h : Rq gx gk q xs W) => rat_any h n (by omega)
      have hok := deAt_ok xs n (by omega)
      obtain ⟨d, hd⟩ : ∃ d, deAt xs n = d := ⟨_, rfl⟩
      rw [hd] at HX hok hgo
      unfold De.v at HX
      have HX := Lib.hid HX
      have HR := Lib.hid R2
      have hwr := R2.b.size
      have hKl := R2.at_.lt
      have hsl : ∀ g, (Value.slice A l.length cap).ownBlock = some g → g < wr.heap.size := fun g hg => (R2.own.lt g hg).2
      have HSL := Lib.hid hsl
      have hglt := R2.r.lt
      clear hsl R2 hd hr hn hb
      go_wp2_with fail
      go_region_held3 (fun w' => (w'.cell? ⟨gx, 1, none⟩ = some (.int .i64 (q.ring : Int)) ∧ w'.cell? ⟨K, 0, none⟩ = some (.int .i64 (a : Int))) ∧ RL gx gk q xs w K (.slice A l.length cap) l a v w' ∧ Below wr.heap.size wr w')
        ((refine (id (α := RF gx gk q xs w K (.slice A l.length cap) l a v wr _) ?_); with_reducible (first | exact hF0.drew | exact (hF0.alloc _).drew | exact RF.next hF0.drew hq | exact RF.next (hF0.alloc _).drew hq | exact RF.alloc (RF.next hF0.drew hq) _ | exact RF.store4 (RF.next (hF0.alloc _).drew hq) hk1 (Nat.le_refl _) hwr hKl HSL.out _ _ _ _)))
        ((go_at_call 44; ((with_reducible (first | refine (HX.out _ hF0.drew.rr).mono ?_ | refine (HX.out _ (hF0.alloc _).drew.rr).mono ?_)); rintro e w' ⟨rfl, hq⟩; obtain ⟨hc1, hf1⟩ := bcell hq; have hz1 := hq.size; (try simp at hz1); (try (have hk1 := ((Blk.new wr 35 _).drew).same (hq.block _ (by simp)))))))
      · have R3 := (RF.alloc (RF.next hF0.drew hq) (.cells #[.int .u64 (d.a : Int), .int .u32 (d.n : Int), .int .i64 (d.id : Int), .int .i64 (d.f : Int)] 35)).2.1
        have kD := Blk.new w' 35 #[.int .u64 (d.a : Int), .int .u32 (d.n : Int), .int .i64 (d.id : Int), .int .i64 (d.f : Int)]
        have hDg : wr.heap.size ≤ w'.heap.size := (RF.next hF0.drew hq).2.2.size
        obtain ⟨W3, hW3⟩ : ∃ W3, w'.alloc (.cells #[.int .u64 (d.a : Int), .int .u32 (d.n : Int), .int .i64 (d.id : Int), .int .i64 (d.f : Int)] 35) = W3 := ⟨_, rfl⟩
        obtain ⟨D, hD⟩ : ∃ D, w'.heap.size = D := ⟨_, rfl⟩
        rw [hW3] at R3 kD ⊢
        rw [hD] at kD hDg ⊢
        have HSL2 : Hid (∀ g, (Value.slice A l.length cap).ownBlock = some g → g < D) := Lib.hid (fun g hg => by have := HSL.out g hg; omega)
        have hDw : w.heap.size ≤ D := by omega
        clear hF0 hW3 hD hq hc1 hf1 hz1 HX e1 e2 v1 v2
        have hlD := kD.lt
        have hneD := Nat.ne_of_lt hlD
        have d0 := kD.cell 0
        have d1 := kD.cell 1
        have d2 := kD.cell 2
        have d3 := kD.cell 3
        simp only [List.getElem?_toArray, List.getElem?_cons_zero, List.getElem?_cons_succ] at d0 d1 d2 d3
        have R5 := Lib.hid (R3.alloc (.cells #[.int .u64 (d.a : Int), .int .u32 (d.n : Int), .int .i64 (d.id : Int), .int .i64 (d.f : Int)] 35))
        have k5 := Lib.hid (kD.alloc (.cells #[.int .u64 (d.a : Int), .int .u32 (d.n : Int), .int .i64 (d.id : Int), .int .i64 (d.f : Int)] 35))
        have HW := Lib.hid (World.news_of_block (w := W3.alloc (.cells #[.int .u64 (d.a : Int), .int .u32 (d.n : Int), .int .i64 (d.id : Int), .int .i64 (d.f : Int)] 35)) (heap_alloc_new W3 _))
        have hbase := (R3.alloc (.cells #[.int .u64 (d.a : Int), .int .u32 (d.n : Int), .int .i64 (d.id : Int), .int .i64 (d.f : Int)] 35)).b.size
        obtain ⟨m, hm⟩ : ∃ m, l.length = m := ⟨_, rfl⟩
        have Hm := Lib.hid hm
        have O5 := R5.out.own
        rw [hm] at O5 hsum ⊢
        have O5 := Lib.hid O5
        clear R3 kD hm
        have hF := hok.f
        cases hb : d.bit 1
        · have x2 : (((d.f : Int) % 2) == 0) = true := by unfold De.bit at hb; simp at hb ⊢; omega
          obtain rfl : some (l ++ [d]) = V := by rw [← hgo, ringGo_end hb]
          have hmb : m ≤ 64 := by omega
          clear hb hsum
          go_wp2_with (at_builtin; refine wpList_append_lies _ rfl (.tmp 23) (.tmp 25) 118 rfl w.heap.size 35 i0 _ 4 32 Try.underlying118 HI.out HZ0.out HZ1.out HZ2.out rfl (by decide) (.slice A m cap) m (desCells l) rfl O5.out ⟨W3.heap.size, 0, none⟩ 1 1 (De.cells d) rfl rfl HW.out (des_one d) (by decide) (by unfold maxLen; omega) (by omega) hbase (W3.heap.size + 1) (by simp) ?_; intro g2 cap2 w6 hown hgrow hat hlt2; have R6 := R5.out.grown (d := d) (s' := .slice (some ⟨g2, 0, none⟩) (m + 1) cap2) (by rw [Hm.out]; exact hown) (by rw [Hm.out]; exact hgrow); have k6 := k5.out.same (hgrow.block _ k5.out.lt (fun e => by have := HSL2.out D (by rw [Hm.out]; exact e.symm); omega)); have d3 := k6.cell 3; have hlD := k6.lt; have hneD := Nat.ne_of_lt hlD; have cg2 : w6.cell? ⟨gx, 2, none⟩ = some (.int .i64 (q.size : Int)) := R6.r.blk.cell 2; have cg12 : w6.cell? ⟨gx, 12, none⟩ = some (.int .i64 (q.out : Int)) := R6.r.blk.cell 12; have hlg := R6.r.lt; have hneg := Nat.ne_of_lt hlg; simp only [List.getElem?_toArray, List.getElem?_cons_zero, List.getElem?_cons_succ] at d3; have R6 := Lib.hid R6; clear hown hgrow hat hlt2 k6)
          go_ret2
          refine ⟨R6.out.b, some ⟨g2, 0, none⟩, cap2, l ++ [d], ⟨?_, rfl⟩, ?_⟩
          · rw [List.length_append, Hm.out]; rfl
          · have := R6.out.own
            rw [List.length_append, Hm.out] at this ⊢
            exact this
        · have x2 : (((d.f : Int) % 2) == 0) = false := by unfold De.bit at hb; simp at hb ⊢; omega
          have v1 : IntKind.i64.wrap ((q.size : Int) - (q.out : Int)) = (q.size : Int) - (q.out : Int) := by rw [IntKind.wrap_i64]; have := HO.out; omega
          have hal2 : m + 1 ≤ M := by omega
          have hMM : M = min (q.size - q.out) 64 := HM.out.symm
          have HO1 := HO.out
          cases f with
          | zero =>
            obtain rfl : none = V := by rw [← hgo, ringGo_none hb]
            by_cases k1 : 64 ≤ m + 1
            · have y1 : (64 : Int) ≤ (m : Int) + 1 := by omega
              have Hsum := Lib.hid hsum
              clear hb hMM hsum
              go_wp2_with (at_builtin; refine wpList_append_lies _ rfl (.tmp 23) (.tmp 25) 118 rfl w.heap.size 35 i0 _ 4 32 Try.underlying118 HI.out HZ0.out HZ1.out HZ2.out rfl (by decide) (.slice A m cap) m (desCells l) rfl O5.out ⟨W3.heap.size, 0, none⟩ 1 1 (De.cells d) rfl rfl HW.out (des_one d) (by decide) (by unfold maxLen; omega) (by omega) hbase (W3.heap.size + 1) (by simp) ?_; intro g2 cap2 w6 hown hgrow hat hlt2; have R6 := R5.out.grown (d := d) (s' := .slice (some ⟨g2, 0, none⟩) (m + 1) cap2) (by rw [Hm.out]; exact hown) (by rw [Hm.out]; exact hgrow); have k6 := k5.out.same (hgrow.block _ k5.out.lt (fun e => by have := HSL2.out D (by rw [Hm.out]; exact e.symm); omega)); have d3 := k6.cell 3; have hlD := k6.lt; have hneD := Nat.ne_of_lt hlD; have cg2 : w6.cell? ⟨gx, 2, none⟩ = some (.int .i64 (q.size : Int)) := R6.r.blk.cell 2; have cg12 : w6.cell? ⟨gx, 12, none⟩ = some (.int .i64 (q.out : Int)) := R6.r.blk.cell 12; have hlg := R6.r.lt; have hneg := Nat.ne_of_lt hlg; simp only [List.getElem?_toArray, List.getElem?_cons_zero, List.getElem?_cons_succ] at d3; have R6 := Lib.hid R6; clear hown hgrow hat hlt2 k6)
              go_quiet (fail)
              go_wp2_with fail
              go_ret2
              refine ⟨below_drewN R6.out.b _, some ⟨g2, 0, none⟩, cap2, l ++ [d], ?_, ?_⟩
              · rw [List.length_append, Hm.out]; rfl
              · have := R6.out.own
                rw [List.length_append, Hm.out] at this ⊢
                exact own_drewN this _
            · have y0 : decide ((64 : Int) ≤ (m : Int) + 1) = false := decide_eq_false (by omega)
              have y1 : (q.size : Int) - (q.out : Int) ≤ (m : Int) + 1 := by omega
              have Hsum := Lib.hid hsum
              clear hb hMM hsum
              go_wp2_with (at_builtin; refine wpList_append_lies _ rfl (.tmp 23) (.tmp 25) 118 rfl w.heap.size 35 i0 _ 4 32 Try.underlying118 HI.out HZ0.out HZ1.out HZ2.out rfl (by decide) (.slice A m cap) m (desCells l) rfl O5.out ⟨W3.heap.size, 0, none⟩ 1 1 (De.cells d) rfl rfl HW.out (des_one d) (by decide) (by unfold maxLen; omega) (by omega) hbase (W3.heap.size + 1) (by simp) ?_; intro g2 cap2 w6 hown hgrow hat hlt2; have R6 := R5.out.grown (d := d) (s' := .slice (some ⟨g2, 0, none⟩) (m + 1) cap2) (by rw [Hm.out]; exact hown) (by rw [Hm.out]; exact hgrow); have k6 := k5.out.same (hgrow.block _ k5.out.lt (fun e => by have := HSL2.out D (by rw [Hm.out]; exact e.symm); omega)); have d3 := k6.cell 3; have hlD := k6.lt; have hneD := Nat.ne_of_lt hlD; have cg2 : w6.cell? ⟨gx, 2, none⟩ = some (.int .i64 (q.size : Int)) := R6.r.blk.cell 2; have cg12 : w6.cell? ⟨gx, 12, none⟩ = some (.int .i64 (q.out : Int)) := R6.r.blk.cell 12; have hlg := R6.r.lt; have hneg := Nat.ne_of_lt hlg; simp only [List.getElem?_toArray, List.getElem?_cons_zero, List.getElem?_cons_succ] at d3; have R6 := Lib.hid R6; clear hown hgrow hat hlt2 k6)
              go_quiet (fail)
              go_wp2_with fail
              go_ret2
              refine ⟨below_drewN R6.out.b _, some ⟨g2, 0, none⟩, cap2, l ++ [d], ?_, ?_⟩
              · rw [List.length_append, Hm.out]; rfl
              · have := R6.out.own
                rw [List.length_append, Hm.out] at this ⊢
                exact own_drewN this _
          | succ f =>
            have y0 : decide ((64 : Int) ≤ (m : Int) + 1) = false := decide_eq_false (by omega)
            have y1 : decide ((q.size : Int) - (q.out : Int) ≤ (m : Int) + 1) = false := decide_eq_false (by omega)
            have Hgo := Lib.hid ((ringGo_step (f := f) (xs := xs) (ring := q.ring) (size := q.size) (a := a) (l := l) hb).symm.trans hgo)
            have Hsum := Lib.hid hsum
            clear hb hgo hMM hsum
            go_wp2_with (at_builtin; refine wpList_append_lies _ rfl (.tmp 23) (.tmp 25) 118 rfl w.heap.size 35 i0 _ 4 32 Try.underlying118 HI.out HZ0.out HZ1.out HZ2.out rfl (by decide) (.slice A m cap) m (desCells l) rfl O5.out ⟨W3.heap.size, 0, none⟩ 1 1 (De.cells d) rfl rfl HW.out (des_one d) (by decide) (by unfold maxLen; omega) (by omega) hbase (W3.heap.size + 1) (by simp) ?_; intro g2 cap2 w6 hown hgrow hat hlt2; have R6 := R5.out.grown (d := d) (s' := .slice (some ⟨g2, 0, none⟩) (m + 1) cap2) (by rw [Hm.out]; exact hown) (by rw [Hm.out]; exact hgrow); have k6 := k5.out.same (hgrow.block _ k5.out.lt (fun e => by have := HSL2.out D (by rw [Hm.out]; exact e.symm); omega)); have d3 := k6.cell 3; have hlD := k6.lt; have hneD := Nat.ne_of_lt hlD; have cg2 : w6.cell? ⟨gx, 2, none⟩ = some (.int .i64 (q.size : Int)) := R6.r.blk.cell 2; have cg12 : w6.cell? ⟨gx, 12, none⟩ = some (.int .i64 (q.out : Int)) := R6.r.blk.cell 12; have hlg := R6.r.lt; have hneg := Nat.ne_of_lt hlg; simp only [List.getElem?_toArray, List.getElem?_cons_zero, List.getElem?_cons_succ] at d3; have R6 := Lib.hid R6; clear hown hgrow hat hlt2 k6)
            go_quiet (fail)
            have R7 := R6.out.next (below_drewN (Below.refl w6.heap.size w6) nq)
            have b0' := R7.at_.cell 0
            have b1' := R7.at_.cell 1
            have f0' := R7.at_.frozen 0
            have f1' := R7.at_.frozen 1
            simp only [List.getElem?_toArray, List.getElem?_cons_zero, List.getElem?_cons_succ] at b0' b1'
            have HA := rafter_any R7.r a 1 v HQ.out.s1 HQ.out.s2 hal HQ.out.s1
            rw [show ((1 : Nat) : Int) = 1 from rfl] at HA
            have hal3 := stA_lt hal HQ.out.s1
            obtain ⟨a', ea⟩ : ∃ a', stA q.size a 1 = a' := ⟨_, rfl⟩
            obtain ⟨v', ev⟩ : ∃ v', stW q.size a 1 v = v' := ⟨_, rfl⟩
            rw [ea, ev] at HA
            rw [ea] at Hgo hal3
            have HA := Lib.hid HA
            have R7 := Lib.hid R7
            obtain ⟨w7, hw7⟩ : ∃ w7, w6.drewN nq = w7 := ⟨_, rfl⟩
            rw [hw7] at R7 HA b0' b1' f0' f1' ⊢
            clear R6 d3 hlD hneD cg2 cg12 hlg hneg hw7 ea ev y0 y1 x2
            have hlK := R7.out.at_.lt
            go_wp2_with fail
            refine HA.out.mono ?_
            rintro e w8 ⟨rfl, hq⟩
            have R8 := R7.out.next hq
            have f0' := R8.at_.frozen 0
            have f1' := R8.at_.frozen 1
            have b0' := R8.at_.cell 0
            have b1' := R8.at_.cell 1
            simp only [List.getElem?_toArray, List.getElem?_cons_zero, List.getElem?_cons_succ] at b0' b1'
            have hlK := R8.at_.lt
            have R9 := Lib.hid (R8.move a' v')
            clear R8 hq HA R7
            go_wp2_with fail
            go_roundw
            case rel => exact ⟨l ++ [d], f, a', v', R9.out, Hgo.out, by have := Hsum.out; have := Hm.out; simp; omega, hal3⟩
            case measure => have := Hsum.out; have := Hm.out; simp [lenV]; omega
      · obtain ⟨h3, kD⟩ := RF.stored (RF.next (hF0.alloc _).drew hq) hk1 (Nat.le_refl _) hwr hKl HSL.out (.int .u64 (d.a : Int)) (.int .u32 (d.n : Int)) (.int .i64 (d.id : Int)) (.int .i64 (d.f : Int))
        have R3 := h3.2.1
        have hDg : wr.heap.size ≤ wr.heap.size := Nat.le_refl _
        obtain ⟨W3, hW3⟩ : ∃ W3, ((((w'.setCell ⟨wr.heap.size, 0, none⟩ (.int .u64 (d.a : Int))).setCell ⟨wr.heap.size, 1, none⟩ (.int .u32 (d.n : Int))).setCell ⟨wr.heap.size, 2, none⟩ (.int .i64 (d.id : Int))).setCell ⟨wr.heap.size, 3, none⟩ (.int .i64 (d.f : Int))) = W3 := ⟨_, rfl⟩
        rw [hW3] at R3 kD ⊢
        have hDg : wr.heap.size ≤ wr.heap.size := Nat.le_refl _
        obtain ⟨D, hD⟩ : ∃ D, wr.heap.size = D := ⟨_, rfl⟩
        clear h3
        rw [hD] at kD hDg ⊢
        rw [← hD] at hDg
        have HSL2 : Hid (∀ g, (Value.slice A l.length cap).ownBlock = some g → g < D) := Lib.hid (fun g hg => by have := HSL.out g hg; omega)
        have hDw : w.heap.size ≤ D := by omega
        clear hF0 hW3 hD hq hc1 hf1 hz1 HX e1 e2 v1 v2
        have hlD := kD.lt
        have hneD := Nat.ne_of_lt hlD
        have d0 := kD.cell 0
        have d1 := kD.cell 1
        have d2 := kD.cell 2
        have d3 := kD.cell 3
        simp only [List.getElem?_toArray, List.getElem?_cons_zero, List.getElem?_cons_succ] at d0 d1 d2 d3
        have R5 := Lib.hid (R3.alloc (.cells #[.int .u64 (d.a : Int), .int .u32 (d.n : Int), .int .i64 (d.id : Int), .int .i64 (d.f : Int)] 35))
        have k5 := Lib.hid (kD.alloc (.cells #[.int .u64 (d.a : Int), .int .u32 (d.n : Int), .int .i64 (d.id : Int), .int .i64 (d.f : Int)] 35))
        have HW := Lib.hid (World.news_of_block (w := W3.alloc (.cells #[.int .u64 (d.a : Int), .int .u32 (d.n : Int), .int .i64 (d.id : Int), .int .i64 (d.f : Int)] 35)) (heap_alloc_new W3 _))
        have hbase := (R3.alloc (.cells #[.int .u64 (d.a : Int), .int .u32 (d.n : Int), .int .i64 (d.id : Int), .int .i64 (d.f : Int)] 35)).b.size
        obtain ⟨m, hm⟩ : ∃ m, l.length = m := ⟨_, rfl⟩
        have Hm := Lib.hid hm
        have O5 := R5.out.own
        rw [hm] at O5 hsum ⊢
        have O5 := Lib.hid O5
        clear R3 kD hm
        have hF := hok.f
        cases hb : d.bit 1
        · have x2 : (((d.f : Int) % 2) == 0) = true := by unfold De.bit at hb; simp at hb ⊢; omega
          obtain rfl : some (l ++ [d]) = V := by rw [← hgo, ringGo_end hb]
          have hmb : m ≤ 64 := by omega
          clear hb hsum
          go_wp2_with (at_builtin; refine wpList_append_lies _ rfl (.tmp 23) (.tmp 25) 118 rfl w.heap.size 35 i0 _ 4 32 Try.underlying118 HI.out HZ0.out HZ1.out HZ2.out rfl (by decide) (.slice A m cap) m (desCells l) rfl O5.out ⟨W3.heap.size, 0, none⟩ 1 1 (De.cells d) rfl rfl HW.out (des_one d) (by decide) (by unfold maxLen; omega) (by omega) hbase (W3.heap.size + 1) (by simp) ?_; intro g2 cap2 w6 hown hgrow hat hlt2; have R6 := R5.out.grown (d := d) (s' := .slice (some ⟨g2, 0, none⟩) (m + 1) cap2) (by rw [Hm.out]; exact hown) (by rw [Hm.out]; exact hgrow); have k6 := k5.out.same (hgrow.block _ k5.out.lt (fun e => by have := HSL2.out D (by rw [Hm.out]; exact e.symm); omega)); have d3 := k6.cell 3; have hlD := k6.lt; have hneD := Nat.ne_of_lt hlD; have cg2 : w6.cell? ⟨gx, 2, none⟩ = some (.int .i64 (q.size : Int)) := R6.r.blk.cell 2; have cg12 : w6.cell? ⟨gx, 12, none⟩ = some (.int .i64 (q.out : Int)) := R6.r.blk.cell 12; have hlg := R6.r.lt; have hneg := Nat.ne_of_lt hlg; simp only [List.getElem?_toArray, List.getElem?_cons_zero, List.getElem?_cons_succ] at d3; have R6 := Lib.hid R6; clear hown hgrow hat hlt2 k6)
          go_ret2
          refine ⟨R6.out.b, some ⟨g2, 0, none⟩, cap2, l ++ [d], ⟨?_, rfl⟩, ?_⟩
          · rw [List.length_append, Hm.out]; rfl
          · have := R6.out.own
            rw [List.length_append, Hm.out] at this ⊢
            exact this
        · have x2 : (((d.f : Int) % 2) == 0) = false := by unfold De.bit at hb; simp at hb ⊢; omega
          have v1 : IntKind.i64.wrap ((q.size : Int) - (q.out : Int)) = (q.size : Int) - (q.out : Int) := by rw [IntKind.wrap_i64]; have := HO.out; omega
          have hal2 : m + 1 ≤ M := by omega
          have hMM : M = min (q.size - q.out) 64 := HM.out.symm
          have HO1 := HO.out
          cases f with
          | zero =>
            obtain rfl : none = V := by rw [← hgo, ringGo_none hb]
            by_cases k1 : 64 ≤ m + 1
            · have y1 : (64 : Int) ≤ (m : Int) + 1 := by omega
              have Hsum := Lib.hid hsum
              clear hb hMM hsum
              go_wp2_with (at_builtin; refine wpList_append_lies _ rfl (.tmp 23) (.tmp 25) 118 rfl w.heap.size 35 i0 _ 4 32 Try.underlying118 HI.out HZ0.out HZ1.out HZ2.out rfl (by decide) (.slice A m cap) m (desCells l) rfl O5.out ⟨W3.heap.size, 0, none⟩ 1 1 (De.cells d) rfl rfl HW.out (des_one d) (by decide) (by unfold maxLen; omega) (by omega) hbase (W3.heap.size + 1) (by simp) ?_; intro g2 cap2 w6 hown hgrow hat hlt2; have R6 := R5.out.grown (d := d) (s' := .slice (some ⟨g2, 0, none⟩) (m + 1) cap2) (by rw [Hm.out]; exact hown) (by rw [Hm.out]; exact hgrow); have k6 := k5.out.same (hgrow.block _ k5.out.lt (fun e => by have := HSL2.out D (by rw [Hm.out]; exact e.symm); omega)); have d3 := k6.cell 3; have hlD := k6.lt; have hneD := Nat.ne_of_lt hlD; have cg2 : w6.cell? ⟨gx, 2, none⟩ = some (.int .i64 (q.size : Int)) := R6.r.blk.cell 2; have cg12 : w6.cell? ⟨gx, 12, none⟩ = some (.int .i64 (q.out : Int)) := R6.r.blk.cell 12; have hlg := R6.r.lt; have hneg := Nat.ne_of_lt hlg; simp only [List.getElem?_toArray, List.getElem?_cons_zero, List.getElem?_cons_succ] at d3; have R6 := Lib.hid R6; clear hown hgrow hat hlt2 k6)
              go_quiet (fail)
              go_wp2_with fail
              go_ret2
              refine ⟨below_drewN R6.out.b _, some ⟨g2, 0, none⟩, cap2, l ++ [d], ?_, ?_⟩
              · rw [List.length_append, Hm.out]; rfl
              · have := R6.out.own
                rw [List.length_append, Hm.out] at this ⊢
                exact own_drewN this _
            · have y0 : decide ((64 : Int) ≤ (m : Int) + 1) = false := decide_eq_false (by omega)
              have y1 : (q.size : Int) - (q.out : Int) ≤ (m : Int) + 1 := by omega
              have Hsum := Lib.hid hsum
              clear hb hMM hsum
              go_wp2_with (at_builtin; refine wpList_append_lies _ rfl (.tmp 23) (.tmp 25) 118 rfl w.heap.size 35 i0 _ 4 32 Try.underlying118 HI.out HZ0.out HZ1.out HZ2.out rfl (by decide) (.slice A m cap) m (desCells l) rfl O5.out ⟨W3.heap.size, 0, none⟩ 1 1 (De.cells d) rfl rfl HW.out (des_one d) (by decide) (by unfold maxLen; omega) (by omega) hbase (W3.heap.size + 1) (by simp) ?_; intro g2 cap2 w6 hown hgrow hat hlt2; have R6 := R5.out.grown (d := d) (s' := .slice (some ⟨g2, 0, none⟩) (m + 1) cap2) (by rw [Hm.out]; exact hown) (by rw [Hm.out]; exact hgrow); have k6 := k5.out.same (hgrow.block _ k5.out.lt (fun e => by have := HSL2.out D (by rw [Hm.out]; exact e.symm); omega)); have d3 := k6.cell 3; have hlD := k6.lt; have hneD := Nat.ne_of_lt hlD; have cg2 : w6.cell? ⟨gx, 2, none⟩ = some (.int .i64 (q.size : Int)) := R6.r.blk.cell 2; have cg12 : w6.cell? ⟨gx, 12, none⟩ = some (.int .i64 (q.out : Int)) := R6.r.blk.cell 12; have hlg := R6.r.lt; have hneg := Nat.ne_of_lt hlg; simp only [List.getElem?_toArray, List.getElem?_cons_zero, List.getElem?_cons_succ] at d3; have R6 := Lib.hid R6; clear hown hgrow hat hlt2 k6)
              go_quiet (fail)
              go_wp2_with fail
              go_ret2
              refine ⟨below_drewN R6.out.b _, some ⟨g2, 0, none⟩, cap2, l ++ [d], ?_, ?_⟩
              · rw [List.length_append, Hm.out]; rfl
              · have := R6.out.own
                rw [List.length_append, Hm.out] at this ⊢
                exact own_drewN this _
          | succ f =>
            have y0 : decide ((64 : Int) ≤ (m : Int) + 1) = false := decide_eq_false (by omega)
            have y1 : decide ((q.size : Int) - (q.out : Int) ≤ (m : Int) + 1) = false := decide_eq_false (by omega)
            have Hgo := Lib.hid ((ringGo_step (f := f) (xs := xs) (ring := q.ring) (size := q.size) (a := a) (l := l) hb).symm.trans hgo)
            have Hsum := Lib.hid hsum
            clear hb hgo hMM hsum
            go_wp2_with (at_builtin; refine wpList_append_lies _ rfl (.tmp 23) (.tmp 25) 118 rfl w.heap.size 35 i0 _ 4 32 Try.underlying118 HI.out HZ0.out HZ1.out HZ2.out rfl (by decide) (.slice A m cap) m (desCells l) rfl O5.out ⟨W3.heap.size, 0, none⟩ 1 1 (De.cells d) rfl rfl HW.out (des_one d) (by decide) (by unfold maxLen; omega) (by omega) hbase (W3.heap.size + 1) (by simp) ?_; intro g2 cap2 w6 hown hgrow hat hlt2; have R6 := R5.out.grown (d := d) (s' := .slice (some ⟨g2, 0, none⟩) (m + 1) cap2) (by rw [Hm.out]; exact hown) (by rw [Hm.out]; exact hgrow); have k6 := k5.out.same (hgrow.block _ k5.out.lt (fun e => by have := HSL2.out D (by rw [Hm.out]; exact e.symm); omega)); have d3 := k6.cell 3; have hlD := k6.lt; have hneD := Nat.ne_of_lt hlD; have cg2 : w6.cell? ⟨gx, 2, none⟩ = some (.int .i64 (q.size : Int)) := R6.r.blk.cell 2; have cg12 : w6.cell? ⟨gx, 12, none⟩ = some (.int .i64 (q.out : Int)) := R6.r.blk.cell 12; have hlg := R6.r.lt; have hneg := Nat.ne_of_lt hlg; simp only [List.getElem?_toArray, List.getElem?_cons_zero, List.getElem?_cons_succ] at d3; have R6 := Lib.hid R6; clear hown hgrow hat hlt2 k6)
            go_quiet (fail)
            have R7 := R6.out.next (below_drewN (Below.refl w6.heap.size w6) nq)
            have b0' := R7.at_.cell 0
            have b1' := R7.at_.cell 1
            have f0' := R7.at_.frozen 0
            have f1' := R7.at_.frozen 1
            simp only [List.getElem?_toArray, List.getElem?_cons_zero, List.getElem?_cons_succ] at b0' b1'
            have HA := rafter_any R7.r a 1 v HQ.out.s1 HQ.out.s2 hal HQ.out.s1
            rw [show ((1 : Nat) : Int) = 1 from rfl] at HA
            have hal3 := stA_lt hal HQ.out.s1
            obtain ⟨a', ea⟩ : ∃ a', stA q.size a 1 = a' := ⟨_, rfl⟩
            obtain ⟨v', ev⟩ : ∃ v', stW q.size a 1 v = v' := ⟨_, rfl⟩
            rw [ea, ev] at HA
            rw [ea] at Hgo hal3
            have HA := Lib.hid HA
            have R7 := Lib.hid R7
            obtain ⟨w7, hw7⟩ : ∃ w7, w6.drewN nq = w7 := ⟨_, rfl⟩
            rw [hw7] at R7 HA b0' b1' f0' f1' ⊢
            clear R6 d3 hlD hneD cg2 cg12 hlg hneg hw7 ea ev y0 y1 x2
            have hlK := R7.out.at_.lt
            go_wp2_with fail
            refine HA.out.mono ?_
            rintro e w8 ⟨rfl, hq⟩
            have R8 := R7.out.next hq
            have f0' := R8.at_.frozen 0
            have f1' := R8.at_.frozen 1
            have b0' := R8.at_.cell 0
            have b1' := R8.at_.cell 1
            simp only [List.getElem?_toArray, List.getElem?_cons_zero, List.getElem?_cons_succ] at b0' b1'
            have hlK := R8.at_.lt
            have R9 := Lib.hid (R8.move a' v')
            clear R8 hq HA R7
            go_wp2_with fail
            go_roundw
            case rel => exact ⟨l ++ [d], f, a', v', R9.out, Hgo.out, by have := Hsum.out; have := Hm.out; simp; omega, hal3⟩
            case measure => have := Hsum.out; have := Hm.out; simp [lenV]; omega
  · have R1 : RL gx gk q xs w w.heap.size (.slice (some ⟨w.heap.size + 1, 0, none⟩) 0 0) [] q.na q.nw (((w.alloc (.cells #[.int .i64 (q.na : Int), .bool q.nw] 46)).alloc (.cells #[] 35)).drew) :=
      ⟨H.out, (ba (ba (Below.refl _ _) _) _).drew, ((empty_row2 w _ 35 4).drew : _), ((Blk.new w 46 _).alloc _).drew, Nat.le_refl _⟩
    obtain ⟨W1, hW1⟩ : ∃ W1, ((w.alloc (.cells #[.int .i64 (q.na : Int), .bool q.nw] 46)).alloc (.cells #[] 35)).drew = W1 := ⟨_, rfl⟩
    obtain ⟨E, hE⟩ : ∃ E, w.heap.size + 1 = E := ⟨_, rfl⟩
    obtain ⟨K, hK⟩ : ∃ K, w.heap.size = K := ⟨_, rfl⟩
    rw [hW1] at R1 ⊢
    rw [hE] at R1 ⊢
    rw [hK] at R1 ⊢
    clear hE
    clear hW1 hK p5 p6 hlt hne
    go_wp2_with fail
    go_loopw [4] (fun s wr => ∃ l f a v, RL gx gk q xs w K s l a v wr ∧ ringGo xs q.ring q.size f a l (deAt xs (q.ring + 16 * a)) = V ∧ l.length + 1 + f = M ∧ a < q.size) (fun s _ => M - lenV s)
    case atStart => exact ⟨[], M - 1, q.na, q.nw, R1, HV.out, by simp; omega, HQ.out.na⟩
    case round =>
      obtain ⟨l, f, a, v, R2, hgo, hsum, hal⟩ := hrel
      obtain ⟨A, cap, rfl⟩ := own_form R2.own
      have hx := R2.rq.len
      have hr := HQ.out.r
      have hs2 := HQ.out.s2
      have hF0 := RF.of R2 (Below.refl wr.heap.size wr)
      have e1 : (16 : Int) * (a : Int) = ((16 * a : Nat) : Int) := by omega
      obtain ⟨b, hb⟩ : ∃ b, 16 * a = b := ⟨_, rfl⟩
      rw [hb] at e1
      have e2 : (q.ring : Int) + (b : Int) = ((q.ring + 16 * a : Nat) : Int) := by omega
      obtain ⟨n, hn⟩ : ∃ n, q.ring + 16 * a = n := ⟨_, rfl⟩
      rw [hn] at e2 hgo
      have v1 : IntKind.i64.wrap (b : Int) = (b : Int) := by rw [IntKind.wrap_i64]; omega
      have v2 : IntKind.i64.wrap (n : Int) = (n : Int) := by rw [IntKind.wrap_i64]; omega
      have HX := fun W (h : Rq gx gk q xs W) => rat_any h n (by omega)
      have hok := deAt_ok xs n (by omega)
      obtain ⟨d, hd⟩ : ∃ d, deAt xs n = d := ⟨_, rfl⟩
      rw [hd] at HX hok hgo
      unfold De.v at HX
      have HX := Lib.hid HX
      have HR := Lib.hid R2
      have hwr := R2.b.size
      have hKl := R2.at_.lt
      have hsl : ∀ g, (Value.slice A l.length cap).ownBlock = some g → g < wr.heap.size := fun g hg => (R2.own.lt g hg).2
      have HSL := Lib.hid hsl
      have hglt := R2.r.lt
      clear hsl R2 hd hr hn hb
      go_wp2_with fail
      go_region_held3 (fun w' => (w'.cell? ⟨gx, 1, none⟩ = some (.int .i64 (q.ring : Int)) ∧ w'.cell? ⟨K, 0, none⟩ = some (.int .i64 (a : Int))) ∧ RL gx gk q xs w K (.slice A l.length cap) l a v w' ∧ Below wr.heap.size wr w')
        ((refine (id (α := RF gx gk q xs w K (.slice A l.length cap) l a v wr _) ?_); with_reducible (first | exact hF0.drew | exact (hF0.alloc _).drew | exact RF.next hF0.drew hq | exact RF.next (hF0.alloc _).drew hq | exact RF.alloc (RF.next hF0.drew hq) _ | exact RF.store4 (RF.next (hF0.alloc _).drew hq) hk1 (Nat.le_refl _) hwr hKl HSL.out _ _ _ _)))
        ((go_at_call 44; ((with_reducible (first | refine (HX.out _ hF0.drew.rr).mono ?_ | refine (HX.out _ (hF0.alloc _).drew.rr).mono ?_)); rintro e w' ⟨rfl, hq⟩; obtain ⟨hc1, hf1⟩ := bcell hq; have hz1 := hq.size; (try simp at hz1); (try (have hk1 := ((Blk.new wr 35 _).drew).same (hq.block _ (by simp)))))))
      · have R3 := (RF.alloc (RF.next hF0.drew hq) (.cells #[.int .u64 (d.a : Int), .int .u32 (d.n : Int), .int .i64 (d.id : Int), .int .i64 (d.f : Int)] 35)).2.1
        have kD := Blk.new w' 35 #[.int .u64 (d.a : Int), .int .u32 (d.n : Int), .int .i64 (d.id : Int), .int .i64 (d.f : Int)]
        have hDg : wr.heap.size ≤ w'.heap.size := (RF.next hF0.drew hq).2.2.size
        obtain ⟨W3, hW3⟩ : ∃ W3, w'.alloc (.cells #[.int .u64 (d.a : Int), .int .u32 (d.n : Int), .int .i64 (d.id : Int), .int .i64 (d.f : Int)] 35) = W3 := ⟨_, rfl⟩
        obtain ⟨D, hD⟩ : ∃ D, w'.heap.size = D := ⟨_, rfl⟩
        rw [hW3] at R3 kD ⊢
        rw [hD] at kD hDg ⊢
        have HSL2 : Hid (∀ g, (Value.slice A l.length cap).ownBlock = some g → g < D) := Lib.hid (fun g hg => by have := HSL.out g hg; omega)
        have hDw : w.heap.size ≤ D := by omega
        clear hF0 hW3 hD hq hc1 hf1 hz1 HX e1 e2 v1 v2
        have hlD := kD.lt
        have hneD := Nat.ne_of_lt hlD
        have d0 := kD.cell 0
        have d1 := kD.cell 1
        have d2 := kD.cell 2
        have d3 := kD.cell 3
        simp only [List.getElem?_toArray, List.getElem?_cons_zero, List.getElem?_cons_succ] at d0 d1 d2 d3
        have R5 := Lib.hid (R3.alloc (.cells #[.int .u64 (d.a : Int), .int .u32 (d.n : Int), .int .i64 (d.id : Int), .int .i64 (d.f : Int)] 35))
        have k5 := Lib.hid (kD.alloc (.cells #[.int .u64 (d.a : Int), .int .u32 (d.n : Int), .int .i64 (d.id : Int), .int .i64 (d.f : Int)] 35))
        have HW := Lib.hid (World.news_of_block (w := W3.alloc (.cells #[.int .u64 (d.a : Int), .int .u32 (d.n : Int), .int .i64 (d.id : Int), .int .i64 (d.f : Int)] 35)) (heap_alloc_new W3 _))
        have hbase := (R3.alloc (.cells #[.int .u64 (d.a : Int), .int .u32 (d.n : Int), .int .i64 (d.id : Int), .int .i64 (d.f : Int)] 35)).b.size
        obtain ⟨m, hm⟩ : ∃ m, l.length = m := ⟨_, rfl⟩
        have Hm := Lib.hid hm
        have O5 := R5.out.own
        rw [hm] at O5 hsum ⊢
        have O5 := Lib.hid O5
        clear R3 kD hm
        have hF := hok.f
        cases hb : d.bit 1
        · have x2 : (((d.f : Int) % 2) == 0) = true := by unfold De.bit at hb; simp at hb ⊢; omega
          obtain rfl : some (l ++ [d]) = V := by rw [← hgo, ringGo_end hb]
          have hmb : m ≤ 64 := by omega
          clear hb hsum
          go_wp2_with (at_builtin; refine wpList_append_lies _ rfl (.tmp 23) (.tmp 25) 118 rfl w.heap.size 35 i0 _ 4 32 Try.underlying118 HI.out HZ0.out HZ1.out HZ2.out rfl (by decide) (.slice A m cap) m (desCells l) rfl O5.out ⟨W3.heap.size, 0, none⟩ 1 1 (De.cells d) rfl rfl HW.out (des_one d) (by decide) (by unfold maxLen; omega) (by omega) hbase (W3.heap.size + 1) (by simp) ?_; intro g2 cap2 w6 hown hgrow hat hlt2; have R6 := R5.out.grown (d := d) (s' := .slice (some ⟨g2, 0, none⟩) (m + 1) cap2) (by rw [Hm.out]; exact hown) (by rw [Hm.out]; exact hgrow); have k6 := k5.out.same (hgrow.block _ k5.out.lt (fun e => by have := HSL2.out D (by rw [Hm.out]; exact e.symm); omega)); have d3 := k6.cell 3; have hlD := k6.lt; have hneD := Nat.ne_of_lt hlD; have cg2 : w6.cell? ⟨gx, 2, none⟩ = some (.int .i64 (q.size : Int)) := R6.r.blk.cell 2; have cg12 : w6.cell? ⟨gx, 12, none⟩ = some (.int .i64 (q.out : Int)) := R6.r.blk.cell 12; have hlg := R6.r.lt; have hneg := Nat.ne_of_lt hlg; simp only [List.getElem?_toArray, List.getElem?_cons_zero, List.getElem?_cons_succ] at d3; have R6 := Lib.hid R6; clear hown hgrow hat hlt2 k6)
          go_ret2
          refine ⟨R6.out.b, some ⟨g2, 0, none⟩, cap2, l ++ [d], ⟨?_, rfl⟩, ?_⟩
          · rw [List.length_append, Hm.out]; rfl
          · have := R6.out.own
            rw [List.length_append, Hm.out] at this ⊢
            exact this
        · have x2 : (((d.f : Int) % 2) == 0) = false := by unfold De.bit at hb; simp at hb ⊢; omega
          have v1 : IntKind.i64.wrap ((q.size : Int) - (q.out : Int)) = (q.size : Int) - (q.out : Int) := by rw [IntKind.wrap_i64]; have := HO.out; omega
          have hal2 : m + 1 ≤ M := by omega
          have hMM : M = min (q.size - q.out) 64 := HM.out.symm
          have HO1 := HO.out
          cases f with
          | zero =>
            obtain rfl : none = V := by rw [← hgo, ringGo_none hb]
            by_cases k1 : 64 ≤ m + 1
            · have y1 : (64 : Int) ≤ (m : Int) + 1 := by omega
              have Hsum := Lib.hid hsum
              clear hb hMM hsum
              go_wp2_with (at_builtin; refine wpList_append_lies _ rfl (.tmp 23) (.tmp 25) 118 rfl w.heap.size 35 i0 _ 4 32 Try.underlying118 HI.out HZ0.out HZ1.out HZ2.out rfl (by decide) (.slice A m cap) m (desCells l) rfl O5.out ⟨W3.heap.size, 0, none⟩ 1 1 (De.cells d) rfl rfl HW.out (des_one d) (by decide) (by unfold maxLen; omega) (by omega) hbase (W3.heap.size + 1) (by simp) ?_; intro g2 cap2 w6 hown hgrow hat hlt2; have R6 := R5.out.grown (d := d) (s' := .slice (some ⟨g2, 0, none⟩) (m + 1) cap2) (by rw [Hm.out]; exact hown) (by rw [Hm.out]; exact hgrow); have k6 := k5.out.same (hgrow.block _ k5.out.lt (fun e => by have := HSL2.out D (by rw [Hm.out]; exact e.symm); omega)); have d3 := k6.cell 3; have hlD := k6.lt; have hneD := Nat.ne_of_lt hlD; have cg2 : w6.cell? ⟨gx, 2, none⟩ = some (.int .i64 (q.size : Int)) := R6.r.blk.cell 2; have cg12 : w6.cell? ⟨gx, 12, none⟩ = some (.int .i64 (q.out : Int)) := R6.r.blk.cell 12; have hlg := R6.r.lt; have hneg := Nat.ne_of_lt hlg; simp only [List.getElem?_toArray, List.getElem?_cons_zero, List.getElem?_cons_succ] at d3; have R6 := Lib.hid R6; clear hown hgrow hat hlt2 k6)
              go_quiet (fail)
              go_wp2_with fail
              go_ret2
              refine ⟨below_drewN R6.out.b _, some ⟨g2, 0, none⟩, cap2, l ++ [d], ?_, ?_⟩
              · rw [List.length_append, Hm.out]; rfl
              · have := R6.out.own
                rw [List.length_append, Hm.out] at this ⊢
                exact own_drewN this _
            · have y0 : decide ((64 : Int) ≤ (m : Int) + 1) = false := decide_eq_false (by omega)
              have y1 : (q.size : Int) - (q.out : Int) ≤ (m : Int) + 1 := by omega
              have Hsum := Lib.hid hsum
              clear hb hMM hsum
              go_wp2_with (at_builtin; refine wpList_append_lies _ rfl (.tmp 23) (.tmp 25) 118 rfl w.heap.size 35 i0 _ 4 32 Try.underlying118 HI.out HZ0.out HZ1.out HZ2.out rfl (by decide) (.slice A m cap) m (desCells l) rfl O5.out ⟨W3.heap.size, 0, none⟩ 1 1 (De.cells d) rfl rfl HW.out (des_one d) (by decide) (by unfold maxLen; omega) (by omega) hbase (W3.heap.size + 1) (by simp) ?_; intro g2 cap2 w6 hown hgrow hat hlt2; have R6 := R5.out.grown (d := d) (s' := .slice (some ⟨g2, 0, none⟩) (m + 1) cap2) (by rw [Hm.out]; exact hown) (by rw [Hm.out]; exact hgrow); have k6 := k5.out.same (hgrow.block _ k5.out.lt (fun e => by have := HSL2.out D (by rw [Hm.out]; exact e.symm); omega)); have d3 := k6.cell 3; have hlD := k6.lt; have hneD := Nat.ne_of_lt hlD; have cg2 : w6.cell? ⟨gx, 2, none⟩ = some (.int .i64 (q.size : Int)) := R6.r.blk.cell 2; have cg12 : w6.cell? ⟨gx, 12, none⟩ = some (.int .i64 (q.out : Int)) := R6.r.blk.cell 12; have hlg := R6.r.lt; have hneg := Nat.ne_of_lt hlg; simp only [List.getElem?_toArray, List.getElem?_cons_zero, List.getElem?_cons_succ] at d3; have R6 := Lib.hid R6; clear hown hgrow hat hlt2 k6)
              go_quiet (fail)
              go_wp2_with fail
              go_ret2
              refine ⟨below_drewN R6.out.b _, some ⟨g2, 0, none⟩, cap2, l ++ [d], ?_, ?_⟩
              · rw [List.length_append, Hm.out]; rfl
              · have := R6.out.own
                rw [List.length_append, Hm.out] at this ⊢
                exact own_drewN this _
          | succ f =>
            have y0 : decide ((64 : Int) ≤ (m : Int) + 1) = false := decide_eq_false (by omega)
            have y1 : decide ((q.size : Int) - (q.out : Int) ≤ (m : Int) + 1) = false := decide_eq_false (by omega)
            have Hgo := Lib.hid ((ringGo_step (f := f) (xs := xs) (ring := q.ring) (size := q.size) (a := a) (l := l) hb).symm.trans hgo)
            have Hsum := Lib.hid hsum
            clear hb hgo hMM hsum
            go_wp2_with (at_builtin; refine wpList_append_lies _ rfl (.tmp 23) (.tmp 25) 118 rfl w.heap.size 35 i0 _ 4 32 Try.underlying118 HI.out HZ0.out HZ1.out HZ2.out rfl (by decide) (.slice A m cap) m (desCells l) rfl O5.out ⟨W3.heap.size, 0, none⟩ 1 1 (De.cells d) rfl rfl HW.out (des_one d) (by decide) (by unfold maxLen; omega) (by omega) hbase (W3.heap.size + 1) (by simp) ?_; intro g2 cap2 w6 hown hgrow hat hlt2; have R6 := R5.out.grown (d := d) (s' := .slice (some ⟨g2, 0, none⟩) (m + 1) cap2) (by rw [Hm.out]; exact hown) (by rw [Hm.out]; exact hgrow); have k6 := k5.out.same (hgrow.block _ k5.out.lt (fun e => by have := HSL2.out D (by rw [Hm.out]; exact e.symm); omega)); have d3 := k6.cell 3; have hlD := k6.lt; have hneD := Nat.ne_of_lt hlD; have cg2 : w6.cell? ⟨gx, 2, none⟩ = some (.int .i64 (q.size : Int)) := R6.r.blk.cell 2; have cg12 : w6.cell? ⟨gx, 12, none⟩ = some (.int .i64 (q.out : Int)) := R6.r.blk.cell 12; have hlg := R6.r.lt; have hneg := Nat.ne_of_lt hlg; simp only [List.getElem?_toArray, List.getElem?_cons_zero, List.getElem?_cons_succ] at d3; have R6 := Lib.hid R6; clear hown hgrow hat hlt2 k6)
            go_quiet (fail)
            have R7 := R6.out.next (below_drewN (Below.refl w6.heap.size w6) nq)
            have b0' := R7.at_.cell 0
            have b1' := R7.at_.cell 1
            have f0' := R7.at_.frozen 0
            have f1' := R7.at_.frozen 1
            simp only [List.getElem?_toArray, List.getElem?_cons_zero, List.getElem?_cons_succ] at b0' b1'
            have HA := rafter_any R7.r a 1 v HQ.out.s1 HQ.out.s2 hal HQ.out.s1
            rw [show ((1 : Nat) : Int) = 1 from rfl] at HA
            have hal3 := stA_lt hal HQ.out.s1
            obtain ⟨a', ea⟩ : ∃ a', stA q.size a 1 = a' := ⟨_, rfl⟩
            obtain ⟨v', ev⟩ : ∃ v', stW q.size a 1 v = v' := ⟨_, rfl⟩
            rw [ea, ev] at HA
            rw [ea] at Hgo hal3
            have HA := Lib.hid HA
            have R7 := Lib.hid R7
            obtain ⟨w7, hw7⟩ : ∃ w7, w6.drewN nq = w7 := ⟨_, rfl⟩
            rw [hw7] at R7 HA b0' b1' f0' f1' ⊢
            clear R6 d3 hlD hneD cg2 cg12 hlg hneg hw7 ea ev y0 y1 x2
            have hlK := R7.out.at_.lt
            go_wp2_with fail
            refine HA.out.mono ?_
            rintro e w8 ⟨rfl, hq⟩
            have R8 := R7.out.next hq
            have f0' := R8.at_.frozen 0
            have f1' := R8.at_.frozen 1
            have b0' := R8.at_.cell 0
            have b1' := R8.at_.cell 1
            simp only [List.getElem?_toArray, List.getElem?_cons_zero, List.getElem?_cons_succ] at b0' b1'
            have hlK := R8.at_.lt
            have R9 := Lib.hid (R8.move a' v')
            clear R8 hq HA R7
            go_wp2_with fail
            go_roundw
            case rel => exact ⟨l ++ [d], f, a', v', R9.out, Hgo.out, by have := Hsum.out; have := Hm.out; simp; omega, hal3⟩
            case measure => have := Hsum.out; have := Hm.out; simp [lenV]; omega
      · obtain ⟨h3, kD⟩ := RF.stored (RF.next (hF0.alloc _).drew hq) hk1 (Nat.le_refl _) hwr hKl HSL.out (.int .u64 (d.a : Int)) (.int .u32 (d.n : Int)) (.int .i64 (d.id : Int)) (.int .i64 (d.f : Int))
        have R3 := h3.2.1
        have hDg : wr.heap.size ≤ wr.heap.size := Nat.le_refl _
        obtain ⟨W3, hW3⟩ : ∃ W3, ((((w'.setCell ⟨wr.heap.size, 0, none⟩ (.int .u64 (d.a : Int))).setCell ⟨wr.heap.size, 1, none⟩ (.int .u32 (d.n : Int))).setCell ⟨wr.heap.size, 2, none⟩ (.int .i64 (d.id : Int))).setCell ⟨wr.heap.size, 3, none⟩ (.int .i64 (d.f : Int))) = W3 := ⟨_, rfl⟩
        rw [hW3] at R3 kD ⊢
        have hDg : wr.heap.size ≤ wr.heap.size := Nat.le_refl _
        obtain ⟨D, hD⟩ : ∃ D, wr.heap.size = D := ⟨_, rfl⟩
        clear h3
        rw [hD] at kD hDg ⊢
        rw [← hD] at hDg
        have HSL2 : Hid (∀ g, (Value.slice A l.length cap).ownBlock = some g → g < D) := Lib.hid (fun g hg => by have := HSL.out g hg; omega)
        have hDw : w.heap.size ≤ D := by omega
        clear hF0 hW3 hD hq hc1 hf1 hz1 HX e1 e2 v1 v2
        have hlD := kD.lt
        have hneD := Nat.ne_of_lt hlD
        have d0 := kD.cell 0
        have d1 := kD.cell 1
        have d2 := kD.cell 2
        have d3 := kD.cell 3
        simp only [List.getElem?_toArray, List.getElem?_cons_zero, List.getElem?_cons_succ] at d0 d1 d2 d3
        have R5 := Lib.hid (R3.alloc (.cells #[.int .u64 (d.a : Int), .int .u32 (d.n : Int), .int .i64 (d.id : Int), .int .i64 (d.f : Int)] 35))
        have k5 := Lib.hid (kD.alloc (.cells #[.int .u64 (d.a : Int), .int .u32 (d.n : Int), .int .i64 (d.id : Int), .int .i64 (d.f : Int)] 35))
        have HW := Lib.hid (World.news_of_block (w := W3.alloc (.cells #[.int .u64 (d.a : Int), .int .u32 (d.n : Int), .int .i64 (d.id : Int), .int .i64 (d.f : Int)] 35)) (heap_alloc_new W3 _))
        have hbase := (R3.alloc (.cells #[.int .u64 (d.a : Int), .int .u32 (d.n : Int), .int .i64 (d.id : Int), .int .i64 (d.f : Int)] 35)).b.size
        obtain ⟨m, hm⟩ : ∃ m, l.length = m := ⟨_, rfl⟩
        have Hm := Lib.hid hm
        have O5 := R5.out.own
        rw [hm] at O5 hsum ⊢
        have O5 := Lib.hid O5
        clear R3 kD hm
        have hF := hok.f
        cases hb : d.bit 1
        · have x2 : (((d.f : Int) % 2) == 0) = true := by unfold De.bit at hb; simp at hb ⊢; omega
          obtain rfl : some (l ++ [d]) = V := by rw [← hgo, ringGo_end hb]
          have hmb : m ≤ 64 := by omega
          clear hb hsum
          go_wp2_with (at_builtin; refine wpList_append_lies _ rfl (.tmp 23) (.tmp 25) 118 rfl w.heap.size 35 i0 _ 4 32 Try.underlying118 HI.out HZ0.out HZ1.out HZ2.out rfl (by decide) (.slice A m cap) m (desCells l) rfl O5.out ⟨W3.heap.size, 0, none⟩ 1 1 (De.cells d) rfl rfl HW.out (des_one d) (by decide) (by unfold maxLen; omega) (by omega) hbase (W3.heap.size + 1) (by simp) ?_; intro g2 cap2 w6 hown hgrow hat hlt2; have R6 := R5.out.grown (d := d) (s' := .slice (some ⟨g2, 0, none⟩) (m + 1) cap2) (by rw [Hm.out]; exact hown) (by rw [Hm.out]; exact hgrow); have k6 := k5.out.same (hgrow.block _ k5.out.lt (fun e => by have := HSL2.out D (by rw [Hm.out]; exact e.symm); omega)); have d3 := k6.cell 3; have hlD := k6.lt; have hneD := Nat.ne_of_lt hlD; have cg2 : w6.cell? ⟨gx, 2, none⟩ = some (.int .i64 (q.size : Int)) := R6.r.blk.cell 2; have cg12 : w6.cell? ⟨gx, 12, none⟩ = some (.int .i64 (q.out : Int)) := R6.r.blk.cell 12; have hlg := R6.r.lt; have hneg := Nat.ne_of_lt hlg; simp only [List.getElem?_toArray, List.getElem?_cons_zero, List.getElem?_cons_succ] at d3; have R6 := Lib.hid R6; clear hown hgrow hat hlt2 k6)
          go_ret2
          refine ⟨R6.out.b, some ⟨g2, 0, none⟩, cap2, l ++ [d], ⟨?_, rfl⟩, ?_⟩
          · rw [List.length_append, Hm.out]; rfl
          · have := R6.out.own
            rw [List.length_append, Hm.out] at this ⊢
            exact this
        · have x2 : (((d.f : Int) % 2) == 0) = false := by unfold De.bit at hb; simp at hb ⊢; omega
          have v1 : IntKind.i64.wrap ((q.size : Int) - (q.out : Int)) = (q.size : Int) - (q.out : Int) := by rw [IntKind.wrap_i64]; have := HO.out; omega
          have hal2 : m + 1 ≤ M := by omega
          have hMM : M = min (q.size - q.out) 64 := HM.out.symm
          have HO1 := HO.out
          cases f with
          | zero =>
            obtain rfl : none = V := by rw [← hgo, ringGo_none hb]
            by_cases k1 : 64 ≤ m + 1
            · have y1 : (64 : Int) ≤ (m : Int) + 1 := by omega
              have Hsum := Lib.hid hsum
              clear hb hMM hsum
              go_wp2_with (at_builtin; refine wpList_append_lies _ rfl (.tmp 23) (.tmp 25) 118 rfl w.heap.size 35 i0 _ 4 32 Try.underlying118 HI.out HZ0.out HZ1.out HZ2.out rfl (by decide) (.slice A m cap) m (desCells l) rfl O5.out ⟨W3.heap.size, 0, none⟩ 1 1 (De.cells d) rfl rfl HW.out (des_one d) (by decide) (by unfold maxLen; omega) (by omega) hbase (W3.heap.size + 1) (by simp) ?_; intro g2 cap2 w6 hown hgrow hat hlt2; have R6 := R5.out.grown (d := d) (s' := .slice (some ⟨g2, 0, none⟩) (m + 1) cap2) (by rw [Hm.out]; exact hown) (by rw [Hm.out]; exact hgrow); have k6 := k5.out.same (hgrow.block _ k5.out.lt (fun e => by have := HSL2.out D (by rw [Hm.out]; exact e.symm); omega)); have d3 := k6.cell 3; have hlD := k6.lt; have hneD := Nat.ne_of_lt hlD; have cg2 : w6.cell? ⟨gx, 2, none⟩ = some (.int .i64 (q.size : Int)) := R6.r.blk.cell 2; have cg12 : w6.cell? ⟨gx, 12, none⟩ = some (.int .i64 (q.out : Int)) := R6.r.blk.cell 12; have hlg := R6.r.lt; have hneg := Nat.ne_of_lt hlg; simp only [List.getElem?_toArray, List.getElem?_cons_zero, List.getElem?_cons_succ] at d3; have R6 := Lib.hid R6; clear hown hgrow hat hlt2 k6)
              go_quiet (fail)
              go_wp2_with fail
              go_ret2
              refine ⟨below_drewN R6.out.b _, some ⟨g2, 0, none⟩, cap2, l ++ [d], ?_, ?_⟩
              · rw [List.length_append, Hm.out]; rfl
              · have := R6.out.own
                rw [List.length_append, Hm.out] at this ⊢
                exact own_drewN this _
            · have y0 : decide ((64 : Int) ≤ (m : Int) + 1) = false := decide_eq_false (by omega)
              have y1 : (q.size : Int) - (q.out : Int) ≤ (m : Int) + 1 := by omega
              have Hsum := Lib.hid hsum
              clear hb hMM hsum
              go_wp2_with (at_builtin; refine wpList_append_lies _ rfl (.tmp 23) (.tmp 25) 118 rfl w.heap.size 35 i0 _ 4 32 Try.underlying118 HI.out HZ0.out HZ1.out HZ2.out rfl (by decide) (.slice A m cap) m (desCells l) rfl O5.out ⟨W3.heap.size, 0, none⟩ 1 1 (De.cells d) rfl rfl HW.out (des_one d) (by decide) (by unfold maxLen; omega) (by omega) hbase (W3.heap.size + 1) (by simp) ?_; intro g2 cap2 w6 hown hgrow hat hlt2; have R6 := R5.out.grown (d := d) (s' := .slice (some ⟨g2, 0, none⟩) (m + 1) cap2) (by rw [Hm.out]; exact hown) (by rw [Hm.out]; exact hgrow); have k6 := k5.out.same (hgrow.block _ k5.out.lt (fun e => by have := HSL2.out D (by rw [Hm.out]; exact e.symm); omega)); have d3 := k6.cell 3; have hlD := k6.lt; have hneD := Nat.ne_of_lt hlD; have cg2 : w6.cell? ⟨gx, 2, none⟩ = some (.int .i64 (q.size : Int)) := R6.r.blk.cell 2; have cg12 : w6.cell? ⟨gx, 12, none⟩ = some (.int .i64 (q.out : Int)) := R6.r.blk.cell 12; have hlg := R6.r.lt; have hneg := Nat.ne_of_lt hlg; simp only [List.getElem?_toArray, List.getElem?_cons_zero, List.getElem?_cons_succ] at d3; have R6 := Lib.hid R6; clear hown hgrow hat hlt2 k6)
              go_quiet (fail)
              go_wp2_with fail
              go_ret2
              refine ⟨below_drewN R6.out.b _, some ⟨g2, 0, none⟩, cap2, l ++ [d], ?_, ?_⟩
              · rw [List.length_append, Hm.out]; rfl
              · have := R6.out.own
                rw [List.length_append, Hm.out] at this ⊢
                exact own_drewN this _
          | succ f =>
            have y0 : decide ((64 : Int) ≤ (m : Int) + 1) = false := decide_eq_false (by omega)
            have y1 : decide ((q.size : Int) - (q.out : Int) ≤ (m : Int) + 1) = false := decide_eq_false (by omega)
            have Hgo := Lib.hid ((ringGo_step (f := f) (xs := xs) (ring := q.ring) (size := q.size) (a := a) (l := l) hb).symm.trans hgo)
            have Hsum := Lib.hid hsum
            clear hb hgo hMM hsum
            go_wp2_with (at_builtin; refine wpList_append_lies _ rfl (.tmp 23) (.tmp 25) 118 rfl w.heap.size 35 i0 _ 4 32 Try.underlying118 HI.out HZ0.out HZ1.out HZ2.out rfl (by decide) (.slice A m cap) m (desCells l) rfl O5.out ⟨W3.heap.size, 0, none⟩ 1 1 (De.cells d) rfl rfl HW.out (des_one d) (by decide) (by unfold maxLen; omega) (by omega) hbase (W3.heap.size + 1) (by simp) ?_; intro g2 cap2 w6 hown hgrow hat hlt2; have R6 := R5.out.grown (d := d) (s' := .slice (some ⟨g2, 0, none⟩) (m + 1) cap2) (by rw [Hm.out]; exact hown) (by rw [Hm.out]; exact hgrow); have k6 := k5.out.same (hgrow.block _ k5.out.lt (fun e => by have := HSL2.out D (by rw [Hm.out]; exact e.symm); omega)); have d3 := k6.cell 3; have hlD := k6.lt; have hneD := Nat.ne_of_lt hlD; have cg2 : w6.cell? ⟨gx, 2, none⟩ = some (.int .i64 (q.size : Int)) := R6.r.blk.cell 2; have cg12 : w6.cell? ⟨gx, 12, none⟩ = some (.int .i64 (q.out : Int)) := R6.r.blk.cell 12; have hlg := R6.r.lt; have hneg := Nat.ne_of_lt hlg; simp only [List.getElem?_toArray, List.getElem?_cons_zero, List.getElem?_cons_succ] at d3; have R6 := Lib.hid R6; clear hown hgrow hat hlt2 k6)
            go_quiet (fail)
            have R7 := R6.out.next (below_drewN (Below.refl w6.heap.size w6) nq)
            have b0' := R7.at_.cell 0
            have b1' := R7.at_.cell 1
            have f0' := R7.at_.frozen 0
            have f1' := R7.at_.frozen 1
            simp only [List.getElem?_toArray, List.getElem?_cons_zero, List.getElem?_cons_succ] at b0' b1'
            have HA := rafter_any R7.r a 1 v HQ.out.s1 HQ.out.s2 hal HQ.out.s1
            rw [show ((1 : Nat) : Int) = 1 from rfl] at HA
            have hal3 := stA_lt hal HQ.out.s1
            obtain ⟨a', ea⟩ : ∃ a', stA q.size a 1 = a' := ⟨_, rfl⟩
            obtain ⟨v', ev⟩ : ∃ v', stW q.size a 1 v = v' := ⟨_, rfl⟩
            rw [ea, ev] at HA
            rw [ea] at Hgo hal3
            have HA := Lib.hid HA
            have R7 := Lib.hid R7
            obtain ⟨w7, hw7⟩ : ∃ w7, w6.drewN nq = w7 := ⟨_, rfl⟩
            rw [hw7] at R7 HA b0' b1' f0' f1' ⊢
            clear R6 d3 hlD hneD cg2 cg12 hlg hneg hw7 ea ev y0 y1 x2
            have hlK := R7.out.at_.lt
            go_wp2_with fail
            refine HA.out.mono ?_
            rintro e w8 ⟨rfl, hq⟩
            have R8 := R7.out.next hq
            have f0' := R8.at_.frozen 0
            have f1' := R8.at_.frozen 1
            have b0' := R8.at_.cell 0
            have b1' := R8.at_.cell 1
            simp only [List.getElem?_toArray, List.getElem?_cons_zero, List.getElem?_cons_succ] at b0' b1'
            have hlK := R8.at_.lt
            have R9 := Lib.hid (R8.move a' v')
            clear R8 hq HA R7
            go_wp2_with fail
            go_roundw
            case rel => exact ⟨l ++ [d], f, a', v', R9.out, Hgo.out, by have := Hsum.out; have := Hm.out; simp; omega, hal3⟩
            case measure => have := Hsum.out; have := Hm.out; simp [lenV]; omega
end Go.Proofs.Ytoblemgeacllkaa
