/-
  rest: the descriptors of the chain that stands at NEXT, or that there are too many.
-/
import Derived.Test.YtoblemgeacllkaaDq1
import Derived.Test.YtoblemgeacllkaaGm5
import Derived.BigRegion
namespace Go.Proofs.Ytoblemgeacllkaa
open Go.RowKit

theorem Try.info35 : (Try.prog.info? 35).map (fun i => (i.zero, i.size, i.bytes)) = some (some (.agg #[.int .u64 0, .int .u32 0, .int .i64 0, .int .i64 0]), 4, 32) := by kernel_rfl
theorem Try.info56 : (Try.prog.info? 56).map (fun i => (i.zero, i.size, i.bytes)) = some (some (.agg #[.int .i64 0, .int .i64 0, .bool false]), 3, 24) := by kernel_rfl
section
variable {c : Ctx} {wE w w' : World}
/-- a row of the call's own grows -/
theorem Rm.grown {e : TypeId} {size n : Nat} {v : Value} {ys : List Value} {B : Nat} (h : Rm c wE w) (hown : w.ownsRow B e size v n ys) (hB : wE.heap.size ≤ B) (hg : w.grownBy w' v.ownBlock) (a : e ≠ 91) (b : e ≠ 5) (d : e ≠ 111) (x : e ≠ 93) : Rm c wE w' := by
  obtain ⟨lv1, hM, hT, hL⟩ := h.mem
  have hne : ∀ k t cs fr, w.heap[k]? = some (Obj.cells cs t fr) → t ≠ e → some k ≠ v.ownBlock := by
    intro k t cs fr hk hte hkv
    rcases hown.2 with ⟨rfl, _⟩ | ⟨g, cap, cur, rfl, _, hh, _⟩
    · simp [Value.ownBlock] at hkv
    · have : k = g := by simpa [Value.ownBlock] using hkv
      subst this
      rw [hh] at hk; injection hk with hk; injection hk with _ e1; exact hte e1.symm
  have hge : ∀ k, v.ownBlock = some k → wE.heap.size ≤ k := fun k hk => Nat.le_trans hB (hown.lt k hk).1
  have hlt := hM.lt
  obtain ⟨ag, lg, old, hR⟩ := id hM
  have m1 := hg.block c.g hlt.1 (hne _ _ _ _ hR.blk (fun y => a y.symm))
  have m2 := hg.block c.gb hlt.2.1 (hne _ _ _ _ hR.row (fun y => b y.symm))
  have m3 : ∀ k, lv1.ownBlock = some k → w'.heap[k]? = w.heap[k]? := fun k hk => hg.block k (hlt.2.2 k hk) (by
    rcases hR.log.2 with ⟨rfl, _⟩ | ⟨g', cap, cur, rfl, _, hh, _⟩
    · simp [Value.ownBlock] at hk
    · have : g' = k := by simpa [Value.ownBlock] using hk
      subst this
      exact hne _ _ _ _ hh (fun y => d y.symm))
  refine ⟨h.blk.same (hg.block _ h.blk.lt (hne _ _ _ _ h.blk (fun y => x y.symm))), ⟨lv1, hM.kept m1 m2 m3, ⟨hg.os.trans hT.os, hg.tape.trans hT.tape, hg.output.trans hT.output, Nat.le_trans hT.size hg.size, fun k hk p q r => (hg.block k (by have := hT.size; omega) (fun e1 => by have := hge k e1.symm; have := h.base; omega)).trans (hT.block k hk p q r)⟩, hL⟩, ?_, h.base⟩
  exact ⟨Nat.le_trans h.keep.size hg.size, fun k t cs fr hk p q r => (hg.block k (by have := heap_lt hk; have := h.keep.size; omega) (fun e1 => by have := hge k e1.symm; have := heap_lt hk; omega)).trans (h.keep.block k t cs fr hk p q r)⟩
end
theorem Blk.grown {w w' : World} {k : Nat} {t e : TypeId} {cs : Array Value} {size n B : Nat} {v : Value} {ys : List Value} (h : Blk w k t cs) (hown : w.ownsRow B e size v n ys) (hg : w.grownBy w' v.ownBlock) (hte : e ≠ t) : Blk w' k t cs :=
  h.same (hg.block k h.lt (fun e1 => own_ne hown h hte e1.symm))
/-- a slice of one element, just built -/
theorem own_one {w : World} {k : Nat} {e : TypeId} {size B : Nat} {cs : List Value} (h : Blk w k e cs.toArray) (hB : B ≤ k) (hl : cs.length = size) : w.ownsRow B e size (.slice (some ⟨k, 0, none⟩) 1 1) 1 cs :=
  ⟨by omega, .inr ⟨k, 1, cs.toArray, rfl, hB, h, Nat.le_refl _, by unfold maxLen; omega, by simp; omega, by rw [Nat.one_mul, ← hl]; exact List.take_length⟩⟩
def lenV : Value → Nat
  | .slice _ n _ => n
  | _ => 0

/-- what rest answers -/
def RestP (c : Ctx) (w : World) (V : Option (List De)) (e : Ending) (w' : World) : Prop :=
  Rm c w w' ∧ match V with
  | none => Bad e
  | some l => ∃ A cap, e = .returned (.slice A l.length cap) ∧ w'.ownsRow w.heap.size 35 4 (.slice A l.length cap) l.length (desCells l)
/-- rest's loop -/
structure RestL (c : Ctx) (w : World) (K M : Nat) (V : Option (List De)) (s : Value) (l : List De) (d : De) (f a : Nat) (v : Bool) (wr : World) : Prop where
  rm : Rm c w wr
  own : wr.ownsRow w.heap.size 35 4 s (l.length + 1) (desCells (l ++ [d]))
  at_ : Blk wr K 46 #[.int .i64 (a : Int), .bool v]
  go : ringGo c.xs c.q.ring c.q.size f a l d = V
  sum : l.length + 1 + f = M
  lt : a < c.q.size
  ok : d.Ok
  ge : w.heap.size ≤ K
set_option maxRecDepth 100000 in
set_option maxHeartbeats 1600000 in
theorem rest_any {c : Ctx} {wE w : World} (h : Rm c wE w) (hq : c.q.Ok c.xs.length) (d0 : De) (hd : d0.Ok) (hout : c.q.out < c.q.size) :
    Calls Try.prog 87 #[.pointer (some ⟨c.gq, 0, none⟩), d0.v] w (RestP c w (ringGo c.xs c.q.ring c.q.size (allowed c.q - 1) c.q.na [] d0)) := by
  have HE := Lib.hid h.enter
  have HQ := Lib.hid hq
  have HD := Lib.hid hd
  obtain ⟨i0, hi, hz0, hz1, hz2⟩ := info_parts Try.info35
  have HI := Lib.hid hi
  have HZ0 := Lib.hid hz0
  have HZ1 := Lib.hid hz1
  have HZ2 := Lib.hid hz2
  clear hi hz0 hz1 hz2
  obtain ⟨-, -, p2, -, p5, p6, -, -, p9⟩ := h.cells
  have hlt := h.lt
  have hne := Nat.ne_of_lt hlt
  obtain ⟨M, hM, hM1, hM2⟩ : ∃ M, allowed c.q = M ∧ 1 ≤ M ∧ M ≤ 64 := ⟨_, rfl, by unfold allowed; omega, by unfold allowed; omega⟩
  rw [hM]
  have hs2 := hq.s2
  have v1 : IntKind.i64.wrap ((c.q.size : Int) - (c.q.out : Int)) = (c.q.size : Int) - (c.q.out : Int) := by rw [IntKind.wrap_i64]; omega
  have v2 : (if 64 < (c.q.size : Int) - (c.q.out : Int) then (64 : Int) else (c.q.size : Int) - (c.q.out : Int)) = (M : Int) := by rw [← hM]; unfold allowed; split <;> omega
  have HM := Lib.hid hM
  clear h hq hd hM
  obtain ⟨V, hV⟩ : ∃ V, ringGo c.xs c.q.ring c.q.size (M - 1) c.q.na [] d0 = V := ⟨_, rfl⟩
  rw [hV]
  have HV := Lib.hid hV
  clear hV
  unfold De.v
  go_enter Try.func87, Try.ntmps87
  go_wp2_with fail
  go_region
  have e1 := (HE.out.alloc (.cells #[.int .u64 (d0.a : Int), .int .u32 (d0.n : Int), .int .i64 (d0.id : Int), .int .i64 (d0.f : Int)] 35)).drew
  have k1 := (Blk.new w 35 #[.int .u64 (d0.a : Int), .int .u32 (d0.n : Int), .int .i64 (d0.id : Int), .int .i64 (d0.f : Int)]).drew
  obtain ⟨W1, hW1⟩ : ∃ W1, (w.alloc (.cells #[.int .u64 (d0.a : Int), .int .u32 (d0.n : Int), .int .i64 (d0.id : Int), .int .i64 (d0.f : Int)] 35)).drew = W1 := ⟨_, rfl⟩
  rw [hW1] at e1 k1 ⊢
  clear hW1 p2 p9 v1 p5 p6 hne hlt
  obtain ⟨-, -, -, -, p5, p6, -, -, -⟩ := e1.cells
  have b0 := k1.cell 0
  have b1 := k1.cell 1
  have b2 := k1.cell 2
  have b3 := k1.cell 3
  simp only [List.getElem?_toArray, List.getElem?_cons_zero, List.getElem?_cons_succ] at b0 b1 b2 b3
  have hlt := e1.lt
  have hne := Nat.ne_of_lt hlt
  have hlt2 := k1.lt
  have E1 := Lib.hid e1
  clear e1 k1
  have hsz := E1.out.keep.size
  have hw1 : w.heap.size ≤ W1.heap.size := hsz
  clear hsz
  go_wp2_with fail
  go_region
  · have RL : RestL c w (W1.heap.size + 1) M V (.slice (some ⟨W1.heap.size, 0, none⟩) 1 1) [] d0 (M - 1) c.q.na c.q.nw (((W1.alloc (.cells #[.int .u64 (d0.a : Int), .int .u32 (d0.n : Int), .int .i64 (d0.id : Int), .int .i64 (d0.f : Int)] 35)).alloc (.cells #[.int .i64 (c.q.na : Int), .bool c.q.nw] 46)).drew) :=
      ⟨((E1.out.alloc _).alloc _).drew, own_one ((Blk.new W1 35 _).alloc _).drew hw1 rfl, (Sp.Blk.new2 W1 _ 46 _).drew, HV.out, by simp; omega, HQ.out.na, HD.out, by omega⟩
    obtain ⟨W2, hW2⟩ : ∃ W2, (((W1.alloc (.cells #[.int .u64 (d0.a : Int), .int .u32 (d0.n : Int), .int .i64 (d0.id : Int), .int .i64 (d0.f : Int)] 35)).alloc (.cells #[.int .i64 (c.q.na : Int), .bool c.q.nw] 46)).drew) = W2 := ⟨_, rfl⟩
    obtain ⟨K, hK⟩ : ∃ K, W1.heap.size + 1 = K := ⟨_, rfl⟩
    obtain ⟨G, hG⟩ : ∃ G, W1.heap.size = G := ⟨_, rfl⟩
    rw [hW2] at RL ⊢
    rw [hK] at RL ⊢
    rw [hG] at RL ⊢
    clear hW2 hK hG
    clear p5 p6 b0 b1 b2 b3 hlt hne hlt2 E1 hw1
    go_wp2_with fail
    go_loopw [6] (fun s wr => ∃ l d f a v, RestL c w K M V s l d f a v wr) (fun s _ => M - lenV s)
    case atStart => exact ⟨_, _, _, _, _, RL⟩
    case round =>
      obtain ⟨l, d, f, a, v, RL⟩ := hrel
      obtain ⟨gr, cap, rfl, hge, hltg⟩ := RL.own.form (by omega)
      have hcl := desCells_at (l ++ [d]) l.length (by simp)
      rw [List.getElem_append_right (by omega)] at hcl
      simp only [Nat.sub_self, List.getElem_cons_zero] at hcl
      have hrow := RL.own.cells (g := gr) rfl
      have r0 := hrow _ _ hcl.1
      have r1 := hrow _ _ hcl.2.1
      have r2 := hrow _ _ hcl.2.2.1
      have r3 := hrow _ _ hcl.2.2.2
      have HB := fun W => has_any d RL.ok 1 (.inl rfl) W
      rw [addr_zero] at r0 r1 r2 r3
      have a0 := RL.at_.cell 0
      have a1 := RL.at_.cell 1
      simp only [List.getElem?_toArray, List.getElem?_cons_zero, List.getElem?_cons_succ] at a0 a1
      have f0 := RL.at_.frozen 0
      have f1 := RL.at_.frozen 1
      have hlt := RL.rm.lt
      have hltk := RL.at_.lt
      have hsum := RL.sum
      have HR := Lib.hid RL
      obtain ⟨m, hm⟩ : ∃ m, l.length = m := ⟨_, rfl⟩
      rw [hm] at r0 r1 r2 r3 hsum ⊢
      have hmb : m ≤ 63 := by omega
      have hw2 := RL.rm.keep.size
      have hgk := RL.ge
      have hal := RL.lt
      clear hcl hrow RL
      unfold De.v at HB
      cases hb : d.bit 1
      · rw [hb] at HB
        have HB := Lib.hid HB
        obtain rfl : some (l ++ [d]) = V := by rw [← HR.out.go, ringGo_end hb]
        have Hm := Lib.hid hm
        clear hm a0 a1 f0 f1 hltk hsum hb
        go_wp2_with fail
        refine (HB.out _).mono ?_
        rintro e w1 ⟨rfl, hq⟩
        go_wp2_with fail
        go_ret
        refine ⟨HR.out.rm.below hq, some ⟨gr, 0, none⟩, cap, ?_, ?_⟩
        · rw [List.length_append, Hm.out]; rfl
        · have := own_same HR.out.own (fun k hk => hq.block k (HR.out.own.lt k hk).2)
          rw [List.length_append]
          exact this
      · rw [hb] at HB
        have HB := Lib.hid HB
        cases f with
        | zero =>
          obtain rfl : none = V := by rw [← HR.out.go, ringGo_none hb]
          have hno : decide ((m : Int) + 1 < (M : Int)) = false := decide_eq_false (by omega)
          have Hm := Lib.hid hm
          clear hm a0 a1 f0 f1 hltk hsum hb
          go_wp2_with fail
          refine (HB.out _).mono ?_
          rintro e w1 ⟨rfl, hq⟩
          go_wp2_with fail
          refine (req_no _).mono ?_
          rintro e w2 ⟨he, rfl⟩
          unfold Bad at he
          subst he
          exact ⟨rfl, HR.out.rm.below hq, rfl⟩
        | succ f =>
          have hyes : decide ((m : Int) + 1 < (M : Int)) = true := decide_eq_true (by omega)
          have Hm := Lib.hid hm
          have Hs := Lib.hid hsum
          have Hb := Lib.hid hb
          clear hm hsum hb
          go_wp2_with fail
          refine (HB.out _).mono ?_
          rintro e w1 ⟨rfl, hq⟩
          have R1 := HR.out.rm.below hq
          have A1 := HR.out.at_.same (hq.block _ HR.out.at_.lt)
          have O1 := own_same HR.out.own (fun k hk => hq.block k (HR.out.own.lt k hk).2)
          clear hq r0 r1 r2 r3 a0 a1 f0 f1
          have a0 := A1.cell 0
          have a1 := A1.cell 1
          simp only [List.getElem?_toArray, List.getElem?_cons_zero, List.getElem?_cons_succ] at a0 a1
          have RR := Lib.hid R1
          have AA := Lib.hid A1
          have OO := Lib.hid O1
          clear R1 A1 O1
          go_wp2_with fail
          refine (req_yes _).mono ?_
          rintro e w2 ⟨rfl, rfl⟩
          go_wp2_with fail
          have HA := after_any RR.out a 1 v HQ.out.s1 HQ.out.s2 hal HQ.out.s1
          have HO := fun W (h : Rm c W W) => offset_any h (stA c.q.size a 1) (stW c.q.size a 1 v) (by have := HQ.out.r; have := stA_lt hal HQ.out.s1; obtain ⟨lvx, hMx⟩ := RR.out.get; have := hMx.len; omega)
          have HX := fun W (h : Rm c W W) => desc_any h (c.q.ring + 16 * stA c.q.size a 1) (by have := HQ.out.r; have := stA_lt hal HQ.out.s1; omega)
          have hok := deAt_ok c.xs (c.q.ring + 16 * stA c.q.size a 1) (by have := HQ.out.r; have := stA_lt hal HQ.out.s1; omega)
          have hgo := (ringGo_step (f := f) (xs := c.xs) (ring := c.q.ring) (size := c.q.size) (a := a) (l := l) Hb.out).symm.trans HR.out.go
          have hal2 := stA_lt hal HQ.out.s1
          rw [show ((1 : Nat) : Int) = 1 from rfl] at HA
          obtain ⟨a', ea⟩ : ∃ a', stA c.q.size a 1 = a' := ⟨_, rfl⟩
          obtain ⟨v', ev⟩ : ∃ v', stW c.q.size a 1 v = v' := ⟨_, rfl⟩
          rw [ea] at HA HO HX hok hgo hal2
          rw [ev] at HA HO
          obtain ⟨d', ed⟩ : ∃ d', deAt c.xs (c.q.ring + 16 * a') = d' := ⟨_, rfl⟩
          obtain ⟨p', ep⟩ : ∃ p', ((c.q.ring + 16 * a' : Nat) : Int) = p' := ⟨_, rfl⟩
          rw [ed] at HX hok hgo
          rw [ep] at HX HO
          have HO := Lib.hid HO
          unfold De.v at HX
          have HX := Lib.hid HX
          have Hok := Lib.hid hok
          have Hgo := Lib.hid hgo
          clear ea ev ed ep hok hgo
          refine HA.mono ?_
          rintro e w2 ⟨rfl, R2⟩
          clear HA a0 a1
          have A2 := AA.out.keep R2.keep (by decide) (by decide) (by decide)
          have O2 := own_keep OO.out R2.keep (by decide) (by decide) (by decide)
          have R2 := RR.out.leave R2
          have a0 := A2.cell 0
          have a1 := A2.cell 1
          simp only [List.getElem?_toArray, List.getElem?_cons_zero, List.getElem?_cons_succ] at a0 a1
          have f0 := A2.frozen 0
          have f1 := A2.frozen 1
          obtain ⟨R3, A3⟩ := R2.put2 A2 hgk (by decide) (by decide) (by decide) (by decide) (.int .i64 (a' : Int)) (.bool v')
          have O3 := own_same (w' := (w2.setCell ⟨K, 0, none⟩ (.int .i64 (a' : Int))).setCell ⟨K, 1, none⟩ (.bool v')) O2 (fun k hk => by
            have hne : k ≠ K := fun e => own_ne O2 A2 (by decide) (e ▸ hk)
            rw [Below.heap_setCell _ _ _ _ hne, Below.heap_setCell _ _ _ _ hne])
          obtain ⟨W3, hW3⟩ : ∃ W3, (w2.setCell ⟨K, 0, none⟩ (.int .i64 (a' : Int))).setCell ⟨K, 1, none⟩ (.bool v') = W3 := ⟨_, rfl⟩
          have R3 := Lib.hid R3
          have A3 := Lib.hid A3
          have O3 := Lib.hid O3
          rw [hW3] at R3 A3 O3
          have Hw3 := Lib.hid hW3
          clear A2 O2 R2 hW3
          go_wp2_with fail
          rw [Hw3.out]
          refine (HO.out _ R3.out.enter).mono ?_
          rintro e w4 ⟨rfl, hq4⟩
          have R4 := R3.out.below hq4
          have A4 := A3.out.same (hq4.block _ A3.out.lt)
          have O4 := own_same O3.out (fun k hk => hq4.block k (O3.out.lt k hk).2)
          clear hq4 R3 A3 O3 Hw3 a0 a1 f0 f1 HO RR AA OO
          go_wp2_with fail
          refine (HX.out _ R4.enter).mono ?_
          rintro e w5 ⟨rfl, R5⟩
          have A5 := (A4.keep R5.keep (by decide) (by decide) (by decide)).alloc (.cells #[.int .u64 (d'.a : Int), .int .u32 (d'.n : Int), .int .i64 (d'.id : Int), .int .i64 (d'.f : Int)] 35)
          have O5 := (own_keep O4 R5.keep (by decide) (by decide) (by decide)).alloc (.cells #[.int .u64 (d'.a : Int), .int .u32 (d'.n : Int), .int .i64 (d'.id : Int), .int .i64 (d'.f : Int)] 35)
          have R5 := (R4.leave R5).alloc (.cells #[.int .u64 (d'.a : Int), .int .u32 (d'.n : Int), .int .i64 (d'.id : Int), .int .i64 (d'.f : Int)] 35)
          rw [Hm.out] at O5
          have hnews := World.news_of_block (w := w5.alloc (.cells #[.int .u64 (d'.a : Int), .int .u32 (d'.n : Int), .int .i64 (d'.id : Int), .int .i64 (d'.f : Int)] 35)) (heap_alloc_new w5 _)
          have hbase := R5.keep.size
          clear A4 O4 R4 HX
          have R5 := Lib.hid R5
          have A5 := Lib.hid A5
          have O5 := Lib.hid O5
          have HW := Lib.hid hnews
          clear hnews
          go_wp2_with (at_builtin; refine wpList_append_lies _ rfl (.tmp 40) (.tmp 46) 118 rfl w.heap.size 35 i0 _ 4 32 Try.underlying118 HI.out HZ0.out HZ1.out HZ2.out rfl (by decide) (.slice (some ⟨gr, 0, none⟩) (m + 1) cap) (m + 1) (desCells (l ++ [d])) rfl O5.out ⟨w5.heap.size, 0, none⟩ 1 1 (De.cells d') rfl rfl HW.out (des_one d') (by decide) (by unfold maxLen; omega) (by omega) hbase (w5.heap.size + 1) (by simp) ?_; intro g2 cap2 w6 hown hgrow hat hlt2)
          have R6 := R5.out.grown O5.out (Nat.le_refl _) hgrow (by decide) (by decide) (by decide) (by decide)
          have A6 := A5.out.grown O5.out hgrow (by decide)
          have H6 := Lib.hid hown
          have H7 := Lib.hid R6
          clear hgrow hat hown R6
          go_roundw
          case rel =>
            refine ⟨l ++ [d], d', f, a', v', ⟨H7.out, ?_, A6, Hgo.out, ?_, hal2, Hok.out, hgk⟩⟩
            · rw [List.length_append, Hm.out, desCells_append]
              have := H6.out
              simpa [desCells] using this
            · rw [List.length_append, Hm.out]
              have := Hs.out
              simp
              omega
          case measure =>
            have := Hs.out
            simp [lenV]
            omega
  · have RL : RestL c w W1.heap.size M V (.slice (some ⟨W1.heap.size + 1, 0, none⟩) 1 1) [] d0 (M - 1) c.q.na c.q.nw (((W1.alloc (.cells #[.int .i64 (c.q.na : Int), .bool c.q.nw] 46)).alloc (.cells #[.int .u64 (d0.a : Int), .int .u32 (d0.n : Int), .int .i64 (d0.id : Int), .int .i64 (d0.f : Int)] 35)).drew) :=
      ⟨((E1.out.alloc _).alloc _).drew, own_one (Sp.Blk.new2 W1 _ 35 _).drew (by omega) rfl, ((Blk.new W1 46 _).alloc _).drew, HV.out, by simp; omega, HQ.out.na, HD.out, by omega⟩
    obtain ⟨W2, hW2⟩ : ∃ W2, (((W1.alloc (.cells #[.int .i64 (c.q.na : Int), .bool c.q.nw] 46)).alloc (.cells #[.int .u64 (d0.a : Int), .int .u32 (d0.n : Int), .int .i64 (d0.id : Int), .int .i64 (d0.f : Int)] 35)).drew) = W2 := ⟨_, rfl⟩
    obtain ⟨G, hG⟩ : ∃ G, W1.heap.size + 1 = G := ⟨_, rfl⟩
    obtain ⟨K, hK⟩ : ∃ K, W1.heap.size = K := ⟨_, rfl⟩
    rw [hW2] at RL ⊢
    rw [hG] at RL ⊢
    rw [hK] at RL ⊢
    clear hW2 hK hG
    clear p5 p6 b0 b1 b2 b3 hlt hne hlt2 E1 hw1
    go_wp2_with fail
    go_loopw [6] (fun s wr => ∃ l d f a v, RestL c w K M V s l d f a v wr) (fun s _ => M - lenV s)
    case atStart => exact ⟨_, _, _, _, _, RL⟩
    case round =>
      obtain ⟨l, d, f, a, v, RL⟩ := hrel
      obtain ⟨gr, cap, rfl, hge, hltg⟩ := RL.own.form (by omega)
      have hcl := desCells_at (l ++ [d]) l.length (by simp)
      rw [List.getElem_append_right (by omega)] at hcl
      simp only [Nat.sub_self, List.getElem_cons_zero] at hcl
      have hrow := RL.own.cells (g := gr) rfl
      have r0 := hrow _ _ hcl.1
      have r1 := hrow _ _ hcl.2.1
      have r2 := hrow _ _ hcl.2.2.1
      have r3 := hrow _ _ hcl.2.2.2
      have HB := fun W => has_any d RL.ok 1 (.inl rfl) W
      rw [addr_zero] at r0 r1 r2 r3
      have a0 := RL.at_.cell 0
      have a1 := RL.at_.cell 1
      simp only [List.getElem?_toArray, List.getElem?_cons_zero, List.getElem?_cons_succ] at a0 a1
      have f0 := RL.at_.frozen 0
      have f1 := RL.at_.frozen 1
      have hlt := RL.rm.lt
      have hltk := RL.at_.lt
      have hsum := RL.sum
      have HR := Lib.hid RL
      obtain ⟨m, hm⟩ : ∃ m, l.length = m := ⟨_, rfl⟩
      rw [hm] at r0 r1 r2 r3 hsum ⊢
      have hmb : m ≤ 63 := by omega
      have hw2 := RL.rm.keep.size
      have hgk := RL.ge
      have hal := RL.lt
      clear hcl hrow RL
      unfold De.v at HB
      cases hb : d.bit 1
      · rw [hb] at HB
        have HB := Lib.hid HB
        obtain rfl : some (l ++ [d]) = V := by rw [← HR.out.go, ringGo_end hb]
        have Hm := Lib.hid hm
        clear hm a0 a1 f0 f1 hltk hsum hb
        go_wp2_with fail
        refine (HB.out _).mono ?_
        rintro e w1 ⟨rfl, hq⟩
        go_wp2_with fail
        go_ret
        refine ⟨HR.out.rm.below hq, some ⟨gr, 0, none⟩, cap, ?_, ?_⟩
        · rw [List.length_append, Hm.out]; rfl
        · have := own_same HR.out.own (fun k hk => hq.block k (HR.out.own.lt k hk).2)
          rw [List.length_append]
          exact this
      · rw [hb] at HB
        have HB := Lib.hid HB
        cases f with
        | zero =>
          obtain rfl : none = V := by rw [← HR.out.go, ringGo_none hb]
          have hno : decide ((m : Int) + 1 < (M : Int)) = false := decide_eq_false (by omega)
          have Hm := Lib.hid hm
          clear hm a0 a1 f0 f1 hltk hsum hb
          go_wp2_with fail
          refine (HB.out _).mono ?_
          rintro e w1 ⟨rfl, hq⟩
          go_wp2_with fail
          refine (req_no _).mono ?_
          rintro e w2 ⟨he, rfl⟩
          unfold Bad at he
          subst he
          exact ⟨rfl, HR.out.rm.below hq, rfl⟩
        | succ f =>
          have hyes : decide ((m : Int) + 1 < (M : Int)) = true := decide_eq_true (by omega)
          have Hm := Lib.hid hm
          have Hs := Lib.hid hsum
          have Hb := Lib.hid hb
          clear hm hsum hb
          go_wp2_with fail
          refine (HB.out _).mono ?_
          rintro e w1 ⟨rfl, hq⟩
          have R1 := HR.out.rm.below hq
          have A1 := HR.out.at_.same (hq.block _ HR.out.at_.lt)
          have O1 := own_same HR.out.own (fun k hk => hq.block k (HR.out.own.lt k hk).2)
          clear hq r0 r1 r2 r3 a0 a1 f0 f1
          have a0 := A1.cell 0
          have a1 := A1.cell 1
          simp only [List.getElem?_toArray, List.getElem?_cons_zero, List.getElem?_cons_succ] at a0 a1
          have RR := Lib.hid R1
          have AA := Lib.hid A1
          have OO := Lib.hid O1
          clear R1 A1 O1
          go_wp2_with fail
          refine (req_yes _).mono ?_
          rintro e w2 ⟨rfl, rfl⟩
          go_wp2_with fail
          have HA := after_any RR.out a 1 v HQ.out.s1 HQ.out.s2 hal HQ.out.s1
          have HO := fun W (h : Rm c W W) => offset_any h (stA c.q.size a 1) (stW c.q.size a 1 v) (by have := HQ.out.r; have := stA_lt hal HQ.out.s1; obtain ⟨lvx, hMx⟩ := RR.out.get; have := hMx.len; omega)
          have HX := fun W (h : Rm c W W) => desc_any h (c.q.ring + 16 * stA c.q.size a 1) (by have := HQ.out.r; have := stA_lt hal HQ.out.s1; omega)
          have hok := deAt_ok c.xs (c.q.ring + 16 * stA c.q.size a 1) (by have := HQ.out.r; have := stA_lt hal HQ.out.s1; omega)
          have hgo := (ringGo_step (f := f) (xs := c.xs) (ring := c.q.ring) (size := c.q.size) (a := a) (l := l) Hb.out).symm.trans HR.out.go
          have hal2 := stA_lt hal HQ.out.s1
          rw [show ((1 : Nat) : Int) = 1 from rfl] at HA
          obtain ⟨a', ea⟩ : ∃ a', stA c.q.size a 1 = a' := ⟨_, rfl⟩
          obtain ⟨v', ev⟩ : ∃ v', stW c.q.size a 1 v = v' := ⟨_, rfl⟩
          rw [ea] at HA HO HX hok hgo hal2
          rw [ev] at HA HO
          obtain ⟨d', ed⟩ : ∃ d', deAt c.xs (c.q.ring + 16 * a') = d' := ⟨_, rfl⟩
          obtain ⟨p', ep⟩ : ∃ p', ((c.q.ring + 16 * a' : Nat) : Int) = p' := ⟨_, rfl⟩
          rw [ed] at HX hok hgo
          rw [ep] at HX HO
          have HO := Lib.hid HO
          unfold De.v at HX
          have HX := Lib.hid HX
          have Hok := Lib.hid hok
          have Hgo := Lib.hid hgo
          clear ea ev ed ep hok hgo
          refine HA.mono ?_
          rintro e w2 ⟨rfl, R2⟩
          clear HA a0 a1
          have A2 := AA.out.keep R2.keep (by decide) (by decide) (by decide)
          have O2 := own_keep OO.out R2.keep (by decide) (by decide) (by decide)
          have R2 := RR.out.leave R2
          have a0 := A2.cell 0
          have a1 := A2.cell 1
          simp only [List.getElem?_toArray, List.getElem?_cons_zero, List.getElem?_cons_succ] at a0 a1
          have f0 := A2.frozen 0
          have f1 := A2.frozen 1
          obtain ⟨R3, A3⟩ := R2.put2 A2 hgk (by decide) (by decide) (by decide) (by decide) (.int .i64 (a' : Int)) (.bool v')
          have O3 := own_same (w' := (w2.setCell ⟨K, 0, none⟩ (.int .i64 (a' : Int))).setCell ⟨K, 1, none⟩ (.bool v')) O2 (fun k hk => by
            have hne : k ≠ K := fun e => own_ne O2 A2 (by decide) (e ▸ hk)
            rw [Below.heap_setCell _ _ _ _ hne, Below.heap_setCell _ _ _ _ hne])
          obtain ⟨W3, hW3⟩ : ∃ W3, (w2.setCell ⟨K, 0, none⟩ (.int .i64 (a' : Int))).setCell ⟨K, 1, none⟩ (.bool v') = W3 := ⟨_, rfl⟩
          have R3 := Lib.hid R3
          have A3 := Lib.hid A3
          have O3 := Lib.hid O3
          rw [hW3] at R3 A3 O3
          have Hw3 := Lib.hid hW3
          clear A2 O2 R2 hW3
          go_wp2_with fail
          rw [Hw3.out]
          refine (HO.out _ R3.out.enter).mono ?_
          rintro e w4 ⟨rfl, hq4⟩
          have R4 := R3.out.below hq4
          have A4 := A3.out.same (hq4.block _ A3.out.lt)
          have O4 := own_same O3.out (fun k hk => hq4.block k (O3.out.lt k hk).2)
          clear hq4 R3 A3 O3 Hw3 a0 a1 f0 f1 HO RR AA OO
          go_wp2_with fail
          refine (HX.out _ R4.enter).mono ?_
          rintro e w5 ⟨rfl, R5⟩
          have A5 := (A4.keep R5.keep (by decide) (by decide) (by decide)).alloc (.cells #[.int .u64 (d'.a : Int), .int .u32 (d'.n : Int), .int .i64 (d'.id : Int), .int .i64 (d'.f : Int)] 35)
          have O5 := (own_keep O4 R5.keep (by decide) (by decide) (by decide)).alloc (.cells #[.int .u64 (d'.a : Int), .int .u32 (d'.n : Int), .int .i64 (d'.id : Int), .int .i64 (d'.f : Int)] 35)
          have R5 := (R4.leave R5).alloc (.cells #[.int .u64 (d'.a : Int), .int .u32 (d'.n : Int), .int .i64 (d'.id : Int), .int .i64 (d'.f : Int)] 35)
          rw [Hm.out] at O5
          have hnews := World.news_of_block (w := w5.alloc (.cells #[.int .u64 (d'.a : Int), .int .u32 (d'.n : Int), .int .i64 (d'.id : Int), .int .i64 (d'.f : Int)] 35)) (heap_alloc_new w5 _)
          have hbase := R5.keep.size
          clear A4 O4 R4 HX
          have R5 := Lib.hid R5
          have A5 := Lib.hid A5
          have O5 := Lib.hid O5
          have HW := Lib.hid hnews
          clear hnews
          go_wp2_with (at_builtin; refine wpList_append_lies _ rfl (.tmp 40) (.tmp 46) 118 rfl w.heap.size 35 i0 _ 4 32 Try.underlying118 HI.out HZ0.out HZ1.out HZ2.out rfl (by decide) (.slice (some ⟨gr, 0, none⟩) (m + 1) cap) (m + 1) (desCells (l ++ [d])) rfl O5.out ⟨w5.heap.size, 0, none⟩ 1 1 (De.cells d') rfl rfl HW.out (des_one d') (by decide) (by unfold maxLen; omega) (by omega) hbase (w5.heap.size + 1) (by simp) ?_; intro g2 cap2 w6 hown hgrow hat hlt2)
          have R6 := R5.out.grown O5.out (Nat.le_refl _) hgrow (by decide) (by decide) (by decide) (by decide)
          have A6 := A5.out.grown O5.out hgrow (by decide)
          have H6 := Lib.hid hown
          have H7 := Lib.hid R6
          clear hgrow hat hown R6
          go_roundw
          case rel =>
            refine ⟨l ++ [d], d', f, a', v', ⟨H7.out, ?_, A6, Hgo.out, ?_, hal2, Hok.out, hgk⟩⟩
            · rw [List.length_append, Hm.out, desCells_append]
              have := H6.out
              simpa [desCells] using this
            · rw [List.length_append, Hm.out]
              have := Hs.out
              simp
              omega
          case measure =>
            have := Hs.out
            simp [lenV]
            omega
end Go.Proofs.Ytoblemgeacllkaa
